import PyProof.Rows.All
import Wide.All
import OpenK.AllK
import Wide.FinOn
import Lean
import PyProof.EqAt
import PyProof.EqKinds
import PyProof.TupleCall
import PyProof.SetScanFacts
import PyProof.SetKind
import PyProof.TupleKey
import PyProof.Rows.SetFrom
import PyProof.WalksS
import PyProof.CollectWalk
import PySem.Challenge.RW_pactroom_k33_bound_and_lost
set_option Elab.async false
set_option linter.all false
set_option maxRecDepth 100000
/-! THE HAND LAYER, for ints, bools, texts, own classes, LISTS and tuples (index, slices, in, append, pop ..), calls, loops. Paste it whole ahead of your own text; what your proof does not reach may be deleted. -/
namespace L2
open PySem PySem.Spec PyProof.Rows

/-- a key: an int or a str -/
abbrev Key := Sum Int Str
def keyIs : Key → Value → Bool
  | .inl k, v => Value.isInt k v
  | .inr x, v => Value.isStrOf x v
def keyH (w : World) : Key → Int
  | .inl k => hashInt k
  | .inr x => hashStr w x
theorem keyIs_shape : ∀ {k : Key} {v : Value}, keyIs k v = true → (∃ i t, k = Sum.inl i ∧ v = Value.int i t) ∨ (∃ x t, k = Sum.inr x ∧ v = Value.str x t)
  | .inl i, v, h => by
    obtain ⟨t, e⟩ := Value.isInt_shape (k := i) (v := v) h
    exact .inl ⟨i, t, rfl, e⟩
  | .inr x, v, h => by
    obtain ⟨t, e⟩ := Value.isStrOf_shape (x := x) (v := v) h
    exact .inr ⟨x, t, rfl, e⟩
theorem keyIs_int (i : Int) (t : Tok) : keyIs (.inl i) (.int i t) = true := by simp [keyIs, Value.isInt]
theorem keyIs_str (x : Str) (t : Tok) : keyIs (.inr x) (.str x t) = true := by simp [keyIs, Value.isStrOf]
theorem key_ll (a b : Int) : decide ((Sum.inl a : Key) = Sum.inl b) = (a == b) := by
  by_cases e : a = b
  · subst e; simp
  · have h : ¬ (Sum.inl a : Key) = Sum.inl b := fun q => e (Sum.inl.inj q)
    rw [decide_eq_false h]
    exact (beq_eq_false_iff_ne.mpr e).symm
theorem key_rr (a b : Str) : decide ((Sum.inr a : Key) = Sum.inr b) = decide (a = b) := by
  by_cases e : a = b
  · subst e; simp
  · have h : ¬ (Sum.inr a : Key) = Sum.inr b := fun q => e (Sum.inr.inj q)
    rw [decide_eq_false h, decide_eq_false e]
theorem key_lr (a : Int) (b : Str) : decide ((Sum.inl a : Key) = Sum.inr b) = false := decide_eq_false (fun q => nomatch q)
theorem key_rl (a : Str) (b : Int) : decide ((Sum.inr a : Key) = Sum.inl b) = false := decide_eq_false (fun q => nomatch q)

def mixKind (prog : Program) (w : World) : PySem.KeyKind prog w Key where
  is := keyIs
  hash := keyH w
  inj := fun v a b ha hb => by
    rcases keyIs_shape ha with ⟨i, t, rfl, rfl⟩ | ⟨x, t, rfl, rfl⟩
    · rcases keyIs_shape hb with ⟨j, u, rfl, e⟩ | ⟨y, u, rfl, e⟩
      · injection e with e1 _; rw [e1]
      · exact nomatch e
    · rcases keyIs_shape hb with ⟨j, u, rfl, e⟩ | ⟨y, u, rfl, e⟩
      · exact nomatch e
      · injection e with e1 _; rw [e1]
  byValue := fun k v h => by
    rcases keyIs_shape h with ⟨i, t, rfl, rfl⟩ | ⟨x, t, rfl, rfl⟩ <;> rfl
  pyHash := fun hv h => by
    rcases keyIs_shape hv with ⟨i, t, rfl, rfl⟩ | ⟨x, t, rfl, rfl⟩
    · exact wpAny_pyHash_int h
    · exact wpAny_pyHash_str h
  eqBool := fun hu hv h => by
    rcases keyIs_shape hu with ⟨i, t, rfl, rfl⟩ | ⟨x, t, rfl, rfl⟩
    · rcases keyIs_shape hv with ⟨j, u, rfl, rfl⟩ | ⟨y, u, rfl, rfl⟩
      · rw [key_ll] at h; exact wpAny_eqBool_int h
      · rw [key_lr] at h; exact SeqAt.EqAt.int_str i t y u _ _ _ _ h
    · rcases keyIs_shape hv with ⟨j, u, rfl, rfl⟩ | ⟨y, u, rfl, rfl⟩
      · rw [key_rl] at h; exact SeqAt.EqAt.str_int x t j u _ _ _ _ h
      · rw [key_rr] at h; exact wpAny_eqBool_str h
  «strs» := fun k x t v h => by
    rcases keyIs_shape h with ⟨i, u, rfl, e⟩ | ⟨y, u, rfl, e⟩
    · exact nomatch e
    · injection e with e1 _
      subst e1
      cases v <;> rfl

theorem mixKind_int (prog : Program) (w : World) (i : Int) (t : Tok) : (mixKind prog w).is (.inl i) (.int i t) = true := keyIs_int i t
theorem mixKind_str (prog : Program) (w : World) (x : Str) (t : Tok) : (mixKind prog w).is (.inr x) (.str x t) = true := keyIs_str x t
end L2

namespace L2
open PySem PySem.Spec PyProof.Rows

/-- a value, without the heap -/
inductive V where
  | non | bl (b : Bool) | int (i : Int) | str (x : Str) | byt (b : Array UInt8) | flt (b : UInt64) | ref (a : Addr) | ty (n : String)
  deriving DecidableEq

def RelV : V → Value → Prop
  | .non, u => u = Value.none
  | .bl b, u => u = Value.bool b
  | .int i, u => ∃ t, u = Value.int i t
  | .str x, u => ∃ t, u = Value.str x t
  | .byt b, u => ∃ t, u = Value.bytes b t
  | .flt b, u => ∃ t, u = Value.float b t
  | .ref a, u => u = Value.ref a
  | .ty n, u => u = Value.type n

abbrev Vals : List V → List Value → Prop := Paired RelV
theorem Vals.length {xs : List V} {us : List Value} (r : Vals xs us) : xs.length = us.length := Paired.length r
theorem Vals.get : ∀ {xs : List V} {us : List Value} {i : Nat} {x : V}, Vals xs us → xs[i]? = some x → ∃ u, us[i]? = some u ∧ RelV x u
  | _, _, _, _, .nil, e => by simp at e
  | _, _, 0, _, .cons r _, e => by simp at e; subst e; exact ⟨_, rfl, r⟩
  | _, _, i + 1, x, .cons _ t, e => by
    obtain ⟨u, h1, h2⟩ := Vals.get (i := i) (x := x) t (by simpa using e)
    exact ⟨u, by simpa using h1, h2⟩
theorem Vals.set {x : V} {u : Value} (r : RelV x u) : ∀ {xs : List V} {us : List Value} (i : Nat), Vals xs us → Vals (xs.set i x) (us.set i u)
  | _, _, _, .nil => .nil
  | _, _, 0, .cons _ t => .cons r t
  | _, _, i + 1, .cons q t => .cons q (Vals.set r i t)
theorem Vals.append : ∀ {xs ys : List V} {us ws : List Value}, Vals xs us → Vals ys ws → Vals (xs ++ ys) (us ++ ws)
  | _, _, _, _, .nil, s => s
  | _, _, _, _, .cons r t, s => .cons r (Vals.append t s)
theorem Vals.take : ∀ {xs : List V} {us : List Value} (n : Nat), Vals xs us → Vals (xs.take n) (us.take n)
  | _, _, 0, _ => .nil
  | _, _, _ + 1, .nil => .nil
  | _, _, n + 1, .cons r t => .cons r (Vals.take n t)
theorem Vals.drop : ∀ {xs : List V} {us : List Value} (n : Nat), Vals xs us → Vals (xs.drop n) (us.drop n)
  | _, _, 0, r => r
  | _, _, _ + 1, .nil => .nil
  | _, _, n + 1, .cons _ t => Vals.drop n t
def RelO : Option V → Option Value → Prop
  | some v, some u => RelV v u
  | none, none => True
  | _, _ => False
def KV {κ : Type} : List (κ × V) → List (κ × Value) → Prop := Paired fun (p : κ × V) (q : κ × Value) => p.1 = q.1 ∧ RelV p.2 q.2

/-- a key of a dict (00_mix): an int or a text -/
def kV : Key → V
  | .inl i => .int i
  | .inr x => .str x

/-- what stands at a tracked address -/
inductive HO where
  /-- a list -/
  | lst (xs : List V)
  /-- a tuple (never changes) -/
  | tup (xs : List V)
  /-- a dict whose keys are ints and texts; one whose keys are tuples of ints and texts (the empty one is both) -/
  | dK (kvs : List (Key × V)) | dT (kvs : List (List Key × V))
  /-- a set of ints: its members, its size -/
  | set (S : Int → Bool) (n : Nat)
  /-- an instance of the class at C, its dict at dx, its attributes -/
  | ins (C dx : Addr) (fs : List (Str × V))
  /-- the dict of the instance at x -/
  | own (x : Addr)
  /-- the dict of an exception -/
  | xd (fs : List (Str × V))
  /-- a bound method, f of x -/
  | met (f x : Addr)
  /-- a range object lo, lo + 1, .. below hi -/
  | rng (lo hi : Int)
  /-- a thing that is known to the object (the script; a dict while a loop walks it): read, never written while it is so -/
  | frz (o : Obj) (u : HO)
  /-- a code object's table -/
  | tbl (ps : Array Value)
  /-- any other thing, by what is true of its one object (a def of one's own: SetO a S n := HO.ext fun h => ..) -/
  | ext (φ : Heap → Prop)

abbrev Hp := Addr → Option HO
def upd (H : Hp) (a : Addr) (o : HO) : Hp := fun b => if b = a then some o else H b
theorem upd_same {H : Hp} {a : Addr} {o : HO} : upd H a o a = some o := by unfold upd; rw [if_pos rfl]
theorem upd_ne {H : Hp} {a b : Addr} {o : HO} (h : b ≠ a) : upd H a o b = H b := by unfold upd; rw [if_neg h]
/-- two objects of different content stand apart -/
theorem ne_of {H : Hp} {a b : Addr} {o u : HO} (h : H a = some o) (h' : H b = some u) (d : o ≠ u) : a ≠ b := by
  intro e; subst e; rw [h] at h'; exact d (Option.some.inj h')
theorem ne_of_none {H : Hp} {a b : Addr} {o : HO} (h : H a = some o) (h' : H b = none) : a ≠ b := by
  intro e; subst e; rw [h] at h'; cases h'

section
variable (P : Program) (w : World)
def ObjOk (H : Hp) (h : Heap) (a : Addr) : HO → Prop
  | .lst xs => xs.length ≤ sizeLine ∧ ∃ (its : List Value) (n : Nat), Vals xs its ∧ h.get? a = some { cls := .type "list", data := .seq its.toArray n }
  | .tup xs => xs.length ≤ sizeLine ∧ ∃ its : List Value, Vals xs its ∧ IsTup h a its.toArray
  | .dK kvs => kvs.length ≤ sizeLine ∧ (a == sysModules) = false ∧ ∃ vs, KV kvs vs ∧ h.DictOf (mixKind P w) a vs
  | .dT kvs => kvs.length ≤ sizeLine ∧ (a == sysModules) = false ∧ ∃ xs : List (List Key × Addr × Value),
      Paired (fun (p : List Key × V) (q : List Key × Addr × Value) => p.1 = q.1 ∧ H q.2.1 = some (.tup (p.1.map kV)) ∧ RelV p.2 q.2.2) kvs xs ∧
      ∃ o es ep, h.get? a = some o ∧ o.ExactDict ∧ o.data = .dict es ep ∧ es.toList = xs.map (entryOfKey (tupleKind (mixKind P w))) ∧ (xs.map (·.1)).Nodup
  | .set S n => h.SetOf (intKind P w) a S n
  | .ins C dx fs => H dx = some (.own a) ∧ fs.length ≤ 1000 ∧ dx ≠ a ∧ h.get? a = some (PySem.W.instObj C dx) ∧
      ∃ mA, h.Ns1 dx mA ∧ (∀ f, RelO (fs.lookup f) (mA f)) ∧ PySem.Within mA (fs.map (·.1))
  | .own _ => ∃ o, h.get? a = some o
  | .xd fs => ∃ mA, h.Ns1 a mA ∧ ∀ f, RelO (fs.lookup f) (mA f)
  | .rng lo hi => ∃ t u v, h.get? a = some { cls := .type "range", data := .fields #[.int lo t, .int hi u, .int 1 v] }
  | .frz o u => h.get? a = some o ∧ ObjOk H h a u
  | .tbl ps => h.get? a = some { cls := .none, data := .fields ps }
  | .met f x => h.get? a = some (PySem.W.methodObj (.ref f) (.ref x))
  | .ext φ => φ h ∧ (∃ o, h.get? a = some o) ∧ ∀ h1 h2 : Heap, φ h1 → (∀ o, h1.get? a = some o → h2.get? a = some o) → φ h2
/-- the abstract heap is held -/
def HOk (H : Hp) (h : Heap) : Prop := ∀ a o, H a = some o → ObjOk P w H h a o
end

section
variable {P : Program} {w : World} {H H' : Hp} {h h' : Heap} {a : Addr} {o : HO}
theorem ObjOk.lt (x : ObjOk P w H h a o) : a < h.objs.size := by
  cases o with
  | lst xs => obtain ⟨_, _, _, _, e⟩ := x; exact Heap.lt_size e
  | tup xs => obtain ⟨_, _, _, p⟩ := x; exact p.lt
  | dK kvs => obtain ⟨_, _, _, _, o, _, _, e, _⟩ := x; exact Heap.lt_size e
  | dT kvs => obtain ⟨_, _, _, _, o, _, _, e, _⟩ := x; exact Heap.lt_size e
  | set S n => obtain ⟨o, _, _, _, e, _⟩ := x; exact Heap.lt_size e
  | ins C dx fs => obtain ⟨_, _, _, e, _⟩ := x; exact Heap.lt_size e
  | own y => obtain ⟨_, e⟩ := x; exact Heap.lt_size e
  | xd fs => obtain ⟨_, ⟨_, _, _, e, _⟩, _⟩ := x; exact Heap.lt_size e
  | rng lo hi => obtain ⟨_, _, _, e⟩ := x; exact Heap.lt_size e
  | frz ob u => obtain ⟨e, _⟩ := x; exact Heap.lt_size e
  | tbl ps => exact Heap.lt_size (show h.get? a = some _ from x)
  | met f y => exact Heap.lt_size (show h.get? a = some _ from x)
  | ext φ => obtain ⟨_, ⟨_, e⟩, _⟩ := x; exact Heap.lt_size e
theorem Paired.mapP {α β : Type} {F G : α → β → Prop} : ∀ {l₁ : List α} {l₂ : List β}, Paired F l₁ l₂ → (∀ a b, F a b → G a b) → Paired G l₁ l₂
  | _, _, .nil, _ => .nil
  | _, _, .cons r t, f => .cons (f _ _ r) (Paired.mapP t f)
/-- what an object's description leans on: its own object, its own dict, the tuples -/
theorem ObjOk.stay (x : ObjOk P w H h a o) (k : ∀ b u, (b = a ∨ H b = some (.own a)) → h.get? b = some u → h'.get? b = some u)
    (ho : ∀ b, H b = some (.own a) → H' b = some (.own a)) (ht : ∀ b xs, H b = some (.tup xs) → H' b = some (.tup xs)) : ObjOk P w H' h' a o := by
  induction o with
  | lst xs => obtain ⟨z, its, n, r, e⟩ := x; exact ⟨z, its, n, r, k _ _ (.inl rfl) e⟩
  | tup xs => obtain ⟨z, its, r, ob, e, c⟩ := x; exact ⟨z, its, r, ob, k _ _ (.inl rfl) e, c⟩
  | dK kvs => obtain ⟨z, y, vs, r, ob, es, ep, e, c⟩ := x; exact ⟨z, y, vs, r, ob, es, ep, k _ _ (.inl rfl) e, c⟩
  | dT kvs =>
    obtain ⟨z, y, xs, r, ob, es, ep, e, c⟩ := x
    exact ⟨z, y, xs, Paired.mapP r fun p q z => ⟨z.1, ht _ _ z.2.1, z.2.2⟩, ob, es, ep, k _ _ (.inl rfl) e, c⟩
  | set S n => obtain ⟨ob, es, ep, t, e, c⟩ := x; exact ⟨ob, es, ep, t, k _ _ (.inl rfl) e, c⟩
  | ins C dx fs =>
    obtain ⟨d, z, ne, e, mA, ⟨od, es, ep, e2, c⟩, r⟩ := x
    exact ⟨ho _ d, z, ne, k _ _ (.inl rfl) e, mA, ⟨od, es, ep, k _ _ (.inr d) e2, c⟩, r⟩
  | own y => obtain ⟨ob, e⟩ := x; exact ⟨ob, k _ _ (.inl rfl) e⟩
  | xd fs => obtain ⟨mA, ⟨od, es, ep, e, c⟩, r⟩ := x; exact ⟨mA, ⟨od, es, ep, k _ _ (.inl rfl) e, c⟩, r⟩
  | rng lo hi => obtain ⟨t, u, v, e⟩ := x; exact ⟨t, u, v, k _ _ (.inl rfl) e⟩
  | frz ob u ih => obtain ⟨e, q⟩ := x; exact ⟨k _ _ (.inl rfl) e, ih q⟩
  | tbl ps =>
    have e : h.get? a = some { cls := .none, data := .fields ps } := x
    show h'.get? a = some { cls := .none, data := .fields ps }
    exact k a _ (.inl rfl) e
  | met f y =>
    have e : h.get? a = some (PySem.W.methodObj (.ref f) (.ref y)) := x
    show h'.get? a = some (PySem.W.methodObj (.ref f) (.ref y))
    exact k a _ (.inl rfl) e
  | ext φ => obtain ⟨p, ⟨o, e⟩, st⟩ := x; exact ⟨st _ _ p fun o q => k _ _ (.inl rfl) q, ⟨o, k _ _ (.inl rfl) e⟩, st⟩
theorem HOk.lt (x : HOk P w H h) (e : H a = some o) : a < h.objs.size := (x a o e).lt
theorem HOk.fresh (x : HOk P w H h) (e : h.objs.size ≤ a) : H a = none := by
  cases q : H a with
  | none => rfl
  | some u => exact absurd (Nat.lt_of_lt_of_le (x.lt q) e) (Nat.lt_irrefl _)
/-- every object of the heap is kept -/
theorem HOk.kept (x : HOk P w H h) (k : ∀ b u, h.get? b = some u → h'.get? b = some u) : HOk P w H h' := fun a o e =>
  (x a o e).stay (fun b u _ q => k b u q) (fun _ q => q) fun _ _ q => q
/-- a new object is laid and tracked -/
theorem HOk.laid (x : HOk P w H h) (k : ∀ b u, h.get? b = some u → h'.get? b = some u) (hp : h.objs.size ≤ a) (new : ObjOk P w (upd H a o) h' a o) : HOk P w (upd H a o) h' := fun b u e => by
  have hn := x.fresh hp
  by_cases hb : b = a
  · subst hb; rw [upd_same] at e; cases e; exact new
  · rw [upd_ne hb] at e
    exact (x b u e).stay (fun c v _ q => k c v q) (fun c q => by rw [upd_ne (ne_of_none q hn)]; exact q) fun c xs q => by rw [upd_ne (ne_of_none q hn)]; exact q
end

/-- what may be read as u: it is u, or a known u -/
def Rd (H : Hp) (a : Addr) (u : HO) : Prop := H a = some u ∨ ∃ o, H a = some (.frz o u)
theorem Rd.ok {P : Program} {w : World} {H : Hp} {h : Heap} {a : Addr} {u : HO} (r : Rd H a u) (x : HOk P w H h) : ObjOk P w H h a u := by
  rcases r with r | ⟨o, r⟩
  · exact x a u r
  · obtain ⟨_, q⟩ := x a _ r
    exact q
/-- what may be written -/
def Mut : Option HO → Prop
  | some (.lst _) => True
  | some (.dK _) => True
  | some (.dT _) => True
  | some (.set _ _) => True
  | some (.ins _ _ _) => True
  | some (.ext _) => True
  | _ => False
section
variable {P : Program} {w : World} {H : Hp} {h h' : Heap} {x e : Addr} {o' : HO}
/-- the object at e is changed: x itself, or the dict of the instance x -/
theorem HOk.write (ok : HOk P w H h) (mu : Mut (H x)) (he : e = x ∨ H e = some (.own x)) (k : ∀ b u, b ≠ e → h.get? b = some u → h'.get? b = some u) (heo : ∃ u, h'.get? e = some u)
    (new : ObjOk P w (upd H x o') h' x o') : HOk P w (upd H x o') h' := fun b u q => by
  have nown : ∀ c y, H c = some (.own y) → c ≠ x := fun c y r z => by subst z; rw [r] at mu; exact mu
  have ntup : ∀ c xs, H c = some (.tup xs) → c ≠ x := fun c xs r z => by subst z; rw [r] at mu; exact mu
  by_cases hb : b = x
  · subst hb; rw [upd_same] at q; cases q; exact new
  · rw [upd_ne hb] at q
    by_cases hbe : b = e
    · have q' : H b = some (.own x) := by
        rcases he with z | z
        · exact absurd (hbe.trans z) hb
        · rw [hbe]; exact z
      rw [q] at q'; cases q'
      obtain ⟨v, hv⟩ := heo
      exact ⟨v, by rw [hbe]; exact hv⟩
    · refine (ok b u q).stay (fun c v hc r => k c v ?_ r) (fun c r => by rw [upd_ne (nown c b r)]; exact r) fun c xs r => by rw [upd_ne (ntup c xs r)]; exact r
      rcases hc with rfl | hc
      · exact hbe
      · rintro rfl
        rcases he with z | z
        · exact nown c b hc z
        · rw [hc] at z; cases z; exact hb rfl
end

/-! ### kept unless tracked; of the frames at fs (the callers') the slots may change (an exception that passes writes there); of the records at ex (iterators) nothing is said -/
structure Un (fs ex : List Addr) (H H' : Hp) (h h' : Heap) : Prop where
  keep : ∀ b o, h.get? b = some o → H b = none → b ∉ fs → b ∉ ex → h'.get? b = some o
  slot : ∀ b o, h.get? b = some o → H b = none → b ∈ fs → b ∉ ex → ∃ sl, h'.get? b = some { o with slots := sl }
  free : ∀ b o, h.get? b = some o → H b = none → b ∉ ex → H' b = none
  there : ∀ b o, h.get? b = some o → b ∉ ex → ∃ o', h'.get? b = some o'
  tups : ∀ b xs, H b = some (.tup xs) → H' b = some (.tup xs)
  frzs : ∀ b o u, H b = some (.frz o u) → H' b = some (.frz o u)
  tbls : ∀ b ps, H b = some (.tbl ps) → ∃ more, H' b = some (.tbl (ps ++ more))
section
variable {fs fs' ex ex' : List Addr} {H H1 H2 : Hp} {h h1 h2 h' : Heap} {a x e : Addr} {o : HO}
theorem Un.any (u : Un fs ex H H1 h h1) {b : Addr} {ob : Obj} (q : h.get? b = some ob) (n : H b = none) (hx : b ∉ ex) : ∃ sl, h1.get? b = some { ob with slots := sl } := by
  by_cases hb : b ∈ fs
  · exact u.slot b ob q n hb hx
  · exact ⟨ob.slots, u.keep b ob q n hb hx⟩
theorem Un.kept (k : ∀ b u, h.get? b = some u → h'.get? b = some u) : Un fs ex H H h h' :=
  ⟨fun b ob q _ _ _ => k b ob q, fun b ob q _ _ _ => ⟨ob.slots, k b ob q⟩, fun _ _ _ n _ => n, fun b ob q _ => ⟨ob, k b ob q⟩, fun _ _ q => q, fun _ _ _ q => q, fun _ ps q => ⟨#[], by rw [q]; simp⟩⟩
theorem Un.refl : Un fs ex H H h h := Un.kept fun _ _ q => q
theorem Un.laid (k : ∀ b u, h.get? b = some u → h'.get? b = some u) (hp : h.objs.size ≤ a) (hn : H a = none) : Un fs ex H (upd H a o) h h' where
  keep := fun b u q _ _ _ => k b u q
  slot := fun b u q _ _ _ => ⟨u.slots, k b u q⟩
  free := fun b u q n _ => by rw [upd_ne (Nat.ne_of_lt (Nat.lt_of_lt_of_le (Heap.lt_size q) hp))]; exact n
  there := fun b u q _ => ⟨u, k b u q⟩
  tups := fun b xs q => by rw [upd_ne (ne_of_none q hn)]; exact q
  frzs := fun b u xs q => by rw [upd_ne (ne_of_none q hn)]; exact q
  tbls := fun b ps q => ⟨#[], by rw [upd_ne (ne_of_none q hn), q]; simp⟩
theorem Un.write (mu : Mut (H x)) (he : e = x ∨ H e = some (.own x)) (k : ∀ b u, b ≠ e → h.get? b = some u → h'.get? b = some u) (heo : ∃ u, h'.get? e = some u) : Un fs ex H (upd H x o) h h' := by
  have hx : ∀ b, H b = none → b ≠ x := fun b n z => by subst z; rw [n] at mu; exact mu
  have hb : ∀ b, H b = none → b ≠ e := fun b n z => by
    subst z
    rcases he with r | r
    · exact hx b n r
    · rw [n] at r; cases r
  have hm : ∀ b u, H b = some u → ¬ Mut (some u) → b ≠ x := fun b u q nm z => by subst z; rw [q] at mu; exact nm mu
  refine ⟨fun b u q n _ _ => k b u (hb b n) q, fun b u q n _ _ => ⟨u.slots, k b u (hb b n) q⟩, fun b u q n _ => by rw [upd_ne (hx b n)]; exact n, fun b u q _ => ?_,
    fun b xs q => by rw [upd_ne (hm b _ q fun z => z)]; exact q, fun b u xs q => by rw [upd_ne (hm b _ q fun z => z)]; exact q, fun b ps q => ⟨#[], by rw [upd_ne (hm b _ q fun z => z), q]; simp⟩⟩
  by_cases hbe : b = e
  · subst hbe; exact heo
  · exact ⟨u, k b u hbe q⟩
end

/-! ### the heap without what is tracked -/
def trk (h : Heap) (H : Hp) : List Addr := (List.range h.objs.size).filter fun a => (H a).isSome
def hidT (h : Heap) (H : Hp) : Heap := PySem.W.hideAll h (trk h H)
theorem hidT_size (h : Heap) (H : Hp) : (hidT h H).objs.size = h.objs.size := PySem.W.hideAll_size _ _
theorem hidT_get {h : Heap} {H : Hp} {b : Addr} {o : Obj} (e : h.get? b = some o) (n : H b = none) : (hidT h H).get? b = some o :=
  PySem.W.hideAll_get _ e fun hm => by
    have q : (H b).isSome = true := (List.mem_filter.mp hm).2
    rw [n] at q; simp at q
theorem of_hidT {h : Heap} {H : Hp} {b : Addr} {o : Obj} (e : (hidT h H).get? b = some o) : h.get? b = some o ∧ H b = none := by
  have e' : h.get? b = some o := PySem.W.of_hideAll (trk h H) e
  refine ⟨e', ?_⟩
  cases q : H b with
  | none => rfl
  | some x =>
    have hm : b ∈ trk h H := List.mem_filter.mpr ⟨List.mem_range.mpr (Heap.lt_size e'), by simp [q]⟩
    have z : (hidT h H).get? b = none := PySem.W.hideAll_none (trk h H) hm
    rw [z] at e; cases e

/-! ### OpenK's ledger, filled with every new object but one -/
def allNews (g h : Heap) (L : Addr) : List (Addr × Obj) := (List.range h.objs.size).filterMap fun a => if a = L ∨ (g.get? a).isSome = true then none else (h.get? a).map fun o => (a, o)
def rest (g h : Heap) (L d : Addr) : List (Addr × Obj) := (allNews g h L).filter fun p => decide (p.1 ≠ d)
end L2

namespace L2
open PySem PySem.Spec PyProof.Rows

/-- the module's facts, over the base: the heap at the law's entry without what is tracked there -/
structure Mod (K : PySem.W.Frag) (mg : Str → Option Value) (base : Heap) : Prop where
  kin : K.In base
  glob : base.Ns mainGlobals mg
  blt : ∃ mb, base.Ns builtinsNs mb ∧ ∀ x : Str, x ≠ "__name__" → mb x = bootBuiltins x
  nolimit : base.NoLimit

/-- the context: a def's body (or a comprehension's block) running. base: fixed through the whole law; s₀, H₀: the entry; outer: the frames whose slots others may change (a def's callers); stack: all frames that run;
   ex: iterators that were made ahead of the entry and are walked here (a comprehension's); fn: the names whose cells were made at the entry (a def: all; a comprehension's block: its own); calm: not within an except suite; pn: pins that every state bears; xe: what is wanted of an exception that leaves the code -/
structure Cx where
  prog : Program
  w : World
  K : PySem.W.Frag
  mg : Str → Option Value
  base : Heap
  A : Around
  N : List Str
  s₀ : Shared
  H₀ : Hp
  env : Env
  outer : List Env
  stack : List Env
  ex : List Addr
  fn : Str → Bool
  calm : Bool
  pn : List (Addr × Obj)
  xe : Value → Shared → Prop
/-- the callers' frames -/
def frs (l : List Env) : List Addr := l.filterMap (·.frame)
abbrev Cx.fs (X : Cx) : List Addr := frs X.outer

def Vis (sc : Scope) (x : Str) : Prop := sc.names.lookup x = some .local ∨ sc.names.lookup x = some .cell ∨ sc.names.lookup x = some .free
def Loc (sc : Scope) (x : Str) : Prop := sc.names.lookup x = some .local ∨ sc.names.lookup x = some .cell
def Look (env : Env) (h : Heap) (m : Str → Option Value) (x : Str) (u : Value) : Prop :=
  (env.kindOf x = some .local ∧ m x = some u) ∨ ((env.kindOf x = some .cell ∨ env.kindOf x = some .free) ∧ ∃ c, env.cells.lookup x = some c ∧ h.IsCell c (some u))

structure Cx.Ok (X : Cx) : Prop where
  mod : Mod X.K X.mg X.base
  kind : X.env.scope.kind = .function
  glob : X.env.globals = mainGlobals
  blt : X.env.builtins = builtinsNs
  above : X.s₀.heap.objs.size ≤ X.env.locals
  inj : ∀ x y c, X.env.cells.lookup x = some c → X.env.cells.lookup y = some c → x = y
  has : ∀ x, (X.env.kindOf x = some .cell ∨ X.env.kindOf x = some .free) → ∃ c, X.env.cells.lookup x = some c
  cab : ∀ x c, X.fn x = true → X.env.cells.lookup x = some c → X.s₀.heap.objs.size ≤ c
  hd : X.calm = true → X.A.handled = none
  frames : X.A.frames = some X.stack
  stk : X.stack = X.outer ∨ (X.stack = X.env :: X.outer ∧ X.env.frame = some X.env.locals)
  exf : ∀ b ∈ X.ex, b ≠ X.env.locals ∧ ∀ x c, X.env.cells.lookup x = some c → c ≠ b
  bs : ∀ b o, X.base.get? b = some o → X.s₀.heap.get? b = some o ∧ X.H₀ b = none
  bsz : X.base.objs.size ≤ X.s₀.heap.objs.size
  noex : ∀ b o, X.base.get? b = some o → b ∉ X.ex
  exfs : ∀ b ∈ X.ex, b ∉ X.fs
  funs : X.s₀.heap.FunFrames X.base X.outer
  frf : ∀ b ∈ X.fs, X.H₀ b = none

structure Inv (X : Cx) (pins : List (Addr × Obj)) (σ : List (Option V)) (H : Hp) (s : Shared) : Prop where
  ok : X.Ok
  os : s.os = X.s₀.os
  bare : AllBare s.gens
  base : Un X.fs X.ex X.H₀ H X.s₀.heap s.heap
  loc : ∃ m, s.heap.Ns X.env.locals m ∧ ∀ (i : Nat) (x : Str) (v : V), X.N[i]? = some x → σ[i]? = some (some v) → Vis X.env.scope x → ∃ u, RelV v u ∧ Look X.env s.heap m x u
  cell : ∀ x c, X.env.cells.lookup x = some c → ∃ v, s.heap.IsCell c v
  free : H X.env.locals = none
  freeC : ∀ x c, X.env.cells.lookup x = some c → H c = none
  pin : ∀ p ∈ X.pn ++ pins, s.heap.get? p.1 = some p.2 ∧ H p.1 = none ∧ p.1 ≠ X.env.locals ∧ p.1 ∉ X.fs ∧ ∀ v, p.2.data ≠ .cell v
  hok : HOk X.prog X.w H s.heap
  len : σ.length = X.N.length

section
variable {X : Cx} {pins : List (Addr × Obj)} {σ : List (Option V)} {H H' : Hp} {s : Shared} {h' : Heap}

theorem Cx.Ok.nofr (ok : X.Ok) {b : Addr} {o : Obj} (e : X.base.get? b = some o) : b ∉ X.fs := fun hb => by
  have := (ok.funs.mem hb).1
  rw [e] at this; cases this
theorem Inv.bs (I : Inv X pins σ H s) : ∀ b o, X.base.get? b = some o → s.heap.get? b = some o ∧ H b = none := fun b o e =>
  ⟨I.base.keep b o (I.ok.bs b o e).1 (I.ok.bs b o e).2 (I.ok.nofr e) (I.ok.noex b o e), I.base.free b o (I.ok.bs b o e).1 (I.ok.bs b o e).2 (I.ok.noex b o e)⟩
theorem Inv.bk (I : Inv X pins σ H s) : ∀ b o, X.base.get? b = some o → s.heap.get? b = some o := fun b o e => (I.bs b o e).1
theorem Inv.mod (I : Inv X pins σ H s) : Mod X.K X.mg X.base := I.ok.mod
theorem Inv.kIn (I : Inv X pins σ H s) : X.K.In s.heap := I.ok.mod.kin.keeps I.bk
theorem Inv.lt (I : Inv X pins σ H s) : X.env.locals < s.heap.objs.size := let ⟨_, hn, _⟩ := I.loc; hn.lt
theorem Inv.sz (I : Inv X pins σ H s) : X.s₀.heap.objs.size ≤ s.heap.objs.size := Nat.le_trans I.ok.above (Nat.le_of_lt I.lt)
theorem Inv.nofs (I : Inv X pins σ H s) {a : Addr} (h : s.heap.objs.size ≤ a) : a ∉ X.fs := fun hb => by
  obtain ⟨_, o, ho, _⟩ := I.ok.funs.mem hb
  exact absurd (Nat.lt_of_lt_of_le (Heap.lt_size ho) (Nat.le_trans I.sz h)) (Nat.lt_irrefl _)
theorem Inv.cne (I : Inv X pins σ H s) : ∀ x c, X.env.cells.lookup x = some c → c ≠ X.env.locals := fun x c e z => by
  obtain ⟨v, o, ho, hd⟩ := I.cell x c e
  obtain ⟨m, ⟨o', es, ep, ho', hd', _⟩, _⟩ := I.loc
  rw [z, ho'] at ho; cases ho; rw [hd'] at hd; cases hd
theorem Inv.funs (I : Inv X pins σ H s) : s.heap.FunFrames X.base X.outer := by
  have all : ∀ (l : List Env), (∀ b ∈ frs l, b ∈ X.fs) → X.s₀.heap.FunFrames X.base l → s.heap.FunFrames X.base l := by
    intro l
    induction l with
    | nil => intro _ _; trivial
    | cons env r ih =>
      intro hs hl
      obtain ⟨hk, ⟨L, o, hf, hn, ho, hd⟩, hr⟩ := hl
      have hL : L ∈ X.fs := hs L (by unfold frs; rw [List.filterMap_cons, hf]; exact List.mem_cons_self)
      obtain ⟨sl, e⟩ := I.base.slot L o ho (I.ok.frf L hL) hL fun z => I.ok.exfs L z hL
      exact ⟨hk, ⟨L, _, hf, hn, e, hd⟩, ih (fun b hb => hs b (by unfold frs; rw [List.filterMap_cons, hf]; exact List.mem_cons_of_mem _ hb)) hr⟩
  exact all X.outer (fun _ hb => hb) I.ok.funs

/-- the frames that run, for a call -/
theorem Inv.stack (I : Inv X pins σ H s) : s.heap.FunFrames X.base X.stack := by
  rcases I.ok.stk with e | ⟨e, hf⟩
  · rw [e]; exact I.funs
  · rw [e]
    obtain ⟨m, hn, _⟩ := I.loc
    refine .cons (by rw [I.ok.kind]; decide) hf hn ?_ I.funs
    exact Heap.get?_none_of_le (Nat.le_trans I.ok.bsz I.ok.above)
theorem Inv.stkSub (I : Inv X pins σ H s) : ∀ b ∈ frs X.stack, b ∈ X.env.locals :: X.fs := fun b hb => by
  rcases I.ok.stk with e | ⟨e, hf⟩
  · rw [e] at hb; exact List.mem_cons_of_mem _ hb
  · rw [e] at hb
    unfold frs at hb
    rw [List.filterMap_cons, hf] at hb
    exact hb
theorem Inv.stkFree (I : Inv X pins σ H s) : ∀ b ∈ frs X.stack, H b = none := fun b hb => by
  rcases List.mem_cons.mp (I.stkSub b hb) with e | hb
  · rw [e]; exact I.free
  · obtain ⟨_, o, ho, _⟩ := I.ok.funs.mem hb
    exact I.base.free b o ho (I.ok.frf b hb) fun z => I.ok.exfs b z hb

/-- THE STEP: the untracked objects but the frame and the records at ch are kept (the callers' frames up to slots), the frame's map is kept, the new abstract heap is held -/
theorem Inv.step {g' : Array GenState} {t' : Nat} {d' : Drawn} {ch : List Addr} (I : Inv X pins σ H s)
    (hch : ∀ b ∈ ch, (b ∈ X.ex ∨ X.s₀.heap.objs.size ≤ b) ∧ b ≠ X.env.locals ∧ (∀ x c, X.env.cells.lookup x = some c → c ≠ b) ∧ ∀ p ∈ X.pn ++ pins, p.1 ≠ b)
    (keep : ∀ b o, b ≠ X.env.locals → b ∉ X.fs → b ∉ ch → s.heap.get? b = some o → H b = none → h'.get? b = some o)
    (slot : ∀ b o, b ≠ X.env.locals → b ∈ X.fs → b ∉ ch → s.heap.get? b = some o → H b = none → ∃ sl, h'.get? b = some { o with slots := sl }) (free : ∀ b o, b ∉ ch → s.heap.get? b = some o → H b = none → H' b = none)
    (there : ∀ b o, b ∉ ch → s.heap.get? b = some o → ∃ o', h'.get? b = some o')
    (tups : ∀ b xs, H b = some (.tup xs) → H' b = some (.tup xs)) (frzs : ∀ b o u, H b = some (.frz o u) → H' b = some (.frz o u)) (tbls : ∀ b ps, H b = some (.tbl ps) → ∃ more, H' b = some (.tbl (ps ++ more)))
    (ns : ∀ m, s.heap.Ns X.env.locals m → h'.Ns X.env.locals m) (hok : HOk X.prog X.w H' h') (hg : AllBare g') :
    Inv X pins σ H' { s with heap := h', gens := g', drawn := d', toks := t' } := by
  have neL : ∀ b o, X.s₀.heap.get? b = some o → b ≠ X.env.locals := fun b o e => Nat.ne_of_lt (Nat.lt_of_lt_of_le (Heap.lt_size e) I.ok.above)
  have neC : ∀ b o, X.s₀.heap.get? b = some o → b ∉ X.ex → b ∉ ch := fun b o e hx hb => by
    rcases (hch b hb).1 with z | z
    · exact hx z
    · exact absurd (Nat.lt_of_lt_of_le (Heap.lt_size e) z) (Nat.lt_irrefl _)
  have cellK : ∀ x c, X.env.cells.lookup x = some c → ∀ v, s.heap.IsCell c v → h'.IsCell c v := fun x c e v ⟨o, ho, hd⟩ => by
    have nch : c ∉ ch := fun z => (hch c z).2.2.1 x c e rfl
    by_cases hc : c ∈ X.fs
    · obtain ⟨sl, q⟩ := slot c o (I.cne x c e) hc nch ho (I.freeC x c e)
      exact ⟨_, q, hd⟩
    · exact ⟨o, keep c o (I.cne x c e) hc nch ho (I.freeC x c e), hd⟩
  refine ⟨I.ok, I.os, hg, ⟨fun b o e n hb hx => ?_, fun b o e n hb hx => ?_, fun b o e n hx => ?_, fun b o e hx => ?_, fun b xs e => tups b xs (I.base.tups b xs e), fun b o xs e => frzs b o xs (I.base.frzs b o xs e), fun b ps e => ?_⟩, ?_, fun x c e => ?_, ?_, fun x c e => ?_, fun p hp => ?_, hok, I.len⟩
  · exact keep b o (neL b o e) hb (neC b o e hx) (I.base.keep b o e n hb hx) (I.base.free b o e n hx)
  · obtain ⟨sl, e1⟩ := I.base.slot b o e n hb hx
    obtain ⟨sl', e2⟩ := slot b _ (neL b o e) hb (neC b o e hx) e1 (I.base.free b o e n hx)
    exact ⟨sl', e2⟩
  · obtain ⟨o', e1⟩ := I.base.there b o e hx
    exact free b o' (neC b o e hx) e1 (I.base.free b o e n hx)
  · obtain ⟨o', e1⟩ := I.base.there b o e hx
    exact there b o' (neC b o e hx) e1
  · obtain ⟨m1, e1⟩ := I.base.tbls b ps e
    obtain ⟨m2, e2⟩ := tbls b _ e1
    exact ⟨m1 ++ m2, by rw [e2, Array.append_assoc]⟩
  · obtain ⟨m, hn, hl⟩ := I.loc
    refine ⟨m, ns m hn, fun i x v e1 e2 e3 => ?_⟩
    obtain ⟨u, r, l⟩ := hl i x v e1 e2 e3
    refine ⟨u, r, ?_⟩
    rcases l with l | ⟨k, c, e, z⟩
    · exact .inl l
    · exact .inr ⟨k, c, e, cellK x c e _ z⟩
  · obtain ⟨v, z⟩ := I.cell x c e
    exact ⟨v, cellK x c e v z⟩
  · obtain ⟨m, ⟨o, _, _, ho, _⟩, _⟩ := I.loc
    exact free _ o (fun z => (hch _ z).2.1 rfl) ho I.free
  · obtain ⟨v, o, ho, hd⟩ := I.cell x c e
    exact free c o (fun z => (hch c z).2.2.1 x c e rfl) ho (I.freeC x c e)
  · obtain ⟨e, n, ne, nf, d⟩ := I.pin p hp
    have nch : p.1 ∉ ch := fun z => (hch p.1 z).2.2.2 p hp rfl
    exact ⟨keep p.1 p.2 ne nf nch e n, free p.1 p.2 nch e n, ne, nf, d⟩
/-- .. where the frame's own object is kept too -/
theorem Inv.un {t' : Nat} (I : Inv X pins σ H s) (u : Un X.fs [] H H' s.heap h') (hok : HOk X.prog X.w H' h') : Inv X pins σ H' { s with heap := h', toks := t' } := by
  obtain ⟨m, ⟨o, es, ep, ho, r⟩, _⟩ := id I.loc
  obtain ⟨sl, hL⟩ := u.any ho I.free (by simp)
  exact I.step (g' := s.gens) (d' := s.drawn) (ch := []) (fun _ z => nomatch z) (fun b o _ hb _ e n => u.keep b o e n hb (by simp)) (fun b o _ hb _ e n => u.slot b o e n hb (by simp)) (fun b o _ e n => u.free b o e n (by simp)) (fun b o _ e => u.there b o e (by simp)) u.tups u.frzs u.tbls (fun m' hm => by
    obtain ⟨o', es', ep', ho', r'⟩ := hm
    rw [ho] at ho'; cases ho'
    exact ⟨_, es', ep', hL, r'⟩) hok I.bare
/-- behind a call (or a comprehension's block): the slots of this frame may have changed too, the records at ch may have turned -/
theorem Inv.call {g' : Array GenState} {t' : Nat} {d' : Drawn} {ch : List Addr} (I : Inv X pins σ H s) (u : Un (frs X.stack) ch H H' s.heap h') (hok : HOk X.prog X.w H' h') (hg : AllBare g')
    (hch : ∀ b ∈ ch, (b ∈ X.ex ∨ X.s₀.heap.objs.size ≤ b) ∧ b ≠ X.env.locals ∧ (∀ x c, X.env.cells.lookup x = some c → c ≠ b) ∧ ∀ p ∈ X.pn ++ pins, p.1 ≠ b) :
    Inv X pins σ H' { s with heap := h', gens := g', drawn := d', toks := t' } := by
  obtain ⟨m, ⟨o, es, ep, ho, r⟩, _⟩ := id I.loc
  obtain ⟨sl, hL⟩ := u.any ho I.free fun z => (hch _ z).2.1 rfl
  exact I.step (ch := ch) hch (fun b o hL hb hc e n => u.keep b o e n (fun z => (List.mem_cons.mp (I.stkSub b z)).elim hL hb) hc) (fun b o _ _ hc e n => u.any e n hc) (fun b o hc e n => u.free b o e n hc) (fun b o hc e => u.there b o e hc) u.tups u.frzs u.tbls (fun m' hm => by
    obtain ⟨o', es', ep', ho', r'⟩ := hm
    rw [ho] at ho'; cases ho'
    exact ⟨_, es', ep', hL, r'⟩) hok hg
/-- an untracked record of ours (an iterator) has turned -/
theorem Inv.turned {t' : Nat} {it : Addr} (I : Inv X pins σ H s) (k : ∀ b o, b ≠ it → s.heap.get? b = some o → h'.get? b = some o) (hn : H it = none) (hL : it ≠ X.env.locals)
    (h1 : it ∈ X.ex ∨ X.s₀.heap.objs.size ≤ it) (h2 : ∀ x c, X.env.cells.lookup x = some c → c ≠ it) (h3 : ∀ p ∈ X.pn ++ pins, p.1 ≠ it) : Inv X pins σ H { s with heap := h', toks := t' } := by
  have nit : ∀ b u, H b = some u → b ≠ it := fun b u e z => by rw [z, hn] at e; cases e
  refine I.step (g' := s.gens) (d' := s.drawn) (ch := [it]) (fun b hb => ?_) (fun b o _ _ hc e _ => k b o (fun z => hc (by simp [z])) e) (fun b o _ _ hc e _ => ⟨o.slots, k b o (fun z => hc (by simp [z])) e⟩) (fun _ _ _ _ n => n)
    (fun b o hc e => ⟨o, k b o (fun z => hc (by simp [z])) e⟩) (fun _ _ e => e) (fun _ _ _ e => e) (fun b ps e => ⟨#[], by rw [e]; simp⟩) (fun m hm => ?_) (fun b u e => ?_) I.bare
  · have e : b = it := by simpa using hb
    subst e
    exact ⟨h1, hL, h2, h3⟩
  · obtain ⟨o, es, ep, ho, r⟩ := hm
    exact ⟨o, es, ep, k _ o (Ne.symm hL) ho, r⟩
  · refine (I.hok b u e).stay (fun c v hc q => k c v ?_ q) (fun _ q => q) fun _ _ q => q
    rcases hc with z | z
    · rw [z]; exact nit b u e
    · exact nit c _ z
theorem Inv.tok (I : Inv X pins σ H s) (t : Nat) : Inv X pins σ H { s with toks := t } := I.un (h' := s.heap) (t' := t) Un.refl I.hok
/-- all objects kept -/
theorem Inv.kept {t' : Nat} (I : Inv X pins σ H s) (k : ∀ b u, s.heap.get? b = some u → h'.get? b = some u) : Inv X pins σ H { s with heap := h', toks := t' } := I.un (Un.kept k) (I.hok.kept k)
/-- a new object laid and tracked -/
theorem Inv.laid {a : Addr} {o : HO} {t' : Nat} (I : Inv X pins σ H s) (k : ∀ b u, s.heap.get? b = some u → h'.get? b = some u) (hp : s.heap.objs.size ≤ a) (new : ObjOk X.prog X.w (upd H a o) h' a o) :
    Inv X pins σ (upd H a o) { s with heap := h', toks := t' } := I.un (Un.laid k hp (I.hok.fresh hp)) (I.hok.laid k hp new)
/-- an object written -/
theorem Inv.write {x e : Addr} {o : HO} {t' : Nat} (I : Inv X pins σ H s) (mu : Mut (H x)) (he : e = x ∨ H e = some (.own x)) (k : ∀ b u, b ≠ e → s.heap.get? b = some u → h'.get? b = some u) (heo : ∃ u, h'.get? e = some u)
    (new : ObjOk X.prog X.w (upd H x o) h' x o) : Inv X pins σ (upd H x o) { s with heap := h', toks := t' } := I.un (Un.write mu he k heo) (I.hok.write mu he k heo new)
/-- forgetting slots, pins -/
theorem Inv.weak {σ' : List (Option V)} (I : Inv X pins σ H s) (hl : σ'.length = σ.length) (w : ∀ (i : Nat) v, σ'[i]? = some (some v) → σ[i]? = some (some v)) : Inv X pins σ' H s :=
  ⟨I.ok, I.os, I.bare, I.base, let ⟨m, hn, hl'⟩ := I.loc; ⟨m, hn, fun i x v e1 e2 e3 => hl' i x v e1 (w i v e2) e3⟩, I.cell, I.free, I.freeC, I.pin, I.hok, hl.trans I.len⟩
theorem Inv.pins_of {pins' : List (Addr × Obj)} (I : Inv X pins σ H s) (h : ∀ p ∈ pins', s.heap.get? p.1 = some p.2 ∧ H p.1 = none ∧ p.1 ≠ X.env.locals ∧ p.1 ∉ X.fs ∧ ∀ v, p.2.data ≠ .cell v) : Inv X pins' σ H s :=
  ⟨I.ok, I.os, I.bare, I.base, I.loc, I.cell, I.free, I.freeC, fun p hp => (List.mem_append.mp hp).elim (fun z => I.pin p (List.mem_append_left _ z)) (h p), I.hok, I.len⟩

theorem nodup_ix {N : List Str} (hN : N.Nodup) {i j : Nat} {x : Str} (a : N[i]? = some x) (b : N[j]? = some x) : i = j := by
  obtain ⟨h1, e1⟩ := List.getElem?_eq_some_iff.mp a
  obtain ⟨h2, e2⟩ := List.getElem?_eq_some_iff.mp b
  exact (List.getElem_inj hN).mp (e1.trans e2.symm)

/-- a name is stored; what changed -/
theorem store_ok2 {M : Model} {A : Around} {E : Value → Shared → Prop} {i : Nat} {x : Str} {v : V} {u : Value} {Q : Unit → Shared → Prop} (I : Inv X pins σ H s) (hN : X.N.Nodup) (hi : X.N[i]? = some x) (hx : Loc X.env.scope x) (r : RelV v u)
    (h : ∀ s', Inv X pins (σ.set i (some v)) H s' → (∃ a, Heap.SameBut a s.heap s'.heap ∧ (a = X.env.locals ∨ X.env.cells.lookup x = some a)) → Q () s') (hf : X.fn x = true ∨ X.env.scope.names.lookup x = some .local := by first | exact .inl rfl | exact .inr rfl | assumption) : wpAny M A (storeName X.env x u) Q E s := by
  obtain ⟨m, hn, hl⟩ := id I.loc
  have hcls : (X.env.scope.kind == .class || (X.env.scope.kind == .module && X.env.locals != X.env.globals)) = false := by rw [I.ok.kind]; rfl
  have hiσ : i < σ.length := by rw [I.len]; exact (List.getElem?_eq_some_iff.mp hi).1
  have cne := I.cne
  have tracked : ∀ {a : Addr} {h' : Heap}, (∃ o, s.heap.get? a = some o ∧ H a = none) → Heap.SameBut a s.heap h' → HOk X.prog X.w H h' := fun {a h'} ha hs b ob e => by
    obtain ⟨_, _, hfree⟩ := ha
    refine (I.hok b ob e).stay (fun c w' hc q => (hs.2 c ?_).trans q) (fun _ q => q) fun _ _ q => q
    rintro rfl
    rcases hc with rfl | hc
    · rw [hfree] at e; cases e
    · rw [hfree] at hc; cases hc
  rcases hx with hk | hk
  · refine wpAny_storeName_local hk hn (fun h' hn' hs => ?_) hcls
    obtain ⟨oL, _, _, hoL, _⟩ := id hn
    refine h _ ⟨I.ok, I.os, I.bare, ⟨fun b o e n hb hx => ?_, fun b o e n hb hx => ?_, I.base.free, fun b o e hx => ?_, I.base.tups, I.base.frzs, I.base.tbls⟩, ⟨_, hn', fun j y v' e1 e2 e3 => ?_⟩, fun y c e => ?_, I.free, I.freeC, fun p hp => ?_, tracked ⟨oL, hoL, I.free⟩ hs, by simpa using I.len⟩ ⟨_, hs, .inl rfl⟩
    · exact (hs.2 b (Nat.ne_of_lt (Nat.lt_of_lt_of_le (Heap.lt_size e) I.ok.above))).trans (I.base.keep b o e n hb hx)
    · obtain ⟨sl, e1⟩ := I.base.slot b o e n hb hx
      exact ⟨sl, (hs.2 b (Nat.ne_of_lt (Nat.lt_of_lt_of_le (Heap.lt_size e) I.ok.above))).trans e1⟩
    · obtain ⟨o', e1⟩ := I.base.there b o e hx
      exact ⟨o', (hs.2 b (Nat.ne_of_lt (Nat.lt_of_lt_of_le (Heap.lt_size e) I.ok.above))).trans e1⟩
    · by_cases hj : j = i
      · subst hj
        rw [hi] at e1; cases e1
        rw [List.getElem?_set_self hiσ] at e2
        cases e2
        exact ⟨u, r, .inl ⟨hk, by simp⟩⟩
      · rw [List.getElem?_set_ne (Ne.symm hj)] at e2
        obtain ⟨u', r', q⟩ := hl j y v' e1 e2 e3
        refine ⟨u', r', ?_⟩
        rcases q with ⟨k, e⟩ | ⟨k, c, e, z⟩
        · refine .inl ⟨k, ?_⟩
          have : y ≠ x := fun e => hj (nodup_ix hN e1 (e ▸ hi))
          simp [this, e]
        · exact .inr ⟨k, c, e, z.sameBut hs (cne y c e)⟩
    · obtain ⟨w', z⟩ := I.cell y c e
      exact ⟨w', z.sameBut hs (cne y c e)⟩
    · obtain ⟨e, n, ne, nf, d⟩ := I.pin p hp
      exact ⟨(hs.2 p.1 ne).trans e, n, ne, nf, d⟩
  · have hfn : X.fn x = true := by
      rcases hf with z | z
      · exact z
      · rw [z] at hk; cases hk
    obtain ⟨c, hc⟩ := I.ok.has x (.inl hk)
    obtain ⟨w', z⟩ := I.cell x c hc
    refine wpAny_storeName_cell I.ok.kind hk hc z (fun h' hc' hs => ?_)
    obtain ⟨oc, hoc, hocd⟩ := id z
    refine h { s with heap := h' } ⟨I.ok, I.os, I.bare, ⟨fun b o e n hb hx => ?_, fun b o e n hb hx => ?_, I.base.free, fun b o e hx => ?_, I.base.tups, I.base.frzs, I.base.tbls⟩, ⟨m, hn.sameBut hs (Ne.symm (cne x c hc)), fun j y v' e1 e2 e3 => ?_⟩, fun y c' e => ?_, I.free, I.freeC, fun p hp => ?_, tracked ⟨oc, hoc, I.freeC x c hc⟩ hs, by simpa using I.len⟩ ⟨c, hs, .inr hc⟩
    · exact (hs.2 b (Nat.ne_of_lt (Nat.lt_of_lt_of_le (Heap.lt_size e) (I.ok.cab x c hfn hc)))).trans (I.base.keep b o e n hb hx)
    · obtain ⟨sl, e1⟩ := I.base.slot b o e n hb hx
      exact ⟨sl, (hs.2 b (Nat.ne_of_lt (Nat.lt_of_lt_of_le (Heap.lt_size e) (I.ok.cab x c hfn hc)))).trans e1⟩
    · obtain ⟨o', e1⟩ := I.base.there b o e hx
      exact ⟨o', (hs.2 b (Nat.ne_of_lt (Nat.lt_of_lt_of_le (Heap.lt_size e) (I.ok.cab x c hfn hc)))).trans e1⟩
    · by_cases hj : j = i
      · subst hj
        rw [hi] at e1; cases e1
        rw [List.getElem?_set_self hiσ] at e2
        cases e2
        exact ⟨u, r, .inr ⟨.inl hk, c, hc, hc'⟩⟩
      · rw [List.getElem?_set_ne (Ne.symm hj)] at e2
        obtain ⟨u', r', q⟩ := hl j y v' e1 e2 e3
        refine ⟨u', r', ?_⟩
        rcases q with q | ⟨k, c', e, z'⟩
        · exact .inl q
        · refine .inr ⟨k, c', e, z'.sameBut hs ?_⟩
          rintro rfl
          exact hj (nodup_ix hN e1 (I.ok.inj _ _ _ e hc ▸ hi))
    · by_cases hcc : c' = c
      · subst hcc; exact ⟨_, hc'⟩
      · obtain ⟨w2, z2⟩ := I.cell y c' e
        exact ⟨w2, z2.sameBut hs hcc⟩
    · obtain ⟨e, n, ne, nf, d⟩ := I.pin p hp
      refine ⟨(hs.2 p.1 ?_).trans e, n, ne, nf, d⟩
      intro q
      rw [q, hoc] at e
      have q' : oc = p.2 := Option.some.inj e
      exact d w' (by rw [← q']; exact hocd)
theorem store_ok {M : Model} {A : Around} {E : Value → Shared → Prop} {i : Nat} {x : Str} {v : V} {u : Value} {Q : Unit → Shared → Prop} (I : Inv X pins σ H s) (hN : X.N.Nodup) (hi : X.N[i]? = some x) (hx : Loc X.env.scope x) (r : RelV v u)
    (h : ∀ s', Inv X pins (σ.set i (some v)) H s' → Q () s') (hf : X.fn x = true ∨ X.env.scope.names.lookup x = some .local := by first | exact .inl rfl | exact .inr rfl | assumption) : wpAny M A (storeName X.env x u) Q E s :=
  store_ok2 I hN hi hx r (fun s' I' _ => h s' I') hf
/-- behind a call or a block, the state as it is -/
theorem Inv.call' {s' : Shared} {ch : List Addr} (I : Inv X pins σ H s) (ho : s'.os = s.os) (u : Un (frs X.stack) ch H H' s.heap s'.heap) (hok : HOk X.prog X.w H' s'.heap) (hg : AllBare s'.gens)
    (hch : ∀ b ∈ ch, (b ∈ X.ex ∨ X.s₀.heap.objs.size ≤ b) ∧ b ≠ X.env.locals ∧ (∀ x c, X.env.cells.lookup x = some c → c ≠ b) ∧ ∀ p ∈ X.pn ++ pins, p.1 ≠ b) : Inv X pins σ H' s' := by
  obtain ⟨h', g', d', t', o'⟩ := s'
  have e : o' = s.os := ho
  subst e
  exact I.call (g' := g') (t' := t') (d' := d') u hok hg hch
end

/-! ### the judgements -/
/-- an exception: its class, its own dict's address (where it has one), the abstract heap behind it -/
abbrev XK := Value → Option Addr → Hp → Prop
abbrev St := List (Option V)
abbrev VK := V → Hp → Prop
/-- an expression's reading; a test's; an argument list's -/
abbrev TE := St → Hp → VK → Prop
abbrev TT := St → Hp → (Bool → Hp → Prop) → Prop
abbrev TA := St → Hp → (List V → Hp → Prop) → Prop
/-- what is wanted behind a statement -/
structure Ends where
  nx : St → Hp → Prop
  rt : VK
  bk : St → Hp → Prop := fun _ _ => False
  ct : St → Hp → Prop := fun _ _ => False
abbrev TS := Ends → St → Hp → Prop

def EP (X : Cx) (pins : List (Addr × Obj)) (σ : St) (Q : VK) (u : Value) (s' : Shared) : Prop := ∃ v H', Inv X pins σ H' s' ∧ RelV v u ∧ Q v H'
def TP (X : Cx) (pins : List (Addr × Obj)) (σ : St) (Q : Bool → Hp → Prop) (b : Bool) (s' : Shared) : Prop := ∃ H', Inv X pins σ H' s' ∧ Q b H'
def AP (X : Cx) (pins : List (Addr × Obj)) (σ : St) (Q : List V → Hp → Prop) (us : List Value) (s' : Shared) : Prop := ∃ vs H', Inv X pins σ H' s' ∧ Vals vs us ∧ Q vs H'
def SP (X : Cx) (pins : List (Addr × Obj)) (D : Ends) (f : Flow) (s' : Shared) : Prop :=
  match f with
  | .next => ∃ σ' H', Inv X pins σ' H' s' ∧ D.nx σ' H'
  | .brk => ∃ σ' H', Inv X pins σ' H' s' ∧ D.bk σ' H'
  | .cont => ∃ σ' H', Inv X pins σ' H' s' ∧ D.ct σ' H'
  | .ret u => ∃ v σ' H', Inv X pins σ' H' s' ∧ RelV v u ∧ D.rt v H'

def PE (X : Cx) (e : Expr) (t : TE) : Prop :=
  ∀ (pins : List (Addr × Obj)) (s : Shared) (σ : St) (H : Hp) (Q : VK), Inv X pins σ H s → t σ H Q → wpAny (model X.prog X.w) X.A (eval e X.env) (EP X pins σ Q) X.xe s
def PT (X : Cx) (e : Expr) (t : TT) : Prop :=
  ∀ (pins : List (Addr × Obj)) (s : Shared) (σ : St) (H : Hp) (Q : Bool → Hp → Prop), Inv X pins σ H s → t σ H Q → wpAny (model X.prog X.w) X.A (isTrue e X.env (eval e X.env)) (TP X pins σ Q) X.xe s
/-- a test whatever its 'whole' is (and, or) -/
def PW (X : Cx) (e : Expr) (t : TT) : Prop :=
  ∀ (whole : Sem Value) (pins : List (Addr × Obj)) (s : Shared) (σ : St) (H : Hp) (Q : Bool → Hp → Prop), Inv X pins σ H s → t σ H Q → wpAny (model X.prog X.w) X.A (isTrue e X.env whole) (TP X pins σ Q) X.xe s
theorem PW.pt {X : Cx} {e : Expr} {t : TT} (h : PW X e t) : PT X e t := h _
/-- an argument list (no star), from the left -/
def PA (X : Cx) (es : List Expr) (t : TA) : Prop :=
  ∀ (pos : Pos) (pins : List (Addr × Obj)) (s : Shared) (σ : St) (H : Hp) (Q : List V → Hp → Prop), Inv X pins σ H s → t σ H Q → wpAny (model X.prog X.w) X.A (spliced (backTo pos (starEach es X.env))) (AP X pins σ Q) X.xe s
def PS (X : Cx) (st : Stmt) (t : TS) : Prop :=
  ∀ (pins : List (Addr × Obj)) (s : Shared) (σ : St) (H : Hp) (D : Ends), Inv X pins σ H s → t D σ H → wpAny (model X.prog X.w) X.A (exec st X.env) (SP X pins D) X.xe s
def PSs (X : Cx) (st : List Stmt) (t : TS) : Prop :=
  ∀ (pins : List (Addr × Obj)) (s : Shared) (σ : St) (H : Hp) (D : Ends), Inv X pins σ H s → t D σ H → wpAny (model X.prog X.w) X.A (execs st X.env) (SP X pins D) X.xe s
/-- weaken the end -/
theorem thn {α : Type} {t : Sem α} {Q Q' : α → Shared → Prop} {M : Model} {A : Around} {E : Value → Shared → Prop} {s : Shared} (h : wpAny M A t Q E s) (hQ : ∀ a s, Q a s → Q' a s) : wpAny M A t Q' E s := wpAny_mono h hQ fun _ _ x => x
end L2

namespace L2
open PySem PySem.Spec PyProof.Rows
section
variable {X : Cx}

/-! ### names and constants -/
def tVar (i : Nat) : TE := fun σ H Q => ∃ v, σ[i]? = some (some v) ∧ Q v H
def tC (v : V) : TE := fun _ H Q => Q v H
theorem pe_var {i : Nat} {x : Str} {pos : Pos} (hN : X.N[i]? = some x) (hv : Vis X.env.scope x) (hd : (x == ("__debug__" : Str)) = false := by decide) (hcd : (x == ("__classdict__" : Str)) = false := by decide) : PE X (.Name x pos) (tVar i) := by
  intro pins s σ H Q I h
  obtain ⟨v, e, h⟩ := h
  obtain ⟨m, hn, hl⟩ := I.loc
  obtain ⟨u, r, l⟩ := hl i x v hN e hv
  have fin : EP X pins σ Q u s := ⟨v, H, I, r, h⟩
  rcases l with ⟨hk, hm⟩ | ⟨hk, c, hc, hcell⟩
  · exact wpAny_Name (wpAny_loadName_local I.ok.kind hk hn hm fin) hd
  · rcases hk with hk | hk
    · exact wpAny_Name (wpAny_loadName_cell I.ok.kind hk hc hcell fin) hd
    · exact wpAny_Name (wpAny_loadName_free I.ok.kind hk hc hcell fin hcd) hd
theorem pe_int {i j pos} : PE X (.Constant (.int i) j pos) (tC (.int i)) := fun _ _ _ H _ I h => wpAny_Constant_int ⟨.int i, H, I.tok _, ⟨_, rfl⟩, h⟩
theorem pe_bl {b j pos} : PE X (.Constant (.bool b) j pos) (tC (.bl b)) := fun _ _ _ H _ I h => Constant_bool ⟨.bl b, H, I, rfl, h⟩
theorem pe_str {x j pos} : PE X (.Constant (.str x) j pos) (tC (.str x)) := fun _ _ _ H _ I h => Calls.Constant_str ⟨.str x, H, I.tok _, ⟨_, rfl⟩, h⟩

/-- a global name of the def -/
def Gl (X : Cx) (x : Str) : Prop := X.env.kindOf x = some .globalImplicit
theorem ld_glob {E : Value → Shared → Prop} {pins : List (Addr × Obj)} {s : Shared} {σ : St} {H : Hp} {x : Str} {u : Value} {pos : Pos} {Q : Value → Shared → Prop} (I : Inv X pins σ H s) (hg : Gl X x) (hm : X.mg x = some u) (h : Q u s)
    (hd : (x == ("__debug__" : Str)) = false := by decide) : wpAny (model X.prog X.w) X.A (eval (.Name x pos) X.env) Q E s :=
  Calls.Name_function_global I.ok.kind hg (Calls.loadGlobal_global (by rw [I.ok.glob]; exact I.mod.glob.keeps I.bk) hm h) hd
theorem ld_blt {E : Value → Shared → Prop} {pins : List (Addr × Obj)} {s : Shared} {σ : St} {H : Hp} {x : Str} {u : Value} {pos : Pos} {Q : Value → Shared → Prop} (I : Inv X pins σ H s) (hg : Gl X x) (hm : X.mg x = none) (hv : bootBuiltins x = some u) (h : Q u s)
    (hn : x ≠ "__name__" := by decide) (hd : (x == ("__debug__" : Str)) = false := by decide) : wpAny (model X.prog X.w) X.A (eval (.Name x pos) X.env) Q E s := by
  obtain ⟨mb, h1, h2⟩ := I.mod.blt
  exact Calls.Name_function_global I.ok.kind hg (Calls.loadGlobal_builtin (by rw [I.ok.glob]; exact I.mod.glob.keeps I.bk) hm (by rw [I.ok.blt]; exact h1.keeps I.bk) ((h2 x hn).trans hv) h) hd
theorem pe_bltn {x : Str} {v : V} {u : Value} {pos : Pos} (hg : Gl X x) (hm : X.mg x = none) (hv : bootBuiltins x = some u) (r : RelV v u) (hn : x ≠ "__name__" := by decide) (hd : (x == ("__debug__" : Str)) = false := by decide) : PE X (.Name x pos) (tC v) :=
  fun _ _ _ H _ I h => ld_blt I hg hm hv ⟨v, H, I, r, h⟩ hn hd

/-! ### arithmetic -/
/-- two ints -/
def t2I (ta tb : TE) (k : Int → Int → Hp → Prop) : St → Hp → Prop := fun σ H => ta σ H fun x H1 => tb σ H1 fun y H2 => ∃ i j, x = .int i ∧ y = .int j ∧ k i j H2
def tAdd (ta tb : TE) : TE := fun σ H Q => t2I ta tb (fun i j H2 => Q (.int (i + j)) H2) σ H
def tSub (ta tb : TE) : TE := fun σ H Q => t2I ta tb (fun i j H2 => Q (.int (i - j)) H2) σ H
/-- the left factor below 2^64 -/
def tMul (ta tb : TE) : TE := fun σ H Q => t2I ta tb (fun i j H2 => (-(2 ^ 64) < i ∧ i < 2 ^ 64) ∧ Q (.int (i * j)) H2) σ H
variable {a b : Expr} {ta tb : TE} {pos : Pos}
/-! ### comparisons -/
def PC (X : Cx) (op : CmpOp) (a b : Expr) (t : TE) : Prop :=
  ∀ (pins : List (Addr × Obj)) (s : Shared) (σ : St) (H : Hp) (Q : VK), Inv X pins σ H s → t σ H Q →
    wpAny (model X.prog X.w) X.A (eval a X.env) (fun v s₁ => wpAny (model X.prog X.w) X.A (eval b X.env) (fun u s₂ => wpAny (model X.prog X.w) X.A (compareOp op v u) (EP X pins σ Q) X.xe s₂) X.xe s₁) X.xe s
def tCmp (p : Int → Int → Bool) (ta tb : TE) : TE := fun σ H Q => t2I ta tb (fun i j H2 => Q (.bl (p i j)) H2) σ H
abbrev tLt : TE → TE → TE := tCmp fun i j => decide (i < j)
abbrev tLe : TE → TE → TE := tCmp fun i j => decide (i ≤ j)
abbrev tGt : TE → TE → TE := tCmp fun i j => decide (j < i)
abbrev tGe : TE → TE → TE := tCmp fun i j => decide (j ≤ i)
abbrev tEqI : TE → TE → TE := tCmp fun i j => decide (i = j)
abbrev tNeI : TE → TE → TE := tCmp fun i j => !decide (i = j)
/-- is None -/
def tIsN (ta : TE) : TE := fun σ H Q => ta σ H fun x H1 => Q (.bl (decide (x = .non))) H1
def tNotN (ta : TE) : TE := fun σ H Q => ta σ H fun x H1 => Q (.bl (!decide (x = .non))) H1
/-- a comparison as a value, as a test -/
def tB (t : TE) : TT := fun σ H Q => t σ H fun x H1 => ∃ c, x = .bl c ∧ Q c H1
theorem pt_cmp {op : CmpOp} {t : TE} (h : PC X op a b t) (h1 : behindInMarks op b = false := by first | exact nobehind _ (by decide) (by decide) | rfl) : PT X (.Compare a [op] [b] pos) (tB t) := by
  intro pins s σ H Q I hw
  refine wpAny_isTrue_Compare1 (thn (h pins s σ H _ I hw) fun v s1 h1 => thn h1 fun u s2 h2 => thn h2 fun c s3 ⟨x, H1, I1, r1, q1⟩ => ?_) h1
  obtain ⟨d, rfl, q⟩ := q1
  cases r1
  exact wpAny_truthy_bool ⟨H1, I1, q⟩
/-- an expression whose value is a bool, as a test -/
theorem pt_val {e : Expr} {t : TE} (h : PE X e t) (he : ∀ whole, isTrue e X.env whole = (do let v ← whole; standAt e.pos; holding [v] (truthy v)) := by intro _; rfl) : PT X e (tB t) := by
  intro pins s σ H Q I hw
  refine isTrue_plain (thn (h pins s σ H _ I hw) fun v s1 ⟨x, H1, I1, r1, q1⟩ => ?_) (he _)
  obtain ⟨d, rfl, q⟩ := q1
  cases r1
  exact wpAny_truthy_bool ⟨H1, I1, q⟩

/-! ### and, or, not -/
variable {tA tB' : TT} {rest : List Expr}
def tAnd (t u : TT) : TT := fun σ H Q => t σ H fun c H1 => if c = true then u σ H1 Q else Q false H1
def tOr (t u : TT) : TT := fun σ H Q => t σ H fun c H1 => if c = true then Q true H1 else u σ H1 Q
def tNot (t : TT) : TT := fun σ H Q => t σ H fun c H1 => Q (!c) H1
theorem pw_and1 (ha : PT X a tA) : PW X (.BoolOp .And [a] pos) tA := by
  intro wh pins s σ H Q I h
  refine isTrue_and (thn (ha pins s σ H Q I h) fun c s1 e => ?_)
  cases c with
  | true => exact isTrue_and_nil e
  | false => exact e
theorem pw_or1 (ha : PT X a tA) : PW X (.BoolOp .Or [a] pos) tA := by
  intro wh pins s σ H Q I h
  refine isTrue_or (thn (ha pins s σ H Q I h) fun c s1 e => ?_)
  cases c with
  | false => exact isTrue_or_nil e
  | true => exact e
theorem pw_and (ha : PT X a tA) (hb : PW X (.BoolOp .And (b :: rest) pos) tB') : PW X (.BoolOp .And (a :: b :: rest) pos) (tAnd tA tB') := by
  intro wh pins s σ H Q I h
  refine isTrue_and (thn (ha pins s σ H _ I h) fun c s1 ⟨H1, I1, q1⟩ => ?_)
  cases c with
  | true => exact hb wh pins s1 σ H1 Q I1 q1
  | false => exact ⟨H1, I1, q1⟩
theorem pw_or (ha : PT X a tA) (hb : PW X (.BoolOp .Or (b :: rest) pos) tB') : PW X (.BoolOp .Or (a :: b :: rest) pos) (tOr tA tB') := by
  intro wh pins s σ H Q I h
  refine isTrue_or (thn (ha pins s σ H _ I h) fun c s1 ⟨H1, I1, q1⟩ => ?_)
  cases c with
  | true => exact ⟨H1, I1, q1⟩
  | false => exact hb wh pins s1 σ H1 Q I1 q1
theorem pt_not (ha : PT X a tA) : PT X (.UnaryOp .Not a pos) (tNot tA) := by
  intro pins s σ H Q I h
  exact isTrue_not (ha pins s σ H (fun c H1 => Q (!c) H1) I h)
/-- .. as values (bools) -/
def tAndV (ta tb : TE) : TE := fun σ H Q => ta σ H fun x H1 => ∃ c, x = .bl c ∧ if c = true then tb σ H1 Q else Q (.bl false) H1
def tOrV (ta tb : TE) : TE := fun σ H Q => ta σ H fun x H1 => ∃ c, x = .bl c ∧ if c = true then Q (.bl true) H1 else tb σ H1 Q
def tNotV (ta : TE) : TE := fun σ H Q => ta σ H fun x H1 => ∃ c, x = .bl c ∧ Q (.bl (!c)) H1
theorem pe_one {op} {t : TE} (h : PE X a t) : PE X (.BoolOp op [a] pos) t := fun pins s σ H Q I hw => BoolOp_one (h pins s σ H Q I hw)
theorem pe_and (ha : PE X a ta) (hb : PE X (.BoolOp .And (b :: rest) pos) tb) : PE X (.BoolOp .And (a :: b :: rest) pos) (tAndV ta tb) := by
  intro pins s σ H Q I h
  refine BoolOp_and (thn (ha pins s σ H _ I h) fun v s1 ⟨x, H1, I1, r1, q1⟩ => ?_)
  obtain ⟨c, rfl, q1⟩ := q1
  cases r1
  refine wpAny_truthy_bool ?_
  cases c with
  | true => exact hb pins s1 σ H1 Q I1 q1
  | false => exact ⟨.bl false, H1, I1, rfl, q1⟩
theorem pe_or (ha : PE X a ta) (hb : PE X (.BoolOp .Or (b :: rest) pos) tb) : PE X (.BoolOp .Or (a :: b :: rest) pos) (tOrV ta tb) := by
  intro pins s σ H Q I h
  refine BoolOp_or (thn (ha pins s σ H _ I h) fun v s1 ⟨x, H1, I1, r1, q1⟩ => ?_)
  obtain ⟨c, rfl, q1⟩ := q1
  cases r1
  refine wpAny_truthy_bool ?_
  cases c with
  | false => exact hb pins s1 σ H1 Q I1 q1
  | true => exact ⟨.bl true, H1, I1, rfl, q1⟩
theorem pe_not (ha : PE X a ta) : PE X (.UnaryOp .Not a pos) (tNotV ta) := by
  intro pins s σ H Q I h
  refine UnaryOp_ (thn (ha pins s σ H _ I h) fun v s1 ⟨x, H1, I1, r1, q1⟩ => ?_)
  obtain ⟨c, rfl, q1⟩ := q1
  cases r1
  exact not_of (wpAny_truthy_bool ⟨.bl (!c), H1, I1, rfl, q1⟩)
/-- a if t else b -/
def tIf (t : TT) (ta tb : TE) : TE := fun σ H Q => t σ H fun c H1 => if c = true then ta σ H1 Q else tb σ H1 Q
end
end L2

namespace L2
open PySem PySem.Spec PyProof.Rows

/-! ### a list, a tuple that is read: tracked, frozen, or an object of the module -/
def SqL (K : PySem.W.Frag) (H : Hp) (a : Addr) (xs : List V) : Prop :=
  Rd H a (.lst xs) ∨
    ∃ (o : Obj) (its : Array Value) (n : Nat), K.lookup a = some o ∧ o.cls = .type "list" ∧ o.dict = none ∧ o.data = .seq its n ∧ its.size ≤ sizeLine ∧ Vals xs its.toList
def SqT (K : PySem.W.Frag) (H : Hp) (a : Addr) (xs : List V) : Prop :=
  Rd H a (.tup xs) ∨
    ∃ (o : Obj) (its : Array Value) (n : Nat), K.lookup a = some o ∧ o.cls = .type "tuple" ∧ o.data = .seq its n ∧ its.size ≤ sizeLine ∧ Vals xs its.toList
def absV : Value → Option V
  | .none => some .non
  | .bool b => some (.bl b)
  | .int i _ => some (.int i)
  | .str x _ => some (.str x)
  | .bytes b _ => some (.byt b)
  | .float b _ => some (.flt b)
  | .ref a => some (.ref a)
  | .type n => some (.ty n)
  | _ => none
theorem RelV.abs {x : V} {u : Value} (r : RelV x u) : absV u = some x := by
  cases x with
  | non => cases r; rfl
  | bl _ => cases r; rfl
  | int _ => obtain ⟨t, rfl⟩ := r; rfl
  | str _ => obtain ⟨t, rfl⟩ := r; rfl
  | byt _ => obtain ⟨t, rfl⟩ := r; rfl
  | flt _ => obtain ⟨t, rfl⟩ := r; rfl
  | ref _ => cases r; rfl
  | ty _ => cases r; rfl
theorem RelV.inj {x y : V} {u : Value} (r : RelV x u) (q : RelV y u) : x = y := Option.some.inj (r.abs.symm.trans q.abs)
theorem Vals.inj : ∀ {xs ys : List V} {us : List Value}, Vals xs us → Vals ys us → xs = ys
  | _, _, _, .nil, .nil => rfl
  | _, _, _, .cons r t, .cons r' t' => by rw [r.inj r', Vals.inj t t']
section
variable {X : Cx} {pins : List (Addr × Obj)} {σ : St} {H : Hp} {s : Shared} {a : Addr} {xs ys : List V}
theorem SqL.of {K : PySem.W.Frag} (h : H a = some (.lst xs)) : SqL K H a xs := .inl (.inl h)
theorem SqT.of {K : PySem.W.Frag} (h : H a = some (.tup xs)) : SqT K H a xs := .inl (.inl h)
theorem Inv.list (I : Inv X pins σ H s) (h : SqL X.K H a xs) : ∃ its : List Value, Vals xs its ∧ PlainL s.heap a its.toArray ∧ xs.length ≤ sizeLine := by
  rcases h with h | ⟨o, its, n, hk, hc, hd, hs, hz, r⟩
  · obtain ⟨z, its, n, r, e⟩ := h.ok I.hok
    exact ⟨its, r, ⟨_, n, e, rfl, rfl, rfl⟩, z⟩
  · refine ⟨its.toList, r, ⟨o, n, I.kIn a o hk, hc, hd, by simpa using hs⟩, ?_⟩
    have e := r.length
    simp only [Array.length_toList] at e
    omega
theorem Inv.tuple (I : Inv X pins σ H s) (h : SqT X.K H a xs) : ∃ its : List Value, Vals xs its ∧ IsTup s.heap a its.toArray ∧ xs.length ≤ sizeLine := by
  rcases h with h | ⟨o, its, n, hk, hc, hs, hz, r⟩
  · obtain ⟨z, its, r, p⟩ := h.ok I.hok
    exact ⟨its, r, p, z⟩
  · refine ⟨its.toList, r, ⟨o, I.kIn a o hk, hc, n, by simpa using hs⟩, ?_⟩
    have e := r.length
    simp only [Array.length_toList] at e
    omega
theorem Inv.list_inj (I : Inv X pins σ H s) (h : SqL X.K H a xs) (h' : SqL X.K H a ys) : xs = ys := by
  obtain ⟨its, r, ⟨o, n, e, _, _, d⟩, _⟩ := I.list h
  obtain ⟨its', r', ⟨o', n', e', _, _, d'⟩, _⟩ := I.list h'
  rw [e] at e'; cases e'
  rw [d] at d'
  injection d' with d1 _
  have : its = its' := by simpa using congrArg Array.toList d1
  subst this
  exact r.inj r'
theorem Inv.tuple_inj (I : Inv X pins σ H s) (h : SqT X.K H a xs) (h' : SqT X.K H a ys) : xs = ys := by
  obtain ⟨its, r, ⟨o, e, _, n, d⟩, _⟩ := I.tuple h
  obtain ⟨its', r', ⟨o', e', _, n', d'⟩, _⟩ := I.tuple h'
  rw [e] at e'; cases e'
  rw [d] at d'
  injection d' with d1 _
  have : its = its' := by simpa using congrArg Array.toList d1
  subst this
  exact r.inj r'
end

/-! ### another wish about exceptions -/
abbrev Cx.wish (X : Cx) (E : Value → Shared → Prop) : Cx := { X with xe := E }
/-- no exception leaves -/
abbrev Cx.nox (X : Cx) : Cx := X.wish fun _ _ => False
theorem Cx.Ok.wish {X : Cx} (ok : X.Ok) (E : Value → Shared → Prop) : (X.wish E).Ok :=
  ⟨ok.mod, ok.kind, ok.glob, ok.blt, ok.above, ok.inj, ok.has, ok.cab, ok.hd, ok.frames, ok.stk, ok.exf, ok.bs, ok.bsz, ok.noex, ok.exfs, ok.funs, ok.frf⟩
theorem Cx.Ok.unwish {X : Cx} {E : Value → Shared → Prop} (ok : (X.wish E).Ok) : X.Ok :=
  ⟨ok.mod, ok.kind, ok.glob, ok.blt, ok.above, ok.inj, ok.has, ok.cab, ok.hd, ok.frames, ok.stk, ok.exf, ok.bs, ok.bsz, ok.noex, ok.exfs, ok.funs, ok.frf⟩
section
variable {X : Cx} {pins : List (Addr × Obj)} {σ : St} {H : Hp} {s : Shared} {E : Value → Shared → Prop}
theorem Inv.wish (I : Inv X pins σ H s) (E : Value → Shared → Prop) : Inv (X.wish E) pins σ H s := ⟨I.ok.wish E, I.os, I.bare, I.base, I.loc, I.cell, I.free, I.freeC, I.pin, I.hok, I.len⟩
theorem Inv.unwish (I : Inv (X.wish E) pins σ H s) : Inv X pins σ H s := ⟨I.ok.unwish, I.os, I.bare, I.base, I.loc, I.cell, I.free, I.freeC, I.pin, I.hok, I.len⟩
theorem SP.unwish {D : Ends} {f : Flow} {s' : Shared} (h : SP (X.wish E) pins D f s') : SP X pins D f s' := by
  cases f with
  | next => obtain ⟨σ', H', I, q⟩ := h; exact ⟨σ', H', I.unwish, q⟩
  | brk => obtain ⟨σ', H', I, q⟩ := h; exact ⟨σ', H', I.unwish, q⟩
  | cont => obtain ⟨σ', H', I, q⟩ := h; exact ⟨σ', H', I.unwish, q⟩
  | ret u => obtain ⟨v, σ', H', I, r, q⟩ := h; exact ⟨v, σ', H', I.unwish, r, q⟩
theorem PSs.nox {st : List Stmt} {t : TS} (h : PSs X.nox st t) : PSs X st t := fun pins s σ H D I hw =>
  wpAny_mono (h pins s σ H D (I.wish _) hw) (fun _ _ q => q.unwish) fun _ _ z => False.elim z
end

/-! ### blocks and small statements -/
section
variable {X : Cx} {st : Stmt} {rest : List Stmt} {t u : TS} {e : Expr} {te : TE} {pos : Pos}
def tNext : TS := fun D σ H => D.nx σ H
def tSeq (t u : TS) : TS := fun D σ H => t { D with nx := u D } σ H
theorem pss_nil : PSs X [] tNext := fun _ _ σ H _ I h => wpAny_execs_nil ⟨σ, H, I, h⟩
theorem pss_cons (h1 : PS X st t) (h2 : PSs X rest u) : PSs X (st :: rest) (tSeq t u) := by
  intro pins s σ H D I h
  refine wpAny_execs_cons (thn (h1 pins s σ H { D with nx := u D } I h) fun f s1 q => ?_)
  cases f with
  | next =>
    obtain ⟨σ', H', I', q⟩ := q
    exact h2 pins s1 σ' H' D I' q
  | ret v => exact q
  | brk => exact q
  | cont => exact q
theorem pss_one (h1 : PS X st t) : PSs X [st] t := by
  intro pins s σ H D I h
  refine wpAny_execs_cons (thn (h1 pins s σ H D I h) fun f s1 q => ?_)
  cases f with
  | next => exact wpAny_execs_nil q
  | ret v => exact q
  | brk => exact q
  | cont => exact q
def tBreak : TS := fun D σ H => D.bk σ H
def tCont : TS := fun D σ H => D.ct σ H
/-- in a def's body nothing is shown -/
theorem Inv.quiet {pins : List (Addr × Obj)} {σ : St} {H : Hp} {s : Shared} (I : Inv X pins σ H s) : interactive X.env = false := by simp [interactive, I.ok.kind]
/-- an expression whose value is dropped -/
def tDrop (te : TE) : TS := fun D σ H => te σ H fun _ H1 => D.nx σ H1
theorem ps_expr (he : PE X e te) (hs : swapsWith e none pos.line X.env = pure false := by rfl) : PS X (.Expr e pos) (tDrop te) := by
  intro pins s σ H D I h
  exact wpAny_Expr_any (thn (he pins s σ H _ I h) fun v s1 ⟨x, H1, I1, r1, q1⟩ => ⟨σ, H1, I1, q1⟩) I.quiet hs
def tRet (te : TE) : TS := fun D σ H => te σ H D.rt
theorem ps_ret (he : PE X e te) : PS X (.Return (some e) pos) (tRet te) := by
  intro pins s σ H D I h
  exact wpAny_Return_some (thn (he pins s σ H _ I h) fun v s1 ⟨x, H1, I1, r1, q1⟩ => ⟨x, σ, H1, I1, r1, q1⟩)
def tRetN : TS := fun D _ H => D.rt .non H
def tIfS (c : TT) (t u : TS) : TS := fun D σ H => c σ H fun b H1 => if b = true then t D σ H1 else u D σ H1
theorem ps_if {c : Expr} {a b : List Stmt} {tc : TT} (hc : PT X c tc) (ha : PSs X a t) (hb : PSs X b u) : PS X (.If c a b pos) (tIfS tc t u) := by
  intro pins s σ H D I h
  refine wpAny_If (thn (hc pins s σ H _ I h) fun d s1 ⟨H1, I1, q1⟩ => ?_)
  cases d with
  | true => exact ha pins s1 σ H1 D I1 q1
  | false => exact hb pins s1 σ H1 D I1 q1
/-- code that the proof never comes to -/
def tNever : TS := fun _ _ _ => False
theorem pss_never {sts : List Stmt} : PSs X sts tNever := fun _ _ _ _ _ _ h => h.elim
end

/-! ### targets -/
abbrev TG := V → St → Hp → (St → Hp → Prop) → Prop
abbrev TGs := List V → St → Hp → (St → Hp → Prop) → Prop
def PG (X : Cx) (target : Expr) (t : TG) : Prop :=
  ∀ (pins : List (Addr × Obj)) (s : Shared) (σ : St) (H : Hp) (v : V) (u : Value) (Q : St → Hp → Prop), Inv X pins σ H s → RelV v u → t v σ H Q →
    wpAny (model X.prog X.w) X.A (assign target X.env u) (fun _ s' => ∃ σ' H', Inv X pins σ' H' s' ∧ Q σ' H') X.xe s
/-- several targets, one after another -/
def PGs (X : Cx) (ts : List Expr) (t : TGs) : Prop :=
  ∀ (pins : List (Addr × Obj)) (s : Shared) (σ : St) (H : Hp) (vs : List V) (us : List Value) (Q : St → Hp → Prop), Inv X pins σ H s → Vals vs us → t vs σ H Q →
    wpAny (model X.prog X.w) X.A (assignInOrder ((assignEach ts X.env).map (·.2)) us) (fun _ s' => ∃ σ' H', Inv X pins σ' H' s' ∧ Q σ' H') X.xe s
/-- o[i] = v, by values -/
abbrev TSet := V → V → V → Hp → (Hp → Prop) → Prop
def PSet (X : Cx) (t : TSet) : Prop :=
  ∀ (pins : List (Addr × Obj)) (s : Shared) (σ : St) (H : Hp) (o i v : V) (ov iv u : Value) (Q : Hp → Prop), Inv X pins σ H s → RelV o ov → RelV i iv → RelV v u → t o i v H Q →
    wpAny (model X.prog X.w) X.A (setItem ov iv u) (fun _ s' => ∃ H', Inv X pins σ H' s' ∧ Q H') X.xe s
/-- a op= b, by values -/
abbrev TIp := V → V → Hp → VK → Prop
def PIp (X : Cx) (op : Operator) (t : TIp) : Prop :=
  ∀ (pins : List (Addr × Obj)) (s : Shared) (σ : St) (H : Hp) (x y : V) (v u : Value) (Q : VK), Inv X pins σ H s → RelV x v → RelV y u → t x y H Q →
    wpAny (model X.prog X.w) X.A (inplaceOp op v u) (EP X pins σ Q) X.xe s
section
variable {X : Cx} {pos : Pos}
def gName (i : Nat) : TG := fun v σ H Q => Q (σ.set i (some v)) H
theorem pg_name {i : Nat} {x : Str} (hN : X.N.Nodup) (hi : X.N[i]? = some x) (hx : Loc X.env.scope x) (hf : X.fn x = true ∨ X.env.scope.names.lookup x = some .local := by first | exact .inl rfl | exact .inr rfl | assumption) : PG X (.Name x pos) (gName i) := by
  intro pins s σ H v u Q I r h
  exact wpAny_assign_Name (store_ok I hN hi hx r (fun s' I' => ⟨_, H, I', h⟩) hf)
def gNil : TGs := fun vs σ H Q => vs = [] ∧ Q σ H
def gCons (t : TG) (u : TGs) : TGs := fun vs σ H Q => ∃ v r, vs = v :: r ∧ t v σ H fun σ' H' => u r σ' H' Q
theorem pgs_nil : PGs X [] gNil := by
  intro pins s σ H vs us Q I r h
  obtain ⟨e, h⟩ := h
  subst e
  cases r
  exact assignInOrder_nil ⟨σ, H, I, h⟩
theorem pgs_cons {e : Expr} {es : List Expr} {t : TG} {u : TGs} (h1 : PG X e t) (h2 : PGs X es u)
    (hs : (assignEach (e :: es) X.env).map (·.2) = assign e X.env :: (assignEach es X.env).map (·.2) := by rfl) : PGs X (e :: es) (gCons t u) := by
  intro pins s σ H vs us Q I r h
  obtain ⟨v, vr, e1, h⟩ := h
  subst e1
  cases r with
  | cons r rr =>
    rw [hs]
    refine assignInOrder_cons (thn (h1 pins s σ H _ _ _ I r h) fun _ s1 ⟨σ1, H1, I1, q1⟩ => ?_)
    exact h2 pins s1 σ1 H1 _ _ Q I1 rr q1
/-- (a, b, ..) = a tuple of that length -/
def gTup (K : PySem.W.Frag) (n : Nat) (t : TGs) : TG := fun v σ H Q => ∃ a xs, v = .ref a ∧ SqT K H a xs ∧ xs.length = n ∧ t xs σ H Q
theorem pg_tup {es : List Expr} {k : Nat} {t : TGs} {n : Nat} (hc : X.calm = true) (h : PGs X es t)
    (hn : (assignEach es X.env).length = n := by rfl) (hst : (assignEach es X.env).findIdx? (·.1) = none := by rfl) : PG X (.Tuple es k pos) (gTup X.K n t) := by
  intro pins s σ H v u Q I r hw
  obtain ⟨a, xs, e1, hq, hl, hw⟩ := hw
  subst e1
  cases r
  obtain ⟨its, rv, ht, hz⟩ := I.tuple hq
  refine assign_Tuple_tuple (I.ok.hd hc) ht (by simp [hn, ← hl, rv.length]) hst fun h' hx => ?_
  have I1 : Inv X pins σ H { s with heap := h' } := I.kept (t' := s.toks) fun b o e => hx b o (Nat.ne_of_lt (Heap.lt_size e)) e
  exact h pins _ σ H xs _ Q I1 (by simpa using rv) hw
/-- o[i] = .. -/
def gSub (to ti : TE) (t : TSet) : TG := fun v σ H Q => to σ H fun o H1 => ti σ H1 fun i H2 => t o i v H2 fun H3 => Q σ H3
theorem pg_sub {o i : Expr} {to ti : TE} {t : TSet} (ho : PE X o to) (hi : PE X i ti) (hs : PSet X t)
    (ha : ∀ v, assign (.Subscript o i pos) X.env v = (do
      let ov ← holding [v] (eval o X.env)
      let iv ← holding [v, ov] (eval i X.env)
      standAt pos
      holding [v, ov, iv] (setItem ov iv v)
      release [v, ov, iv] []) := by intro _; rfl) : PG X (.Subscript o i pos) (gSub to ti t) := by
  intro pins s σ H v u Q I r h
  rw [ha]
  refine wpAny_bind (wpAny_holding (thn (ho pins s σ H _ I h) fun ov s1 ⟨x, H1, I1, r1, q1⟩ => ?_))
  refine wpAny_bind (wpAny_holding (thn (hi pins s1 σ H1 _ I1 q1) fun iv s2 ⟨y, H2, I2, r2, q2⟩ => ?_))
  refine wpAny_bind (wpAny_standAt (wpAny_bind (wpAny_holding (thn (hs pins s2 σ H2 x y v ov iv u _ I2 r1 r2 r q2) fun _ s3 ⟨H3, I3, q3⟩ => ?_))))
  exact wpAny_release ⟨σ, H3, I3, q3⟩
/-- target = value -/
def tAsg (te : TE) (g : TG) : TS := fun D σ H => te σ H fun x H1 => g x σ H1 D.nx
theorem ps_asg {tg e : Expr} {te : TE} {g : TG} (he : PE X e te) (hg : PG X tg g) (hs : swapsWithSole [tg] e pos.line X.env = pure false := by rfl) (hw : swappedStores [tg] e X.env = pure none := by rfl)
    (h1 : (assignEach [tg] X.env).map (·.2) = [assign tg X.env] := by rfl) : PS X (.Assign [tg] e pos) (tAsg te g) := by
  intro pins s σ H D I h
  refine wpAny_Assign_stores (thn (he pins s σ H _ I h) fun v s1 ⟨x, H1, I1, r1, q1⟩ => ?_) hs hw
  rw [h1]
  exact thn (hg pins s1 σ H1 x v _ I1 r1 q1) fun _ s2 q => q
/-- name = value -/
theorem ps_set {i : Nat} {x : Str} {e : Expr} {te : TE} {pos' : Pos} (hN : X.N.Nodup) (hi : X.N[i]? = some x) (hx : Loc X.env.scope x) (he : PE X e te) (hs : swapsWith e (some (.Name x pos')) pos.line X.env = pure false := by rfl) (hf : X.fn x = true ∨ X.env.scope.names.lookup x = some .local := by first | exact .inl rfl | exact .inr rfl | assumption) :
    PS X (.Assign [.Name x pos'] e pos) (tAsg te (gName i)) := by
  intro pins s σ H D I h
  refine wpAny_Assign_Name (thn (he pins s σ H _ I h) fun v s1 ⟨y, H1, I1, r1, q1⟩ => ?_) hs
  exact store_ok I1 hN hi hx r1 (fun s2 I2 => ⟨_, H1, I2, q1⟩) hf
/-- a, b = x, y with plain local names: stored from the right; the pair itself is not tracked (the opening rows as in PyProof/Rows/TupAssign.lean:23) -/
def tPar (i j : Nat) (ta : TA) : TS := fun D σ H => ta σ H fun vs H1 => ∃ v w, vs = [v, w] ∧ D.nx ((σ.set i (some v)).set j (some w)) H1
/-- name op= e -/
def tAug (i : Nat) (te : TE) (ti : TIp) : TS := fun D σ H => ∃ x, σ[i]? = some (some x) ∧ te σ H fun y H1 => ti x y H1 fun z H2 => D.nx (σ.set i (some z)) H2
/-- o[i] op= e -/
def tAugS (to ti te : TE) (tget : V → V → Hp → VK → Prop) (tip : TIp) (tset : TSet) : TS := fun D σ H => to σ H fun o H1 => ti σ H1 fun i H2 => tget o i H2 fun x H3 => te σ H3 fun y H4 => tip x y H4 fun z H5 => tset o i z H5 fun H6 => D.nx σ H6
/-- o[i], by values -/
def PGet (X : Cx) (t : V → V → Hp → VK → Prop) : Prop :=
  ∀ (pins : List (Addr × Obj)) (s : Shared) (σ : St) (H : Hp) (o i : V) (ov iv : Value) (Q : VK), Inv X pins σ H s → RelV o ov → RelV i iv → t o i H Q →
    wpAny (model X.prog X.w) X.A (getItem ov iv) (EP X pins σ Q) X.xe s
/-- ints -/
def ipI (f : Int → Int → Int) : TIp := fun x y H Q => ∃ i j, x = .int i ∧ y = .int j ∧ Q (.int (f i j)) H
end

/-! ### while -/
section
variable {X : Cx} {pos : Pos}
/-- the invariant W with its measure -/
def tWhile (c : TT) (tb : TS) : TS := fun D σ H => ∃ W : Nat → St → Hp → Prop, (∃ m, W m σ H) ∧ ∀ m σ H, W m σ H →
  c σ H fun b H1 => if b = true then ∃ N : St → Hp → Prop, (∀ σ' H', N σ' H' → ∃ m', m' < m ∧ W m' σ' H') ∧ tb { D with nx := N, ct := N, bk := D.nx } σ H1 else D.nx σ H1
theorem ps_while {c : Expr} {body : List Stmt} {tc : TT} {tb : TS} (hp : PassesOwn (model X.prog X.w) X.A X.env X.xe) (hc : PT X c tc) (hb : PSs X body tb) : PS X (.While c body [] pos) (tWhile tc tb) := by
  intro pins s σ H D I h
  obtain ⟨W, ⟨m0, w0⟩, turn⟩ := h
  refine wpAny_While (codeAny_whileLoop (fun n s' => ∃ σ' H', Inv X pins σ' H' s' ∧ W n σ' H') ?_ m0 ⟨σ, H, I, w0⟩)
  rintro n s1 ⟨σ1, H1, I1, w1⟩
  refine wpAny_passesOwn hp (thn (hc pins s1 σ1 H1 _ I1 (turn n σ1 H1 w1)) fun b s2 ⟨H2, I2, q2⟩ => ?_)
  cases b with
  | true =>
    obtain ⟨N, hN, q2⟩ := q2
    rw [if_pos rfl]
    refine wpAny_passesOwn hp (thn (hb pins s2 σ1 H2 _ I2 q2) fun f s3 q3 => ?_)
    cases f with
    | next =>
      obtain ⟨σ3, H3, I3, n3⟩ := q3
      obtain ⟨m', hm, w3⟩ := hN σ3 H3 n3
      exact ⟨m', hm, σ3, H3, I3, w3⟩
    | cont =>
      obtain ⟨σ3, H3, I3, n3⟩ := q3
      obtain ⟨m', hm, w3⟩ := hN σ3 H3 n3
      exact ⟨m', hm, σ3, H3, I3, w3⟩
    | brk => exact q3
    | ret v => exact q3
  | false =>
    rw [if_neg Bool.false_ne_true]
    exact wpAny_execs_nil ⟨σ1, H2, I2, q2⟩
end

/-! ### what a loop or a comprehension walks -/
/-- at turn i: it yields x (the heap may grow), or it stops -/
structure It where
  go : Nat → Hp → Prop
  yld : Nat → Hp → V → Hp → Prop
  stop : Nat → Hp → Prop
/-- the iterator's own objects may turn: they are not the frame's, not pinned, younger than the entry (or a comprehension's own) -/
def FpOk (X : Cx) (pins : List (Addr × Obj)) (H : Hp) (b : Addr) : Prop :=
  H b = none ∧ b ≠ X.env.locals ∧ b ∉ X.fs ∧ (b ∈ X.ex ∨ X.s₀.heap.objs.size ≤ b) ∧ (∀ x c, X.env.cells.lookup x = some c → c ≠ b) ∧ ∀ p ∈ X.pn ++ pins, p.1 ≠ b
theorem Inv.fpOk {X : Cx} {pins : List (Addr × Obj)} {σ : St} {H H' : Hp} {s : Shared} {b : Addr} (I : Inv X pins σ H s) (hb : s.heap.objs.size ≤ b) (hn : H' b = none) : FpOk X pins H' b := by
  refine ⟨hn, Nat.ne_of_gt (Nat.lt_of_lt_of_le I.lt hb), I.nofs hb, .inr (Nat.le_trans I.sz hb), fun x c e z => ?_, fun p hp z => ?_⟩
  · obtain ⟨v, q⟩ := I.cell x c e
    exact absurd (Nat.lt_of_lt_of_le q.lt (by rw [z]; exact hb)) (Nat.lt_irrefl _)
  · exact absurd (Nat.lt_of_lt_of_le (Heap.lt_size (I.pin p hp).1) (by rw [z]; exact hb)) (Nat.lt_irrefl _)
structure Turn (P : Program) (w : World) (K : PySem.W.Frag) (tg : Expr) (J : It) (fp : List Addr) (it : Addr) (tn : Nat → Heap → Prop) : Prop where
  mem : it ∈ fp
  obj : ∀ i h, tn i h → ∀ b ∈ fp, ∃ o, h.get? b = some o ∧ ∀ v, o.data ≠ .cell v
  keep : ∀ i h h', tn i h → (∀ b ∈ fp, ∀ o, h.get? b = some o → h'.get? b = some o) → tn i h'
  item : ∀ (X : Cx), X.prog = P → X.w = w → X.K = K → X.calm = true → ∀ (i : Nat) (pins : List (Addr × Obj)) (s : Shared) (σ : St) (H : Hp) (E : Value → Shared → Prop), Inv X pins σ H s → (∀ b ∈ fp, FpOk X pins H b) → tn i s.heap → J.go i H →
    wpAny (model P w) X.A (pyNext (.ref it)) (fun r s1 => ∃ u, r = some u ∧
      wpAny (model P w) X.A (letOwnedTupleGo tg (.ref it) u) (fun _ s2 => ∃ x H', Inv X pins σ H' s2 ∧ RelV x u ∧ J.yld i H x H' ∧ tn (i + 1) s2.heap ∧ ∀ b ∈ fp, H' b = none) E s1) E s
  done : ∀ (X : Cx), X.prog = P → X.w = w → X.K = K → X.calm = true → ∀ (i : Nat) (pins : List (Addr × Obj)) (s : Shared) (σ : St) (H : Hp) (E : Value → Shared → Prop), Inv X pins σ H s → (∀ b ∈ fp, FpOk X pins H b) → tn i s.heap → J.stop i H →
    wpAny (model P w) X.A (pyNext (.ref it)) (fun r s1 => r = none ∧ Inv X pins σ H s1) E s
  self : ∀ (A : Around) (i : Nat) (s : Shared) (Q : Value → Shared → Prop) (E : Value → Shared → Prop), tn i s.heap → Q (.ref it) s → wpAny (model P w) A (pyIter (.ref it)) Q E s
abbrev TI := St → Hp → (It → Hp → Prop) → Prop
/-- an iterator has come -/
def PIE (X : Cx) (pins : List (Addr × Obj)) (σ : St) (tg : Expr) (R : It → Hp → Prop) (itv : Value) (s2 : Shared) : Prop :=
  ∃ (it : Addr) (fp : List Addr) (tn : Nat → Heap → Prop) (J : It) (H' : Hp), itv = .ref it ∧ Inv X pins σ H' s2 ∧ Turn X.prog X.w X.K tg J fp it tn ∧ tn 0 s2.heap ∧ (∀ b ∈ fp, FpOk X pins H' b) ∧ R J H'
def PI (X : Cx) (tg iter : Expr) (wi : TI) : Prop :=
  ∀ (pins : List (Addr × Obj)) (s : Shared) (σ : St) (H : Hp) (R : It → Hp → Prop), Inv X pins σ H s → wi σ H R →
    wpAny (model X.prog X.w) X.A (eval iter X.env) (fun v s1 => wpAny (model X.prog X.w) X.A (pyIter v) (PIE X pins σ tg R) X.xe s1) X.xe s

/-- the step ahead of the store is nothing for an iterator that keeps no tuple -/
theorem go_of {M : Model} {A : Around} {E : Value → Shared → Prop} {s : Shared} {tg : Expr} {it : Addr} {u : Value} {o : Obj} {n : String} {vs : Array Value} {Q : Unit → Shared → Prop} (ho : s.heap.get? it = some o) (hc : o.cls = .type n) (hd : o.data = .fields vs)
    (hn : ["enumerate", "zip", "dict_itemiterator", "dict_reverseitemiterator", "odict_iterator", "itertools.zip_longest", "itertools.pairwise"].contains n = false) (hQ : Q () s) : wpAny M A (letOwnedTupleGo tg (.ref it) u) Q E s := by
  unfold letOwnedTupleGo
  cases tg <;> first
    | exact wpAny_pure hQ
    | (cases u <;> first
        | exact wpAny_pure hQ
        | (refine wpAny_bind (wpAny_load ho ?_)
           rw [hc, hd]
           show wpAny M A (if (["enumerate", "zip", "dict_itemiterator", "dict_reverseitemiterator", "odict_iterator", "itertools.zip_longest", "itertools.pairwise"].contains n && vs[0]? == some (rawInt _)) = true then _ else _) Q E s
           rw [if_neg (by intro h; rw [hn, Bool.false_and] at h; cases h)]
           exact wpAny_pure hQ))

/-- the list at a, as it stands at each turn (a loop may append to it) -/
def Itl (K : PySem.W.Frag) (a : Addr) : It :=
  ⟨fun i H => ∃ xs x, SqL K H a xs ∧ xs[i]? = some x, fun i H x H' => H' = H ∧ ∀ xs, SqL K H a xs → xs[i]? = some x, fun i H => ∃ xs, SqL K H a xs ∧ xs.length ≤ i⟩
def Itt (K : PySem.W.Frag) (a : Addr) : It :=
  ⟨fun i H => ∃ xs x, SqT K H a xs ∧ xs[i]? = some x, fun i H x H' => H' = H ∧ ∀ xs, SqT K H a xs → xs[i]? = some x, fun i H => ∃ xs, SqT K H a xs ∧ xs.length ≤ i⟩
/-- lo, lo + 1, .. (n of them) -/
def Itr (lo : Int) (n : Nat) : It := ⟨fun i _ => i < n, fun i H x H' => H' = H ∧ x = .int (lo + i), fun i _ => n ≤ i⟩
theorem turn_list {P : Program} {w : World} {K : PySem.W.Frag} {tg : Expr} (a it : Addr) : Turn P w K tg (Itl K a) [it] it (fun i h => h.IsListIter it a i) where
  mem := by simp
  obj := fun i h st b hb => by
    have e : b = it := by simpa using hb
    subst e
    obtain ⟨o, e, c, d⟩ := st
    exact ⟨o, e, fun v z => by rw [d] at z; cases z⟩
  keep := fun i h h' st k => st.at fun o e => k it (by simp) o e
  item := by
    intro X hP hw hK hc i pins s σ H E I hf st hg
    subst hP hw hK
    obtain ⟨xs, x, hq, hx⟩ := hg
    obtain ⟨its, rv, p, hz⟩ := I.list hq
    obtain ⟨u, hu, ru⟩ := rv.get hx
    obtain ⟨f0, f1, f2, f3, f4, f5⟩ := hf it (by simp)
    refine wpAny_pyNext_list_item st p.isList (x := u) (by simpa using hu) fun h' st' sb => ?_
    have I1 : Inv X pins σ H { s with heap := h' } := I.turned (t' := s.toks) (fun b o hb e => (sb.2 b hb).trans e) f0 f1 f3 f4 f5
    obtain ⟨o, e, c, d⟩ := id st'
    exact ⟨u, rfl, go_of (s := { s with heap := h' }) e c d (by decide) ⟨x, H, I1, ru, ⟨rfl, fun ys hy => by rw [I.list_inj hy hq]; exact hx⟩, st', fun b hb => (hf b hb).1⟩⟩
  done := by
    intro X hP hw hK hc i pins s σ H E I hf st hg
    subst hP hw hK
    obtain ⟨xs, hq, hx⟩ := hg
    obtain ⟨its, rv, p, hz⟩ := I.list hq
    obtain ⟨f0, f1, f2, f3, f4, f5⟩ := hf it (by simp)
    have hl := rv.length
    exact wpAny_pyNext_list_end (I.ok.hd hc) st p.isList (by simp; omega) fun h' eb => ⟨rfl, I.turned (t' := s.toks) (fun b o hb e => eb b o hb e) f0 f1 f3 f4 f5⟩
  self := fun _ _ _ _ _ st h => wpAny_pyIter_listiter st h
theorem turn_tuple {P : Program} {w : World} {K : PySem.W.Frag} {tg : Expr} (a it : Addr) : Turn P w K tg (Itt K a) [it] it (fun i h => h.IsTupleIter it a i) where
  mem := by simp
  obj := fun i h st b hb => by
    have e : b = it := by simpa using hb
    subst e
    obtain ⟨o, e, c, d⟩ := st
    exact ⟨o, e, fun v z => by rw [d] at z; cases z⟩
  keep := fun i h h' st k => st.at fun o e => k it (by simp) o e
  item := by
    intro X hP hw hK hc i pins s σ H E I hf st hg
    subst hP hw hK
    obtain ⟨xs, x, hq, hx⟩ := hg
    obtain ⟨its, rv, p, hz⟩ := I.tuple hq
    obtain ⟨u, hu, ru⟩ := rv.get hx
    obtain ⟨f0, f1, f2, f3, f4, f5⟩ := hf it (by simp)
    refine wpAny_pyNext_tuple_item st (show s.heap.IsTuple a its.toArray from p) (x := u) (by simpa using hu) fun h' st' sb => ?_
    have I1 : Inv X pins σ H { s with heap := h' } := I.turned (t' := s.toks) (fun b o hb e => (sb.2 b hb).trans e) f0 f1 f3 f4 f5
    obtain ⟨o, e, c, d⟩ := id st'
    exact ⟨u, rfl, go_of (s := { s with heap := h' }) e c d (by decide) ⟨x, H, I1, ru, ⟨rfl, fun ys hy => by rw [I.tuple_inj hy hq]; exact hx⟩, st', fun b hb => (hf b hb).1⟩⟩
  done := by
    intro X hP hw hK hc i pins s σ H E I hf st hg
    subst hP hw hK
    obtain ⟨xs, hq, hx⟩ := hg
    obtain ⟨its, rv, p, hz⟩ := I.tuple hq
    obtain ⟨f0, f1, f2, f3, f4, f5⟩ := hf it (by simp)
    have hl := rv.length
    exact wpAny_pyNext_tuple_end (I.ok.hd hc) st (show s.heap.IsTuple a its.toArray from p) (by simp; omega) fun h' eb => ⟨rfl, I.turned (t' := s.toks) (fun b o hb e => eb b o hb e) f0 f1 f3 f4 f5⟩
  self := fun _ _ _ _ _ st h => wpAny_pyIter_tupleiter st h
end L2

namespace L2
open PySem PySem.Spec PyProof.Rows
section
variable {X : Cx} {tg : Expr}
def iList (K : PySem.W.Frag) (tl : TE) : TI := fun σ H R => tl σ H fun x H1 => ∃ a, x = .ref a ∧ (∃ xs, SqL K H1 a xs) ∧ R (Itl K a) H1
def iTup (K : PySem.W.Frag) (tl : TE) : TI := fun σ H R => tl σ H fun x H1 => ∃ a, x = .ref a ∧ (∃ xs, SqT K H1 a xs) ∧ R (Itt K a) H1
theorem pi_list {l : Expr} {tl : TE} (hl : PE X l tl) : PI X tg l (iList X.K tl) := by
  intro pins s σ H R I h
  refine thn (hl pins s σ H _ I h) fun v s1 ⟨x, H1, I1, r1, q1⟩ => ?_
  obtain ⟨a, e, ⟨xs, hq⟩, q⟩ := q1
  subst e
  cases r1
  obtain ⟨its, rv, p, hz⟩ := I1.list hq
  refine wpAny_pyIter_list p.isList ?_
  refine ⟨s1.heap.objs.size, [s1.heap.objs.size], _, _, H1, rfl, I1.kept (t' := s1.toks) fun b o e => Heap.get?_push_of_some _ e, turn_list a _, ⟨_, Heap.get?_push_size _ rfl, rfl, rfl⟩, fun b hb => ?_, q⟩
  have e : b = s1.heap.objs.size := by simpa using hb
  subst e
  exact I1.fpOk (Nat.le_refl _) (I1.hok.fresh (Nat.le_refl _))
theorem pi_tup {l : Expr} {tl : TE} (hl : PE X l tl) : PI X tg l (iTup X.K tl) := by
  intro pins s σ H R I h
  refine thn (hl pins s σ H _ I h) fun v s1 ⟨x, H1, I1, r1, q1⟩ => ?_
  obtain ⟨a, e, ⟨xs, hq⟩, q⟩ := q1
  subst e
  cases r1
  obtain ⟨its, rv, p, hz⟩ := I1.tuple hq
  refine wpAny_pyIter_tuple (show s1.heap.IsTuple a its.toArray from p) ?_
  refine ⟨s1.heap.objs.size, [s1.heap.objs.size], _, _, H1, rfl, I1.kept (t' := s1.toks) fun b o e => Heap.get?_push_of_some _ e, turn_tuple a _, ⟨_, Heap.get?_push_size _ rfl, rfl, rfl⟩, fun b hb => ?_, q⟩
  have e : b = s1.heap.objs.size := by simpa using hb
  subst e
  exact I1.fpOk (Nat.le_refl _) (I1.hok.fresh (Nat.le_refl _))
def iRng1 (ta : TA) : TI := fun σ H R => ta σ H fun vs H1 => ∃ j : Int, vs = [.int j] ∧ -(2 ^ 62) ≤ j ∧ j < 2 ^ 62 ∧ R (Itr 0 j.toNat) H1
def iRng2 (ta : TA) : TI := fun σ H R => ta σ H fun vs H1 => ∃ i j : Int, vs = [.int i, .int j] ∧ (-(2 ^ 62) ≤ i ∧ i < 2 ^ 62 ∧ -(2 ^ 62) ≤ j ∧ j < 2 ^ 62) ∧ R (Itr i (j - i).toNat) H1
/-! ### for -/
/-- W: the invariant by the turn and a measure; N: what the body is to reach -/
def tFor (wi : TI) (g : TG) (tb : TS) : TS := fun D σ H => wi σ H fun J H1 => ∃ W : Nat → Nat → St → Hp → Prop, (∃ m, W 0 m σ H1) ∧ ∀ i m σ H, W i m σ H →
  (J.stop i H ∧ D.nx σ H) ∨ (J.go i H ∧ ∃ N : St → Hp → Prop, (∀ σ' H', N σ' H' → ∃ m', m' < m ∧ W (i + 1) m' σ' H') ∧ ∀ x H', J.yld i H x H' → g x σ H' fun σ2 H2 => tb { D with nx := N, ct := N, bk := D.nx } σ2 H2)
/-- the records at fp as they stand -/
def pinsAt (fp : List Addr) (h : Heap) : List (Addr × Obj) := fp.filterMap fun b => (h.get? b).map fun o => (b, o)
theorem mem_pinsAt {fp : List Addr} {h : Heap} {b : Addr} {o : Obj} (hb : b ∈ fp) (e : h.get? b = some o) : (b, o) ∈ pinsAt fp h := List.mem_filterMap.mpr ⟨b, hb, by rw [e]; rfl⟩
theorem of_pinsAt {fp : List Addr} {h : Heap} {p : Addr × Obj} (hp : p ∈ pinsAt fp h) : p.1 ∈ fp ∧ h.get? p.1 = some p.2 := by
  obtain ⟨b, hb, e⟩ := List.mem_filterMap.mp hp
  cases q : h.get? b with
  | none => rw [q] at e; cases e
  | some o =>
    rw [q] at e
    have e' : (b, o) = p := Option.some.inj e
    subst e'
    exact ⟨hb, q⟩
theorem Inv.pinned {pins : List (Addr × Obj)} {σ : St} {H : Hp} {s : Shared} {fp : List Addr} (I : Inv X pins σ H s) (hf : ∀ b ∈ fp, FpOk X pins H b) (ho : ∀ b ∈ fp, ∃ o, s.heap.get? b = some o ∧ ∀ v, o.data ≠ .cell v) : Inv X (pins ++ pinsAt fp s.heap) σ H s :=
  I.pins_of fun p hp => (List.mem_append.mp hp).elim (fun z => I.pin p (List.mem_append_right _ z)) fun z => by
    obtain ⟨hb, e⟩ := of_pinsAt z
    obtain ⟨f0, f1, f2, _⟩ := hf p.1 hb
    obtain ⟨o, e', d⟩ := ho p.1 hb
    rw [e] at e'; cases e'
    exact ⟨e, f0, f1, f2, d⟩
theorem Inv.unpinned {pins pl : List (Addr × Obj)} {σ : St} {H : Hp} {s : Shared} (I : Inv X (pins ++ pl) σ H s) : Inv X pins σ H s := I.pins_of fun p hp => I.pin p (List.mem_append_right _ (List.mem_append_left _ hp))
theorem ps_for {iter : Expr} {body : List Stmt} {wi : TI} {g : TG} {tb : TS} {pos : Pos} (hp : PassesOwn (model X.prog X.w) X.A X.env X.xe) (hc : X.calm = true) (hi : PI X tg iter wi) (hg : PG X tg g) (hb : PSs X body tb)
    (hs : ∀ x, foldedSetIterable iter X.env x = pure x := by intro _; rfl) : PS X (.For tg iter body [] pos) (tFor wi g tb) := by
  intro pins s σ H D I h
  refine wpAny_For (thn (hi pins s σ H _ I h) fun v s1 h1 => thn h1 fun itv s2 h2 => ?_) hs
  obtain ⟨it, fp, tn, J, H2, e, I2, T, st2, f2, W, ⟨m0, w0⟩, turn⟩ := h2
  subst e
  -- what stays true of the iterator's objects through the loop
  have stat : ∀ {H' : Hp}, (∀ b ∈ fp, H' b = none) → ∀ b ∈ fp, FpOk X pins H' b := fun hn b hb => ⟨hn b hb, (f2 b hb).2⟩
  refine codeAny_forLoop_any (fun n s' => ∃ i σ' H', Inv X pins σ' H' s' ∧ tn i s'.heap ∧ (∀ b ∈ fp, H' b = none) ∧ W i n σ' H') ?_ m0 ⟨0, σ, H2, I2, st2, fun b hb => (f2 b hb).1, w0⟩
  rintro n s3 ⟨i, σ3, H3, I3, st3, fr3, w3⟩
  rcases turn i n σ3 H3 w3 with ⟨stop, qn⟩ | ⟨go, N, hN, step⟩
  · refine wpAny_passesOwn hp (thn (T.done X rfl rfl rfl hc i pins s3 σ3 H3 X.xe I3 (stat fr3) st3 stop) fun r s4 ⟨hr, I4⟩ => ?_)
    subst hr
    exact wpAny_execs_nil ⟨σ3, H3, I4, qn⟩
  · refine wpAny_passesOwn hp (thn (T.item X rfl rfl rfl hc i pins s3 σ3 H3 X.xe I3 (stat fr3) st3 go) fun r s4 ⟨u, hr, h4⟩ => ?_)
    subst hr
    refine wpAny_passesOwn hp (thn h4 fun _ s5 ⟨x, H5, I5, r5, y5, st5, fr5⟩ => ?_)
    have I5' := I5.pinned (stat fr5) (T.obj _ _ st5)
    refine wpAny_passesOwn hp (thn (hg _ s5 σ3 H5 x u _ I5' r5 (step x H5 y5)) fun _ s6 ⟨σ6, H6, I6, q6⟩ => ?_)
    refine wpAny_passesOwn hp (thn (hb _ s6 σ6 H6 _ I6 q6) fun f s7 q7 => ?_)
    have again : ∀ {σ7 : St} {H7 : Hp}, Inv X (pins ++ pinsAt fp s5.heap) σ7 H7 s7 → N σ7 H7 → ∃ m, m < n ∧ ∃ i σ' H', Inv X pins σ' H' s7 ∧ tn i s7.heap ∧ (∀ b ∈ fp, H' b = none) ∧ W i m σ' H' := fun {σ7 H7} I7 n7 => by
      obtain ⟨m', hm, w7⟩ := hN σ7 H7 n7
      refine ⟨m', hm, i + 1, σ7, H7, I7.unpinned, T.keep _ _ _ st5 fun b hb o e => (I7.pin (b, o) (List.mem_append_right _ (List.mem_append_right _ (mem_pinsAt hb e)))).1, fun b hb => ?_, w7⟩
      obtain ⟨o, e, d⟩ := T.obj _ _ st5 b hb
      exact (I7.pin (b, o) (List.mem_append_right _ (List.mem_append_right _ (mem_pinsAt hb e)))).2.1
    cases f with
    | next => obtain ⟨σ7, H7, I7, n7⟩ := q7; exact again I7 n7
    | cont => obtain ⟨σ7, H7, I7, n7⟩ := q7; exact again I7 n7
    | brk => obtain ⟨σ7, H7, I7, q7⟩ := q7; exact ⟨σ7, H7, I7.unpinned, q7⟩
    | ret v => obtain ⟨x7, σ7, H7, I7, r7, q7⟩ := q7; exact ⟨x7, σ7, H7, I7.unpinned, r7, q7⟩
end

/-! ### the forms one uses -/
/-- over a list that the body leaves as it is -/
theorem for_list {K : PySem.W.Frag} {a : Addr} {xs : List V} {g : TG} {tb : TS} {D : Ends} {σ : St} {H : Hp} (Pv : Nat → St → Hp → Prop) (h0 : Pv 0 σ H) (hl : ∀ i σ H, i ≤ xs.length → Pv i σ H → SqL K H a xs)
    (hs : ∀ i x σ H, xs[i]? = some x → Pv i σ H → g x σ H fun σ2 H2 => tb { D with nx := Pv (i + 1), ct := Pv (i + 1), bk := D.nx } σ2 H2) (hd : ∀ σ H, Pv xs.length σ H → D.nx σ H) :
    ∃ W : Nat → Nat → St → Hp → Prop, (∃ m, W 0 m σ H) ∧ ∀ i m σ H, W i m σ H →
      ((Itl K a).stop i H ∧ D.nx σ H) ∨ ((Itl K a).go i H ∧ ∃ N : St → Hp → Prop, (∀ σ' H', N σ' H' → ∃ m', m' < m ∧ W (i + 1) m' σ' H') ∧ ∀ x H', (Itl K a).yld i H x H' → g x σ H' fun σ2 H2 => tb { D with nx := N, ct := N, bk := D.nx } σ2 H2) := by
  refine ⟨fun i m σ H => m = xs.length - i ∧ i ≤ xs.length ∧ Pv i σ H, ⟨xs.length, by simp, Nat.zero_le _, h0⟩, ?_⟩
  rintro i m σ H ⟨rfl, hi, p⟩
  have q := hl i σ H hi p
  by_cases hlt : i < xs.length
  · refine .inr ⟨⟨xs, xs[i], q, by simp [hlt]⟩, Pv (i + 1), fun σ' H' p' => ⟨xs.length - (i + 1), by omega, rfl, hlt, p'⟩, fun x H' y => ?_⟩
    obtain ⟨e, y⟩ := y
    subst e
    exact hs i x σ _ (y xs q) p
  · have e : i = xs.length := by omega
    subst e
    exact .inl ⟨⟨xs, q, Nat.le_refl _⟩, hd σ H p⟩
theorem for_tup {K : PySem.W.Frag} {a : Addr} {xs : List V} {g : TG} {tb : TS} {D : Ends} {σ : St} {H : Hp} (Pv : Nat → St → Hp → Prop) (h0 : Pv 0 σ H) (hl : ∀ i σ H, i ≤ xs.length → Pv i σ H → SqT K H a xs)
    (hs : ∀ i x σ H, xs[i]? = some x → Pv i σ H → g x σ H fun σ2 H2 => tb { D with nx := Pv (i + 1), ct := Pv (i + 1), bk := D.nx } σ2 H2) (hd : ∀ σ H, Pv xs.length σ H → D.nx σ H) :
    ∃ W : Nat → Nat → St → Hp → Prop, (∃ m, W 0 m σ H) ∧ ∀ i m σ H, W i m σ H →
      ((Itt K a).stop i H ∧ D.nx σ H) ∨ ((Itt K a).go i H ∧ ∃ N : St → Hp → Prop, (∀ σ' H', N σ' H' → ∃ m', m' < m ∧ W (i + 1) m' σ' H') ∧ ∀ x H', (Itt K a).yld i H x H' → g x σ H' fun σ2 H2 => tb { D with nx := N, ct := N, bk := D.nx } σ2 H2) := by
  refine ⟨fun i m σ H => m = xs.length - i ∧ i ≤ xs.length ∧ Pv i σ H, ⟨xs.length, by simp, Nat.zero_le _, h0⟩, ?_⟩
  rintro i m σ H ⟨rfl, hi, p⟩
  have q := hl i σ H hi p
  by_cases hlt : i < xs.length
  · refine .inr ⟨⟨xs, xs[i], q, by simp [hlt]⟩, Pv (i + 1), fun σ' H' p' => ⟨xs.length - (i + 1), by omega, rfl, hlt, p'⟩, fun x H' y => ?_⟩
    obtain ⟨e, y⟩ := y
    subst e
    exact hs i x σ _ (y xs q) p
  · have e : i = xs.length := by omega
    subst e
    exact .inl ⟨⟨xs, q, Nat.le_refl _⟩, hd σ H p⟩
end L2

namespace L2
open PySem PySem.Spec PyProof.Rows

abbrev R2 := V → V → Hp → VK → Prop
/-- a two-place operation on values: f is binaryOp op, inplaceOp op or compareOp op -/
def OpR (X : Cx) (f : Value → Value → Sem Value) (r : R2) : Prop :=
  ∀ (pins : List (Addr × Obj)) (s : Shared) (σ : St) (H : Hp) (x y : V) (v u : Value) (Q : VK), Inv X pins σ H s → RelV x v → RelV y u → r x y H Q →
    wpAny (model X.prog X.w) X.A (f v u) (EP X pins σ Q) X.xe s
/-- a one-place operation -/
def UnR (X : Cx) (f : Value → Sem Value) (r : V → Hp → VK → Prop) : Prop :=
  ∀ (pins : List (Addr × Obj)) (s : Shared) (σ : St) (H : Hp) (x : V) (v : Value) (Q : VK), Inv X pins σ H s → RelV x v → r x H Q →
    wpAny (model X.prog X.w) X.A (f v) (EP X pins σ Q) X.xe s
/-- a call of a value that is known (a builtin, a type) with values -/
def CallR (X : Cx) (f : Value) (r : List V → Hp → VK → Prop) : Prop :=
  ∀ (pins : List (Addr × Obj)) (s : Shared) (σ : St) (H : Hp) (xs : List V) (us : List Value) (Q : VK), Inv X pins σ H s → Vals xs us → r xs H Q →
    wpAny (model X.prog X.w) X.A (call f us) (EP X pins σ Q) X.xe s
/-- a value's truth -/
def TruR (X : Cx) (r : V → Hp → (Bool → Hp → Prop) → Prop) : Prop :=
  ∀ (pins : List (Addr × Obj)) (s : Shared) (σ : St) (H : Hp) (x : V) (v : Value) (Q : Bool → Hp → Prop), Inv X pins σ H s → RelV x v → r x H Q →
    wpAny (model X.prog X.w) X.A (truthy v) (TP X pins σ Q) X.xe s

def tOp (r : R2) (ta tb : TE) : TE := fun σ H Q => ta σ H fun x H1 => tb σ H1 fun y H2 => r x y H2 Q
def tUn (r : V → Hp → VK → Prop) (ta : TE) : TE := fun σ H Q => ta σ H fun x H1 => r x H1 Q
/-- ints in, under C, and a value out -/
def rI (C : Int → Int → Prop) (g : Int → Int → V) : R2 := fun x y H Q => ∃ i j, x = .int i ∧ y = .int j ∧ C i j ∧ Q (g i j) H
def rI0 (g : Int → Int → V) : R2 := fun x y H Q => ∃ i j, x = .int i ∧ y = .int j ∧ Q (g i j) H
def rU (g : Int → V) : V → Hp → VK → Prop := fun x H Q => ∃ i, x = .int i ∧ Q (g i) H

section
variable {X : Cx} {a b c : Expr} {ta tb tc : TE} {pos : Pos}

theorem binT (ha : PE X a ta) (hb : PE X b tb) {pins : List (Addr × Obj)} {s : Shared} {σ : St} {H : Hp} {R : V → V → Hp → Prop} (I : Inv X pins σ H s)
    (h : ta σ H fun x H1 => tb σ H1 fun y H2 => R x y H2) {Q : Value → Shared → Prop} {f : Value → Value → Sem Value}
    (hf : ∀ v u s2 x y H2, Inv X pins σ H2 s2 → RelV x v → RelV y u → R x y H2 → wpAny (model X.prog X.w) X.A (f v u) Q X.xe s2) :
    wpAny (model X.prog X.w) X.A (eval a X.env) (fun v s₁ => wpAny (model X.prog X.w) X.A (eval b X.env) (fun u s₂ => wpAny (model X.prog X.w) X.A (f v u) Q X.xe s₂) X.xe s₁) X.xe s := by
  refine thn (ha pins s σ H _ I h) fun v s1 ⟨x, H1, I1, r1, q1⟩ => ?_
  refine thn (hb pins s1 σ H1 _ I1 q1) fun u s2 ⟨y, H2, I2, r2, q2⟩ => ?_
  exact hf v u s2 x y H2 I2 r1 r2 q2

theorem pe_op {op : Operator} {r : R2} (ho : OpR X (binaryOp op) r) (ha : PE X a ta) (hb : PE X b tb) : PE X (.BinOp a op b pos) (tOp r ta tb) := by
  intro pins s σ H Q I h
  exact wpAny_BinOp (binT ha hb I h fun v u s2 x y H2 I2 rx ry q => ho pins s2 σ H2 x y v u Q I2 rx ry q)
/-! ### ints -/
theorem opI {f : Value → Value → Sem Value} {C : Int → Int → Prop} {g : Int → Int → Int}
    (rule : ∀ (i j : Int) (t u : Tok) (s : Shared) (Q : Value → Shared → Prop) (E : Value → Shared → Prop), C i j → Q (.int (g i j) s.toks) { s with toks := s.toks + 1 } → wpAny (model X.prog X.w) X.A (f (.int i t) (.int j u)) Q E s) :
    OpR X f (rI C fun i j => .int (g i j)) := by
  intro pins s σ H x y v u Q I rx ry h
  obtain ⟨i, j, rfl, rfl, hc, q⟩ := h
  obtain ⟨t, rfl⟩ := rx
  obtain ⟨t', rfl⟩ := ry
  exact rule i j t t' s _ _ hc ⟨.int (g i j), H, I.tok _, ⟨_, rfl⟩, q⟩
theorem opI0 {f : Value → Value → Sem Value} {g : Int → Int → Int}
    (rule : ∀ (i j : Int) (t u : Tok) (s : Shared) (Q : Value → Shared → Prop) (E : Value → Shared → Prop), Q (.int (g i j) s.toks) { s with toks := s.toks + 1 } → wpAny (model X.prog X.w) X.A (f (.int i t) (.int j u)) Q E s) :
    OpR X f (rI0 fun i j => .int (g i j)) := by
  intro pins s σ H x y v u Q I rx ry h
  obtain ⟨i, j, rfl, rfl, q⟩ := h
  obtain ⟨t, rfl⟩ := rx
  obtain ⟨t', rfl⟩ := ry
  exact rule i j t t' s _ _ ⟨.int (g i j), H, I.tok _, ⟨_, rfl⟩, q⟩
theorem opB0 {f : Value → Value → Sem Value} {g : Int → Int → Bool}
    (rule : ∀ (i j : Int) (t u : Tok) (s : Shared) (Q : Value → Shared → Prop) (E : Value → Shared → Prop), Q (.bool (g i j)) s → wpAny (model X.prog X.w) X.A (f (.int i t) (.int j u)) Q E s) :
    OpR X f (rI0 fun i j => .bl (g i j)) := by
  intro pins s σ H x y v u Q I rx ry h
  obtain ⟨i, j, rfl, rfl, q⟩ := h
  obtain ⟨t, rfl⟩ := rx
  obtain ⟨t', rfl⟩ := ry
  exact rule i j t t' s _ _ ⟨.bl (g i j), H, I, rfl, q⟩

def CDiv (i j : Int) : Prop := 0 < j ∧ j < 1073741824
def CDivN (i j : Int) : Prop := j ≠ 0 ∧ j.natAbs < 1073741824
def CPow (i j : Int) : Prop := 0 ≤ j ∧ j ≤ 1000000 ∧ i.natAbs < 2 ^ 64
def CMul (i j : Int) : Prop := (-(2 ^ 64) < i ∧ i < 2 ^ 64) ∨ (-(2 ^ 64) < j ∧ j < 2 ^ 64)
theorem op_add : OpR X (binaryOp .Add) (rI0 fun i j => .int (i + j)) := opI0 fun _ _ _ _ _ _ _ q => add_int q
/-- // by a positive divisor -/
theorem op_fdiv : OpR X (binaryOp .FloorDiv) (rI CDiv fun i j => .int (i / j)) := opI fun i j _ _ _ _ _ hc q => by
  have h1 : (0 : Int) < j := hc.1
  have h2 : j < 1073741824 := hc.2
  exact floordiv_int (by omega) (by rw [Int.fdiv_eq_ediv_of_nonneg i (by omega)]; exact q) (.inl (PyProof.noPylong_small (by omega)))
/-- % by a positive divisor of any size -/
theorem op_mod : OpR X (binaryOp .Mod) (rI (fun _ j => 0 < j) fun i j => .int (i % j)) := opI fun i j _ _ _ _ _ hc q => by
  have h1 : (0 : Int) < j := hc
  exact mod_int' (by omega) (by rw [Int.fmod_eq_emod_of_nonneg i (by omega)]; exact q)
theorem op_pow : OpR X (binaryOp .Pow) (rI CPow fun i j => .int (i ^ j.toNat)) := opI fun _ _ _ _ _ _ _ hc q => pow_int_small hc.1 hc.2.1 hc.2.2 q
/-! ### bools among ints: n += (a < b) -/
end

/-! ### comparisons -/
/-- the scalars that == tells apart as data does -/
def scal : V → V → Bool
  | .non, .non => true | .non, .int _ => true | .int _, .non => true | .non, .bl _ => true | .bl _, .non => true | .non, .str _ => true | .str _, .non => true
  | .int _, .int _ => true | .bl _, .bl _ => true | .str _, .str _ => true | .byt _, .byt _ => true
  | .int _, .str _ => true | .str _, .int _ => true | .bl _, .str _ => true | .str _, .bl _ => true
  | _, _ => false
def rEq : R2 := fun x y H Q => scal x y = true ∧ Q (.bl (decide (x = y))) H
def rNe : R2 := fun x y H Q => scal x y = true ∧ Q (.bl (!decide (x = y))) H

theorem dec_int {i j : Int} : decide (V.int i = V.int j) = (i == j) := by
  rw [Bool.eq_iff_iff]
  simp
theorem dec_bl {i j : Bool} : decide (V.bl i = V.bl j) = (i == j) := by
  rw [Bool.eq_iff_iff]
  simp
theorem dec_str {i j : Str} : decide (V.str i = V.str j) = (i == j) := by
  rw [Bool.eq_iff_iff]
  simp
theorem dec_byt {i j : Array UInt8} : decide (V.byt i = V.byt j) = (i.toList == j.toList) := by
  rw [Bool.eq_iff_iff]
  cases i
  cases j
  simp

section
variable {X : Cx} {a b c : Expr} {ta tb tc : TE} {pos : Pos}
theorem fin_bl {pins : List (Addr × Obj)} {σ : St} {H : Hp} {s : Shared} {Q : VK} {k k' : Bool} (I : Inv X pins σ H s) (q : Q (.bl k) H) (e : k = k') : EP X pins σ Q (.bool k') s := by
  subst e
  exact ⟨.bl k, H, I, rfl, q⟩
theorem op_eq : OpR X (compareOp .Eq) rEq := by
  intro pins s σ H x y v u Q I rx ry h
  obtain ⟨hs, q⟩ := h
  cases x with
  | non =>
    cases rx
    cases y with
    | non => cases ry; exact PySem.EqNone.eq_none_none (fin_bl I q (by simp))
    | bl j => cases ry; exact PySem.EqNone.eq_none_bool (fin_bl I q (by simp))
    | int j => obtain ⟨t', rfl⟩ := ry; exact PySem.EqNone.eq_none_int (fin_bl I q (by simp))
    | str j => obtain ⟨t', rfl⟩ := ry; exact PySem.EqNone.eq_none_str (fin_bl I q (by simp))
    | _ => exact absurd (show false = true from hs) Bool.false_ne_true
  | bl i =>
    cases rx
    cases y with
    | non => cases ry; exact PySem.EqNone.eq_bool_none (fin_bl I q (by simp))
    | bl j => cases ry; exact eq_bool (fin_bl I q dec_bl)
    | str j => obtain ⟨t', rfl⟩ := ry; exact PySem.EqMixed.eq_bool_str (fin_bl I q (by simp))
    | _ => exact absurd (show false = true from hs) Bool.false_ne_true
  | int i =>
    obtain ⟨t, rfl⟩ := rx
    cases y with
    | non => cases ry; exact PySem.EqNone.eq_int_none (fin_bl I q (by simp))
    | int j => obtain ⟨t', rfl⟩ := ry; exact eq_int (fin_bl I q dec_int)
    | str j => obtain ⟨t', rfl⟩ := ry; exact PySem.EqMixed.eq_int_str (fin_bl I q (by simp))
    | _ => exact absurd (show false = true from hs) Bool.false_ne_true
  | str i =>
    obtain ⟨t, rfl⟩ := rx
    cases y with
    | non => cases ry; exact PySem.EqNone.eq_str_none (fin_bl I q (by simp))
    | bl j => cases ry; exact PySem.EqMixed.eq_str_bool (fin_bl I q (by simp))
    | int j => obtain ⟨t', rfl⟩ := ry; exact PySem.EqMixed.eq_str_int (fin_bl I q (by simp))
    | str j => obtain ⟨t', rfl⟩ := ry; exact eq_str (fin_bl I q dec_str)
    | _ => exact absurd (show false = true from hs) Bool.false_ne_true
  | byt i =>
    obtain ⟨t, rfl⟩ := rx
    cases y with
    | byt j => obtain ⟨t', rfl⟩ := ry; exact PySem.W.eq_bytes (fin_bl I q dec_byt)
    | _ => exact absurd (show false = true from hs) Bool.false_ne_true
  | _ => cases y <;> exact absurd (show false = true from hs) Bool.false_ne_true
theorem op_lt : OpR X (compareOp .Lt) (rI0 fun i j => .bl (decide (i < j))) := opB0 fun _ _ _ _ _ _ _ q => lt_int q
/-- is, is not of two objects that are tracked lists or instances -/
def isObj : HO → Bool
  | .lst _ => true
  | .ins _ _ _ => true
  | _ => false
theorem nomark (b : Expr) {op : CmpOp} (h : op ≠ .In := by decide) (h2 : op ≠ .NotIn := by decide) : behindInMarks op b = false := by
  have e1 : (op == CmpOp.In) = false := by cases op <;> first | rfl | exact absurd rfl h
  have e2 : (op == CmpOp.NotIn) = false := by cases op <;> first | rfl | exact absurd rfl h2
  cases b <;> simp [behindInMarks, e1, e2]
/-- a comparison as a value; hm: nomark b, or (for in, not in) by with_unfolding_all rfl -/
theorem pe_cmpR {op : CmpOp} {r : R2} (ho : OpR X (compareOp op) r) (ha : PE X a ta) (hb : PE X b tb) (hm : behindInMarks op b = false) : PE X (.Compare a [op] [b] pos) (tOp r ta tb) := by
  intro pins s σ H Q I h
  exact wpAny_Compare1 (binT ha hb I h fun v u s2 x y H2 I2 rx ry q => ho pins s2 σ H2 x y v u Q I2 rx ry q) hm
/-- a reading of a value as a test -/
def tTest (t : TE) : TT := fun σ H Q => t σ H fun x H' => ∃ k, x = .bl k ∧ Q k H'
theorem pt_cmpR {op : CmpOp} {r : R2} (ho : OpR X (compareOp op) r) (ha : PE X a ta) (hb : PE X b tb) (hm : behindInMarks op b = false) : PT X (.Compare a [op] [b] pos) (tTest (tOp r ta tb)) := by
  intro pins s σ H Q I h
  refine wpAny_isTrue_Compare1 (thn (ha pins s σ H _ I h) fun v s1 ⟨x, H1, I1, r1, q1⟩ => thn (hb pins s1 σ H1 _ I1 q1) fun u s2 ⟨y, H2, I2, r2, q2⟩ =>
    thn (ho pins s2 σ H2 x y v u _ I2 r1 r2 q2) fun c s3 ⟨z, H3, I3, r3, k, e, q3⟩ => ?_) hm
  subst e
  cases r3
  exact wpAny_truthy_bool ⟨H3, I3, q3⟩
/-- a op1 b op2 c -/
def tChain (r r' : R2) (ta tb tc : TE) : TE := fun σ H Q => ta σ H fun x H1 => tb σ H1 fun y H2 => r x y H2 fun z H3 => ∃ k, z = .bl k ∧
  (if k = true then tc σ H3 fun w' H4 => r' y w' H4 Q else Q (.bl false) H3)
/-! ### truth -/
/-- a value's truth by the abstract heap -/
def TruV (K : PySem.W.Frag) (x : V) (H : Hp) (k : Bool) : Prop :=
  match x with
  | .non => k = false
  | .bl b => k = b
  | .int i => k = (i != 0)
  | .str y => y.length ≤ sizeLine ∧ k = ((y.length : Int) != 0)
  | .byt y => y.size ≤ sizeLine ∧ k = ((y.size : Int) != 0)
  | .ref p => (∃ xs, SqL K H p xs ∧ k = !xs.isEmpty) ∨ (∃ xs, SqT K H p xs ∧ k = !xs.isEmpty) ∨ ∃ kvs, H p = some (.dK kvs) ∧ k = !kvs.isEmpty
  | _ => False
theorem line63 : (sizeLine : Nat) < 2 ^ 63 := by rw [sizeLine_eq]; decide
/-! ### strs and bytes -/
def PlainIxT (b : Expr) : Prop := ∀ o i, subscripted b false o i = operate [o, i] (getItem o i)
/-! ### scalar builtins, by CallR -/
theorem vals1 {x : V} {us : List Value} (r : Vals [x] us) : ∃ u, us = [u] ∧ RelV x u := by
  cases r with
  | cons r1 r2 => cases r2; exact ⟨_, rfl, r1⟩
theorem vals2 {x y : V} {us : List Value} (r : Vals [x, y] us) : ∃ u w', us = [u, w'] ∧ RelV x u ∧ RelV y w' := by
  cases r with
  | cons r1 r2 =>
    cases r2 with
    | cons r3 r4 => cases r4; exact ⟨_, _, rfl, r1, r3⟩
/-- len of a str, a bytes, a list, a tuple -/
def LenV (K : PySem.W.Frag) (x : V) (H : Hp) (n : Nat) : Prop :=
  match x with
  | .str y => y.length ≤ sizeLine ∧ n = y.length
  | .byt y => y.size ≤ sizeLine ∧ n = y.size
  | .ref p => (∃ xs, SqL K H p xs ∧ n = xs.length) ∨ ∃ xs, SqT K H p xs ∧ n = xs.length
  | _ => False
end
end L2

namespace L2
open PySem PySem.Spec PyProof.Rows

/-! ### an instance, its attributes a map -/
structure ObjM (h : Heap) (x dx C : Addr) (mA : Str → Option Value) : Prop where
  obj : h.get? x = some (PySem.W.instObj C dx)
  ns : h.Ns1 dx mA
  ne : dx ≠ x

theorem lookIn_ns {h : Heap} {dx : Addr} {mA : Str → Option Value} (n : h.Ns1 dx mA) : ∃ od, h.get? dx = some od ∧ ∀ name, PySem.W.lookIn name od = some (mA name) := by
  obtain ⟨o, es, ep, ho, hd, hk, _, hm⟩ := n
  refine ⟨o, ho, fun name => ?_⟩
  have e := hm name
  unfold nsFind findBy at e
  rw [← Array.find?_toList] at e
  unfold PySem.W.lookIn
  rw [hd]
  dsimp only
  split
  · rename_i y q
    rw [q] at e
    exact congrArg some e
  · rename_i q
    rw [q] at e
    have a : es.toList.any (·.refKey) = false := by
      rw [List.any_eq_false]
      intro y hy
      obtain ⟨z, t, hkey⟩ := hk y (Array.mem_toList_iff.mp hy)
      simp [DictEntry.refKey, hkey]
    have a' : ¬ es.toList.any (·.refKey) = true := by rw [a]; exact Bool.false_ne_true
    rw [if_neg a']
    exact congrArg some e

theorem ObjM.look {h : Heap} {x dx C : Addr} {mA : Str → Option Value} (I : ObjM h x dx C mA) : ∃ od, PySem.W.InstAt h x (PySem.W.instObj C dx) C (some od) ∧ ∀ name, PySem.W.lookIn name od = some (mA name) :=
  let ⟨od, ho, hl⟩ := lookIn_ns I.ns
  ⟨od, ⟨I.obj, rfl, rfl, ho⟩, hl⟩

section
variable {prog : Program} {w : World} {A : Around} {E : Value → Shared → Prop} {s : Shared} {K : PySem.W.Frag} {x dx C f : Addr} {mA : Str → Option Value} {name : Str} {v : Value}

theorem get_map {expr : Bool} {Q : Value → Shared → Prop} (X : K.In s.heap) (I : ObjM s.heap x dx C mA) (hg : PySem.W.plainGet K C name = true) (hh : PySem.W.hasDictIn K C = true)
    (ha : PySem.W.findIn K (.ref C) name = some none) (hv : mA name = some v) (hv' : PySem.W.handedIn v = true) (h : Q v { s with toks := s.toks + 1 }) :
    wpAny (model prog w) A (getAttr (.ref x) name expr) Q E s := by
  obtain ⟨od, J, hl⟩ := I.look
  exact PySem.W.get_value X J (PySem.W.plainGet_of hg).1 (PySem.W.findObj_own hh ha rfl (by rw [hl, hv])) hv' h

theorem get_meth {pl : Sem Bool} {Q : Value × List Value → Shared → Prop} (X : K.In s.heap) (I : ObjM s.heap x dx C mA) (hg : PySem.W.plainGet K C name = true)
    (hf : PySem.W.findIn K (.ref C) name = some (some (.ref f))) (ht : PySem.W.isFn K (.ref f) = true) (hv : mA name = none) (h : Q (.ref f, [.ref x]) s) :
    wpAny (model prog w) A (getMethod (.ref x) name pl) Q E s := by
  obtain ⟨od, J, hl⟩ := I.look
  exact PySem.W.method_fn X J (PySem.W.plainGet_of hg).1 (PySem.W.plainGet_of hg).2 hf (beq_iff_eq.mp ht) (by show (PySem.W.lookIn name od).map (·.isSome) = some false; rw [hl, hv]; rfl) h

theorem set_map {ns : List Str} {Q : Unit → Shared → Prop} (X : K.In s.heap) (I : ObjM s.heap x dx C mA)
    (hs : PySem.W.findIn K (.ref C) "__setattr__" = some (some (.builtin "object.__setattr__"))) (hp : PySem.W.plainOver K C = true) (ht : PySem.W.takerIn K C name = some none) (hh : PySem.W.hasDictIn K C = true)
    (hw : PySem.Within mA ns) (hsz : ns.length ≤ sizeLine)
    (h : ∀ h', ObjM h' x dx C (fun y => if y = name then some v else mA y) → Heap.SameBut dx s.heap h' → Q () { s with heap := h', toks := s.toks + 2 }) :
    wpAny (model prog w) A (setAttr (.ref x) name v) Q E s := by
  obtain ⟨od, J, hl⟩ := I.look
  refine PySem.W.set_plain X J hs (PySem.W.osa_open (s := { s with toks := s.toks + 1 }) (r := none) X J hp ht fun b => ?_)
  obtain ⟨cd, hc, hd'⟩ := PySem.W.any_some hh
  have hx : s.heap.get? x = some ⟨.ref C, some dx, .plain, #[]⟩ := I.obj
  refine wpAny_bind (wpAny_pure (wpAny_bind (wpAny_bind (wpAny_loadPart hx (wpAny_bind (PySem.W.Looks.here (s := { s with toks := s.toks + 1 }) (PySem.W.looks_clsIn X hc) ?_))))))
  rw [hd']
  refine wpAny_pure (a := some dx) (wpAny_bind (wpAny_pure (wpAny_bind ?_)))
  refine wpAny_nsSet1 (s := { s with toks := s.toks + 1 }) I.ns fun h' hn2 hs2 => ?_
  obtain ⟨oD, esD, epD, hoD, hdD, hcD⟩ := hn2.count (PySem.Within.cons name v hw)
  refine wpAny_bind (wpAny_lookBehind hoD (by rw [hdD]; exact pastItsLine_dict (Nat.le_trans hcD (by rw [List.length_cons]; omega))) ?_)
  exact wpAny_pure (h _ ⟨(hs2.2 _ (Ne.symm I.ne)).trans I.obj, hn2, I.ne⟩ hs2)

/-- C(..): the dict at the heap's end, the instance behind it; then its __init__ -/
theorem make_map {R : Result → Shared → Prop} {vs : List Value} {kw : List (Str × Value)} (X : K.In s.heap) (hm : PySem.W.makesIn K C = true)
    (hi : PySem.W.findIn K (.ref C) "__init__" = some (some (.ref f))) (hf : PySem.W.typeIn K (.ref f) = some (.type "function"))
    (h : codeAny (model prog w) (A.under (.builtin "type.__call__" ⟨.ref C :: vs, kw⟩)) (.call (.ref f) ⟨.ref (s.heap.objs.size + 1) :: vs, kw⟩) (PySem.W.InitBack (s.heap.objs.size + 1) R)
      { s with heap := (s.heap.push PySem.W.emptyDict).push (PySem.W.instObj C s.heap.objs.size) }) :
    codeAny (model prog w) A (.call (.ref C) ⟨vs, kw⟩) R s := by
  obtain ⟨hh, g, d, t, os⟩ := s
  exact PySem.W.make_core (PySem.W.makes_of X hm) (PySem.W.looks_findIn X hi) (fun self => PySem.W.bind_fn X self hf) (.inl rfl) h
end

/-! ### the attributes as a list of pairs -/
def putF (f : Str) (v : V) : List (Str × V) → List (Str × V)
  | [] => [(f, v)]
  | (g, x) :: r => if g = f then (g, v) :: r else (g, x) :: putF f v r
theorem lookup_putF (f g : Str) (v : V) : ∀ fs : List (Str × V), (putF f v fs).lookup g = if g = f then some v else fs.lookup g
  | [] => by
    show List.lookup g [(f, v)] = _
    by_cases h : g = f
    · have hb : (g == f) = true := beq_iff_eq.mpr h
      simp only [List.lookup, hb, if_pos h]
    · have hb : (g == f) = false := beq_eq_false_iff_ne.mpr h
      simp only [List.lookup, hb, if_neg h]
  | (k, x) :: r => by
    have ih := lookup_putF f g v r
    rw [show putF f v ((k, x) :: r) = (if k = f then (k, v) :: r else (k, x) :: putF f v r) from rfl]
    by_cases hk : k = f
    · rw [if_pos hk]
      by_cases h : g = k
      · have hb : (g == k) = true := beq_iff_eq.mpr h
        simp only [List.lookup, hb, if_pos (h.trans hk)]
      · have hb : (g == k) = false := beq_eq_false_iff_ne.mpr h
        simp only [List.lookup, hb, if_neg (fun e : g = f => h (e.trans hk.symm))]
    · rw [if_neg hk]
      by_cases h : g = k
      · have hb : (g == k) = true := beq_iff_eq.mpr h
        simp only [List.lookup, hb, if_neg (fun e : g = f => hk (h.symm.trans e))]
      · have hb : (g == k) = false := beq_eq_false_iff_ne.mpr h
        simp only [List.lookup, hb]
        exact ih
theorem keys_putF (f : Str) (v : V) : ∀ fs : List (Str × V), f ∈ (putF f v fs).map (·.1) ∧ ∀ g, g ∈ fs.map (·.1) → g ∈ (putF f v fs).map (·.1)
  | [] => ⟨by simp [putF], fun g h => by simp at h⟩
  | (k, x) :: r => by
    obtain ⟨i1, i2⟩ := keys_putF f v r
    rw [show putF f v ((k, x) :: r) = (if k = f then (k, v) :: r else (k, x) :: putF f v r) from rfl]
    by_cases hk : k = f
    · rw [if_pos hk]
      subst hk
      exact ⟨by simp, fun g h => by simpa using h⟩
    · rw [if_neg hk]
      refine ⟨?_, fun g h => ?_⟩
      · rw [List.map_cons]
        exact List.mem_cons_of_mem _ i1
      · rw [List.map_cons] at h ⊢
        rcases List.mem_cons.mp h with e | e
        · exact List.mem_cons.mpr (.inl e)
        · exact List.mem_cons_of_mem _ (i2 g e)
theorem length_putF (f : Str) (v : V) : ∀ fs : List (Str × V), (putF f v fs).length ≤ fs.length + 1
  | [] => by simp [putF]
  | (k, x) :: r => by
    have ih := length_putF f v r
    rw [show putF f v ((k, x) :: r) = (if k = f then (k, v) :: r else (k, x) :: putF f v r) from rfl]
    by_cases hk : k = f
    · rw [if_pos hk, List.length_cons, List.length_cons]; omega
    · rw [if_neg hk, List.length_cons, List.length_cons]; omega

theorem RelO.some_of {v : V} {o : Option Value} (r : RelO (some v) o) : ∃ u, o = some u ∧ RelV v u := by
  cases o with
  | none => exact (show False from r).elim
  | some u => exact ⟨u, rfl, r⟩
theorem RelO.none_of {o : Option Value} (r : RelO none o) : o = none := by
  cases o with
  | none => rfl
  | some u => exact (show False from r).elim
theorem handed_of {v : V} {u : Value} (r : RelV v u) : PySem.W.handedIn u = true := by
  cases v with
  | non => cases (show u = Value.none from r); rfl
  | bl b => cases (show u = Value.bool b from r); rfl
  | int i => obtain ⟨t, e⟩ := (show ∃ t, u = Value.int i t from r); cases e; rfl
  | str x => obtain ⟨t, e⟩ := (show ∃ t, u = Value.str x t from r); cases e; rfl
  | byt b => obtain ⟨t, e⟩ := (show ∃ t, u = Value.bytes b t from r); cases e; rfl
  | flt b => obtain ⟨t, e⟩ := (show ∃ t, u = Value.float b t from r); cases e; rfl
  | ref a => cases (show u = Value.ref a from r); rfl
  | ty n => cases (show u = Value.type n from r); rfl

section
variable {P : Program} {w : World} {H H' : Hp} {h h' : Heap} {a C dx : Addr} {fs fs' : List (Str × V)}
theorem ins_get (hok : HOk P w H h) (e : H a = some (.ins C dx fs)) : ∃ mA, ObjM h a dx C mA ∧ (∀ f, RelO (fs.lookup f) (mA f)) ∧ PySem.Within mA (fs.map (·.1)) ∧ fs.length ≤ 1000 ∧ H dx = some (.own a) := by
  obtain ⟨d, z, ne, ob, mA, n, r, q⟩ := (show ObjOk P w H h a (.ins C dx fs) from hok a _ e)
  exact ⟨mA, ⟨ob, n, ne⟩, r, q, z, d⟩
end

/-! ### what of the text a class must have -/
structure Cls (K : PySem.W.Frag) (C : Addr) : Prop where
  pg : PySem.W.plainGet K C Str.empty = true
  hd : PySem.W.hasDictIn K C = true
  po : PySem.W.plainOver K C = true
  sa : PySem.W.findIn K (.ref C) "__setattr__" = some (some (.builtin "object.__setattr__"))
theorem Cls.get {K : PySem.W.Frag} {C : Addr} (c : Cls K C) (f : Str) : PySem.W.plainGet K C f = true := c.pg
/-- no class of it has the name -/
def NoAttr (K : PySem.W.Frag) (C : Addr) (f : Str) : Prop := PySem.W.findIn K (.ref C) f = some none
theorem NoAttr.taker {K : PySem.W.Frag} {C : Addr} {f : Str} (n : NoAttr K C f) : PySem.W.takerIn K C f = some none := by
  unfold PySem.W.takerIn
  rw [show PySem.W.findIn K (.ref C) f = some none from n]
  rfl
/-- a constant of the class -/
structure Con (K : PySem.W.Frag) (C : Addr) (f : Str) (v : V) (u : Value) : Prop where
  at_ : PySem.W.findIn K (.ref C) f = some (some u)
  rel : RelV v u
  get : PySem.W.specialIn K u "__get__" = some none
  cp : PySem.W.copiedNames.contains f = false
/-- a method: a plain def of the class or of one above it -/
structure Meth (K : PySem.W.Frag) (C : Addr) (m : Str) (f : Addr) : Prop where
  at_ : PySem.W.findIn K (.ref C) m = some (some (.ref f))
  fn : PySem.W.isFn K (.ref f) = true
  kp : PySem.W.keepIn K (.ref f) = true

section
variable {X : Cx} {pins : List (Addr × Obj)} {σ : St} {H : Hp} {s : Shared} {a C dx : Addr} {fs : List (Str × V)} {f : Str} {v : V} {A : Around} {E : Value → Shared → Prop}

theorem getattr_ok {b : Bool} {Q : Value → Shared → Prop} (I : Inv X pins σ H s) (e : H a = some (.ins C dx fs)) (c : Cls X.K C) (n : NoAttr X.K C f) (l : fs.lookup f = some v)
    (h : ∀ u s', Inv X pins σ H s' → RelV v u → Q u s') : wpAny (model X.prog X.w) A (getAttr (.ref a) f b) Q E s := by
  obtain ⟨mA, O, r, _, _, _⟩ := ins_get I.hok e
  obtain ⟨u, hu, ru⟩ := RelO.some_of (v := v) (o := mA f) (by rw [← l]; exact r f)
  exact get_map I.kIn O (c.get f) c.hd n hu (handed_of ru) (h u _ (I.tok _) ru)

theorem getmeth_ok {m : Str} {g : Addr} {pl : Sem Bool} {Q : Value × List Value → Shared → Prop} (I : Inv X pins σ H s) (e : H a = some (.ins C dx fs)) (c : Cls X.K C) (k : Meth X.K C m g) (l : fs.lookup m = none)
    (h : Q (.ref g, [.ref a]) s) : wpAny (model X.prog X.w) A (getMethod (.ref a) m pl) Q E s := by
  obtain ⟨mA, O, r, _, _, _⟩ := ins_get I.hok e
  have hn : mA m = none := RelO.none_of (by rw [← l]; exact r m)
  exact get_meth I.kIn O (c.get m) k.at_ k.fn hn h

theorem setattr_ok {y : V} {u : Value} {Q : Unit → Shared → Prop} (I : Inv X pins σ H s) (e : H a = some (.ins C dx fs)) (c : Cls X.K C) (n : NoAttr X.K C f) (hl : fs.length < 1000) (ry : RelV y u)
    (h : ∀ s', Inv X pins σ (upd H a (.ins C dx (putF f y fs))) s' → Q () s') : wpAny (model X.prog X.w) A (setAttr (.ref a) f u) Q E s := by
  obtain ⟨mA, O, r, wi, _, ho⟩ := ins_get I.hok e
  have hz : (fs.map (·.1)).length ≤ sizeLine := by rw [List.length_map, sizeLine_eq]; omega
  refine set_map I.kIn O c.sa c.po n.taker c.hd wi hz fun h' O' sb => h _ ?_
  have hd : ∃ o, h'.get? dx = some o := let ⟨o, _, _, e', _⟩ := O'.ns; ⟨o, e'⟩
  refine I.write (x := a) (e := dx) (by rw [e]; exact True.intro) (.inr ho) (fun b q hb z => (sb.2 b hb).trans z) hd ?_
  refine ⟨by rw [upd_ne O.ne]; exact ho, ?_, O.ne, O'.obj, _, O'.ns, fun g => ?_, fun g hg => ?_⟩
  · have := length_putF f y fs; omega
  · show RelO ((putF f y fs).lookup g) (if g = f then some u else mA g)
    rw [lookup_putF]
    by_cases q : g = f
    · rw [if_pos q, if_pos q]; exact ry
    · rw [if_neg q, if_neg q]; exact r g
  · by_cases q : g = f
    · rw [q]; exact (keys_putF f y fs).1
    · refine (keys_putF f y fs).2 g (wi g fun z => hg ?_)
      show (if g = f then some u else mA g) = none
      rw [if_neg q]; exact z

/-- a new instance, tracked, without attributes -/
theorem Inv.made (I : Inv X pins σ H s) : Inv X pins σ (upd (upd H s.heap.objs.size (.own (s.heap.objs.size + 1))) (s.heap.objs.size + 1) (.ins C s.heap.objs.size []))
    { s with heap := (s.heap.push PySem.W.emptyDict).push (PySem.W.instObj C s.heap.objs.size) } := by
  have e1 : (s.heap.push PySem.W.emptyDict).get? s.heap.objs.size = some PySem.W.emptyDict := Heap.get?_push_size s.heap rfl
  have e2 : ((s.heap.push PySem.W.emptyDict).push (PySem.W.instObj C s.heap.objs.size)).get? (s.heap.objs.size + 1) = some (PySem.W.instObj C s.heap.objs.size) := by
    have := Heap.get?_push_size (s.heap.push PySem.W.emptyDict) (o := PySem.W.instObj C s.heap.objs.size) rfl
    rwa [Heap.size_push] at this
  have e3 : (s.heap.push PySem.W.emptyDict).Ns s.heap.objs.size (fun _ => none) := ⟨PySem.W.emptyDict, #[], _, e1, rfl, (fun e he => absurd he (by simp)), fun _ => rfl⟩
  have I1 := I.laid (a := s.heap.objs.size) (o := .own (s.heap.objs.size + 1)) (h' := s.heap.push PySem.W.emptyDict) (t' := s.toks) (fun b u q => Heap.get?_push_of_some _ q) (Nat.le_refl _) ⟨_, e1⟩
  refine I1.laid (a := s.heap.objs.size + 1) (o := .ins C s.heap.objs.size []) (t' := s.toks) (fun b u q => Heap.get?_push_of_some _ q) (Nat.le_of_eq (Heap.size_push _ _)) ?_
  have ne : s.heap.objs.size ≠ s.heap.objs.size + 1 := Nat.ne_of_lt (Nat.lt_succ_self _)
  refine ⟨by rw [upd_ne ne, upd_same], Nat.zero_le _, ne, e2, fun _ => none, (Heap.Ns1.of_empty e3).at fun o q => Heap.get?_push_of_some _ q, fun _ => True.intro, fun y hy => absurd rfl hy⟩

/-- e.f where nothing but the object is asked: through attributeBase (super) and the last hold -/
theorem attr_of {prog : Program} {w : World} {env : Env} {e : Expr} {f : Str} {pos : Pos} {s : Shared} {Q : Value → Shared → Prop} (hb : attributeBase e f env (eval e env) = eval e env)
    (h : wpAny (model prog w) A (eval e env) (fun o s₁ => wpAny (model prog w) A (getAttr o f true) Q E s₁) E s) : wpAny (model prog w) A (eval (.Attribute e f pos) env) Q E s :=
  Attribute_any_ h (by rw [arm_eval_Attribute, hb])
end

/-! ### readings and rules -/
/-- e.f, an attribute of the instance -/
def tFld (K : PySem.W.Frag) (ta : TE) (f : Str) : TE := fun σ H Q => ta σ H fun x H1 => ∃ a C dx fs v, x = .ref a ∧ H1 a = some (.ins C dx fs) ∧ Cls K C ∧ NoAttr K C f ∧ fs.lookup f = some v ∧ Q v H1
/-- e.f, a constant of the class -/
def tCon (K : PySem.W.Frag) (ta : TE) (f : Str) : TE := fun σ H Q => ta σ H fun x H1 => ∃ a C dx fs v u, x = .ref a ∧ H1 a = some (.ins C dx fs) ∧ Cls K C ∧ Con K C f v u ∧ fs.lookup f = none ∧ Q v H1
/-- e.f = value -/
def sFld (K : PySem.W.Frag) (ta tv : TE) (f : Str) : TS := fun D σ H => tv σ H fun y H1 => ta σ H1 fun x H2 => ∃ a C dx fs, x = .ref a ∧ H2 a = some (.ins C dx fs) ∧ Cls K C ∧ NoAttr K C f ∧ fs.length < 1000 ∧
  D.nx σ (upd H2 a (.ins C dx (putF f y fs)))
/-- an augmented operator on two values -/
def InOp (X : Cx) (op : Operator) (rd : V → V → Hp → VK → Prop) : Prop :=
  ∀ (pins : List (Addr × Obj)) (s : Shared) (σ : St) (H : Hp) (x y : V) (u v : Value) (Q : VK), Inv X pins σ H s → RelV x u → RelV y v → rd x y H Q → wpAny (model X.prog X.w) X.A (inplaceOp op u v) (EP X pins σ Q) X.xe s
/-- e.f op= value -/
def sFldAug (K : PySem.W.Frag) (ta tv : TE) (rd : V → V → Hp → VK → Prop) (f : Str) : TS := fun D σ H => ta σ H fun x H1 => ∃ a C dx fs v, x = .ref a ∧ H1 a = some (.ins C dx fs) ∧ Cls K C ∧ NoAttr K C f ∧ fs.lookup f = some v ∧
  tv σ H1 fun y H2 => rd v y H2 fun z H3 => ∃ dx' fs', H3 a = some (.ins C dx' fs') ∧ fs'.length < 1000 ∧ D.nx σ (upd H3 a (.ins C dx' (putF f z fs')))

section
variable {X : Cx} {o e value : Expr} {f : Str} {pos pos' tpos : Pos} {ta tv : TE}
theorem pe_fld (he : PE X e ta) (hb : attributeBase e f X.env (eval e X.env) = eval e X.env) : PE X (.Attribute e f pos) (tFld X.K ta f) := by
  intro pins s σ H Q I h
  refine attr_of hb (thn (he pins s σ H _ I h) fun u s1 ⟨x, H1, I1, rx, a, C, dx, fs, v, ex, ea, c, n, l, q⟩ => ?_)
  subst ex
  obtain rfl : u = Value.ref a := rx
  exact getattr_ok I1 ea c n l fun u' s2 I2 ru => ⟨v, H1, I2, ru, q⟩
theorem ps_fld (ha : PE X o ta) (hv : PE X value tv) (hs : swapsWith value (some (.Attribute o f pos')) pos.line X.env = pure false) : PS X (.Assign [.Attribute o f pos'] value pos) (sFld X.K ta tv f) := by
  intro pins s σ H D I h
  refine plainObj_wpAny_Assign_Attribute (thn (hv pins s σ H _ I h) fun u s1 ⟨y, H1, I1, ry, q⟩ => thn (ha pins s1 σ H1 _ I1 q) fun ov s2 ⟨x, H2, I2, rx, a, C, dx, fs, ex, ea, c, n, l, q2⟩ => ?_) hs
  subst ex
  obtain rfl : ov = Value.ref a := rx
  exact setattr_ok I2 ea c n l ry fun s3 I3 => ⟨σ, _, I3, q2⟩
def rAdd : V → V → Hp → VK → Prop := fun x y H Q => ∃ i j, x = .int i ∧ y = .int j ∧ Q (.int (i + j)) H
def rSub : V → V → Hp → VK → Prop := fun x y H Q => ∃ i j, x = .int i ∧ y = .int j ∧ Q (.int (i - j)) H
end

/-! ### isinstance -/
section
variable {X : Cx} {pins : List (Addr × Obj)} {σ : St} {H : Hp} {s : Shared} {A : Around} {E : Value → Shared → Prop} {Q : Value → Shared → Prop} {c : Value} {b : Bool}
/-- the type of a value, as the fragment's deciders take it; for an instance its class -/
inductive TyOf (K : PySem.W.Frag) (H : Hp) : V → Value → Prop where
  | non : TyOf K H .non (.type "NoneType")
  | bl (x : Bool) : TyOf K H (.bl x) (.type "bool")
  | int (i : Int) : TyOf K H (.int i) (.type "int")
  | str (x : Str) : TyOf K H (.str x) (.type "str")
  | flt (x : UInt64) : TyOf K H (.flt x) (.type "float")
  | lst {a : Addr} {xs : List V} (e : H a = some (.lst xs)) : TyOf K H (.ref a) (.type "list")
  | frz {a : Addr} {o : Obj} {xs : List V} (e : H a = some (.frz o (.lst xs))) : TyOf K H (.ref a) (.type "list")
  | tup {a : Addr} {xs : List V} (e : H a = some (.tup xs)) : TyOf K H (.ref a) (.type "tuple")
  | dK {a : Addr} {kvs : List (Key × V)} (e : H a = some (.dK kvs)) : TyOf K H (.ref a) (.type "dict")
  | dT {a : Addr} {kvs : List (List Key × V)} (e : H a = some (.dT kvs)) : TyOf K H (.ref a) (.type "dict")
  | ins {a C dx : Addr} {fs : List (Str × V)} (e : H a = some (.ins C dx fs)) (cl : Cls K C) (ha : PySem.W.findIn K (.ref C) "__class__" = some (some (.builtin "object.__class__")))
      (hn : PySem.W.specialIn K (.builtin "object.__class__") "__get__" = some (some (.builtin "getset_descriptor.__get__"))) (htk : PySem.W.takesIn K (.builtin "object.__class__") = some true)
      (hm : PySem.W.mroIn K C (.type "object") = some true) : TyOf K H (.ref a) (.ref C)
/-- isinstance(x, c) for one class c, a built-in or an own one: kitOne's answer -/
theorem isinst_ok {x : V} {u t : Value} (I : Inv X pins σ H s) (rx : RelV x u) (ty : TyOf X.K H x t) (e : PySem.W.kitOne X.K t c = some b) (h : ∀ tk, Q (.bool b) { s with toks := tk }) :
    wpAny (model X.prog X.w) A (call (.builtin "isinstance") [u, c]) Q E s := by
  cases ty with
  | non => cases (show u = Value.none from rx); exact PySem.W.kia_one PySem.W.kitx_none I.kIn True.intro e (fun z => nomatch z) h
  | bl y => cases (show u = Value.bool y from rx); exact PySem.W.kia_one PySem.W.kitx_bool I.kIn True.intro e (fun z => nomatch z) h
  | int i => obtain ⟨t, q⟩ := (show ∃ t, u = Value.int i t from rx); cases q; exact PySem.W.kia_one PySem.W.kitx_int I.kIn True.intro e (fun z => nomatch z) h
  | str y => obtain ⟨t, q⟩ := (show ∃ t, u = Value.str y t from rx); cases q; exact PySem.W.kia_one PySem.W.kitx_str I.kIn True.intro e (fun z => nomatch z) h
  | flt y => obtain ⟨t, q⟩ := (show ∃ t, u = Value.float y t from rx); cases q; exact PySem.W.kia_one PySem.W.kitx_float I.kIn True.intro e (fun z => nomatch z) h
  | @lst a xs ea =>
    cases (show u = Value.ref a from rx)
    obtain ⟨_, _, n, _, h1⟩ := (show ObjOk X.prog X.w H s.heap a (.lst xs) from I.hok a _ ea)
    exact PySem.W.kia_one PySem.W.kitx_list I.kIn ⟨_, h1, rfl⟩ e (fun z => nomatch z) h
  | @frz a ob xs ea =>
    cases (show u = Value.ref a from rx)
    obtain ⟨_, _, _, n, _, h1⟩ := (show ObjOk X.prog X.w H s.heap a (.frz ob (.lst xs)) from I.hok a _ ea)
    exact PySem.W.kia_one PySem.W.kitx_list I.kIn ⟨_, h1, rfl⟩ e (fun z => nomatch z) h
  | @tup a xs ea =>
    cases (show u = Value.ref a from rx)
    obtain ⟨_, _, _, p⟩ := (show ObjOk X.prog X.w H s.heap a (.tup xs) from I.hok a _ ea)
    obtain ⟨o, h1, h2, _⟩ := p
    exact PySem.W.kia_one PySem.W.kitx_tuple I.kIn ⟨o, h1, h2⟩ e (fun z => nomatch z) h
  | @dK a kvs ea =>
    cases (show u = Value.ref a from rx)
    obtain ⟨_, _, vs, _, p⟩ := (show ObjOk X.prog X.w H s.heap a (.dK kvs) from I.hok a _ ea)
    obtain ⟨o, es, ep, h1, h2, _⟩ := p
    exact PySem.W.kia_one PySem.W.kitx_dict I.kIn ⟨o, h1, h2.1⟩ e (fun z => nomatch z) h
  | @dT a kvs ea =>
    cases (show u = Value.ref a from rx)
    obtain ⟨_, _, xs, _, o, es, ep, h1, h2, _⟩ := (show ObjOk X.prog X.w H s.heap a (.dT kvs) from I.hok a _ ea)
    exact PySem.W.kia_one PySem.W.kitx_dict I.kIn ⟨o, h1, h2.1⟩ e (fun z => nomatch z) h
  | @ins a C dx fs ea cl ha hn htk hm =>
    cases (show u = Value.ref a from rx)
    obtain ⟨mA, O, _⟩ := ins_get I.hok ea
    obtain ⟨od, J, _⟩ := O.look
    exact PySem.W.kia_one (PySem.W.kitx_own (cl.get _) cl.hd ha hn htk hm) I.kIn J e (fun z => nomatch z) h
end
end L2

namespace L2
open PySem PySem.Spec PyProof.Rows

/-! ### room -/
structure Room (k : Nat) (A : Around) : Prop where
  hd : A.handled = none
  dp : A.depth + 3 * k + 5 < recursionLimit
  un : A.units + 16 * k + 200 < cLine
theorem Room.mono {j k : Nat} {A : Around} (r : Room k A) (h : j ≤ k) : Room j A := ⟨r.hd, by have := r.dp; omega, by have := r.un; omega⟩
theorem Room.deeper {k : Nat} {A : Around} (r : Room (k + 1) A) (env : Env) : Room k (A.deeper env) :=
  ⟨r.hd, by have := r.dp; show A.depth + 1 + 3 * k + 5 < _; omega, by have := r.un; show A.units + 3 + 16 * k + 200 < _; omega⟩
theorem make_depth {A : Around} {C : Addr} {us : List Value} {kw : List (Str × Value)} : (A.under (.builtin "type.__call__" ⟨.ref C :: us, kw⟩)).depth = A.depth + 1 := by
  first | rfl | simp [Around.under, Code.weight, Code.isCreation, Code.isGuard, Code.isCaller, Code.frames, Code.isFrame, guardIds]
theorem make_units {A : Around} {C : Addr} {us : List Value} {kw : List (Str × Value)} : (A.under (.builtin "type.__call__" ⟨.ref C :: us, kw⟩)).units = A.units + 1 := by
  first | rfl | simp [Around.under, Code.cUnits, Code.frames, Code.isFrame]
theorem Room.make {k : Nat} {A : Around} (r : Room (k + 1) A) (C : Addr) (us : List Value) (kw : List (Str × Value)) : Room k (A.under (.builtin "type.__call__" ⟨.ref C :: us, kw⟩)) :=
  ⟨r.hd, by have := r.dp; rw [make_depth]; omega, by have := r.un; rw [make_units]; omega⟩
theorem Room.depth {k : Nat} {A : Around} (r : Room k A) : A.depth < recursionLimit := by have := r.dp; omega
theorem Room.units {k : Nat} {A : Around} (r : Room k A) : A.units + 64 < cLine := by have := r.un; omega
/-! ### argument lists and displays -/
def tNil : TA := fun _ H Q => Q [] H
def tCons (ta : TE) (tr : TA) : TA := fun σ H Q => ta σ H fun x H1 => tr σ H1 fun xs H2 => Q (x :: xs) H2
section
variable {X : Cx} {e : Expr} {es : List Expr} {te : TE} {t : TA} {pos : Pos}
theorem pa_nil : PA X [] tNil := fun _ _ _ _ H Q I h => Calls.spliced_nil ⟨[], H, I, .nil, h⟩
theorem pa_cons (ha : PE X e te) (hr : PA X es t) (hs : starEach (e :: es) X.env = (false, eval e X.env) :: starEach es X.env := by rfl) : PA X (e :: es) (tCons te t) := by
  intro pos pins s σ H Q I h
  rw [hs]
  show wpAny _ _ (spliced ((false, eval e X.env) :: backTo pos (starEach es X.env))) _ _ s
  refine Calls.spliced_cons (thn (ha pins s σ H _ I h) fun u s1 ⟨x, H1, I1, r1, q1⟩ => ?_)
  exact thn (hr pos pins s1 σ H1 _ I1 q1) fun us s2 ⟨xs, H2, I2, r2, q2⟩ => ⟨x :: xs, H2, I2, .cons r1 r2, q2⟩

/-- a tuple, a list of written items -/
def tTup (t : TA) : TE := fun σ H Q => t σ H fun xs H1 => xs.length ≤ sizeLine ∧ ∀ p, H1 p = none → Q (.ref p) (upd H1 p (.tup xs))
def tLst (t : TA) : TE := fun σ H Q => t σ H fun xs H1 => xs.length ≤ sizeLine ∧ ∀ p, H1 p = none → Q (.ref p) (upd H1 p (.lst xs))
theorem pe_tup {x1} (h : PA X es t) : PE X (.Tuple es x1 pos) (tTup t) := by
  intro pins s σ H Q I hq
  refine wpAny_Tuple_spliced (thn (h pos pins s σ H _ I hq) fun us s1 ⟨xs, H1, I1, r, z, q⟩ => ⟨by rw [← r.length]; exact z, ?_⟩)
  have hf : H1 s1.heap.objs.size = none := I1.hok.fresh (Nat.le_refl _)
  refine ⟨.ref s1.heap.objs.size, upd H1 s1.heap.objs.size (.tup xs), I1.laid (t' := s1.toks) (fun b u e => Heap.get?_push_of_some _ e) (Nat.le_refl _) ?_, rfl, q _ hf⟩
  exact ⟨z, us, r, ⟨_, Heap.get?_push_size _ rfl, rfl, _, rfl⟩⟩
theorem pe_lst (h : PA X es t) : PE X (.List es pos) (tLst t) := by
  intro pins s σ H Q I hq
  refine wpAny_List_spliced (thn (h pos pins s σ H _ I hq) fun us s1 ⟨xs, H1, I1, r, z, q⟩ => ⟨by rw [← r.length]; exact z, ?_⟩)
  have hf : H1 s1.heap.objs.size = none := I1.hok.fresh (Nat.le_refl _)
  refine ⟨.ref s1.heap.objs.size, upd H1 s1.heap.objs.size (.lst xs), I1.laid (t' := s1.toks) (fun b u e => Heap.get?_push_of_some _ e) (Nat.le_refl _) ?_, rfl, q _ hf⟩
  exact ⟨z, us, 0, r, Heap.get?_push_size _ rfl⟩
end

/-! ### what a def promises -/
/-- a def's promise: the bound arguments in the parameters' order, the heap, the wanted end, the wanted exception -/
abbrev Sp := List V → Hp → VK → XK → Prop
/-- how an exception lies behind a call (file 08 gives it): the callers' frames, abstract heap and state ahead of the call, the wish, the exception, the state -/
abbrev CXT := List Env → Hp → Shared → XK → Value → Shared → Prop

/-- the state at a call -/
structure Env0 (P : Program) (w : World) (K : PySem.W.Frag) (mg : Str → Option Value) (base : Heap) (A : Around) (outer : List Env) (s : Shared) (H : Hp) : Prop where
  frames : A.frames = some outer
  mod : Mod K mg base
  bs : ∀ b o, base.get? b = some o → s.heap.get? b = some o ∧ H b = none
  bsz : base.objs.size ≤ s.heap.objs.size
  funs : s.heap.FunFrames base outer
  frf : ∀ b ∈ frs outer, H b = none
  hok : HOk P w H s.heap
  bare : AllBare s.gens
/-- a call's end -/
def CE (outer : List Env) (P : Program) (w : World) (H : Hp) (s : Shared) (Q : VK) (u : Value) (s' : Shared) : Prop :=
  ∃ v H', s'.os = s.os ∧ AllBare s'.gens ∧ Un (frs outer) [] H H' s.heap s'.heap ∧ HOk P w H' s'.heap ∧ RelV v u ∧ Q v H'
def CR (CX : CXT) (outer : List Env) (P : Program) (w : World) (H : Hp) (s : Shared) (Q : VK) (E : XK) (r : Result) (s' : Shared) : Prop :=
  match r with
  | .ok (.ret u) => CE outer P w H s Q u s'
  | .ok _ => False
  | .error e => CX outer H s E e s'
structure FnOk (P : Program) (w : World) (K : PySem.W.Frag) (mg : Str → Option Value) (base : Heap) (CX : CXT) (k : Nat) (f : Addr) (fd : FuncData) (ps : List Str) (sp : Sp) : Prop where
  len : ∀ vs H Q E, sp vs H Q E → vs.length = ps.length
  run : ∀ (A : Around) (outer : List Env) (s : Shared) (H : Hp) (args : Args) (us : List Value) (vs : List V) (Q : VK) (E : XK), Room k A → Env0 P w K mg base A outer s H → BindsTo s fd args (ps.zip us) → Vals vs us → sp vs H Q E →
    codeAny (model P w) A (.call (.ref f) args) (CR CX outer P w H s Q E) s
/-- a weaker promise -/
theorem FnOk.imp {P : Program} {w : World} {K : PySem.W.Frag} {mg : Str → Option Value} {base : Heap} {CX : CXT} {k : Nat} {f : Addr} {fd : FuncData} {ps : List Str} {sp sp' : Sp} (F : FnOk P w K mg base CX k f fd ps sp)
    (h : ∀ vs H Q E, sp' vs H Q E → sp vs H Q E) : FnOk P w K mg base CX k f fd ps sp' :=
  ⟨fun vs H Q E q => F.len vs H Q E (h _ _ _ _ q), fun A outer s H args us vs Q E hr he hb hv hs => F.run A outer s H args us vs Q E hr he hb hv (h _ _ _ _ hs)⟩

theorem Env0.make {P : Program} {w : World} {K : PySem.W.Frag} {mg : Str → Option Value} {base : Heap} {A : Around} {outer : List Env} {s : Shared} {H : Hp} (e : Env0 P w K mg base A outer s H) (C : Addr) (us : List Value) (kw : List (Str × Value)) :
    Env0 P w K mg base (A.under (.builtin "type.__call__" ⟨.ref C :: us, kw⟩)) outer s H := ⟨by first | exact e.frames | (simpa [Around.under, Code.envs, Code.isFrame, pushEnvs] using e.frames), e.mod, e.bs, e.bsz, e.funs, e.frf, e.hok, e.bare⟩
section
variable {X : Cx} {pins : List (Addr × Obj)} {σ : St} {H : Hp} {s s' : Shared}
/-- from a body: what a callee wants -/
theorem Inv.env0 (I : Inv X pins σ H s) : Env0 X.prog X.w X.K X.mg X.base X.A X.stack s H :=
  ⟨I.ok.frames, I.ok.mod, I.bs, Nat.le_trans I.ok.bsz I.sz, I.stack, I.stkFree, I.hok, I.bare⟩
/-- behind a call -/
theorem Inv.after {Q : VK} {u : Value} (I : Inv X pins σ H s) (h : CE X.stack X.prog X.w H s Q u s') : EP X pins σ Q u s' := by
  obtain ⟨v, H', os, bare, un, hok, r, q⟩ := h
  obtain ⟨hh, g, d, t, os'⟩ := s'
  obtain rfl : os' = s.os := os
  exact ⟨v, H', I.call (h' := hh) (g' := g) (d' := d) (t' := t) (ch := []) un hok bare (fun b z => absurd z (by simp)), r, q⟩
end

/-! ### calls -/
/-- f(..): the written arguments, then the defaults dvs; E: what is wanted of an exception -/
def tCall (sp : Sp) (dvs : List V) (E : XK) (t : TA) : TE := fun σ H Q => t σ H fun vs H1 => sp (vs ++ dvs) H1 Q E
/-- o.m(..) of an instance of the class at C -/
def tMeth (C : Addr) (m : Str) (sp : Sp) (dvs : List V) (E : XK) (ta : TE) (t : TA) : TE := fun σ H Q => ta σ H fun x H1 => ∃ a dx fs, x = .ref a ∧ H1 a = some (.ins C dx fs) ∧ fs.lookup m = none ∧
  t σ H1 fun vs H2 => sp (x :: (vs ++ dvs)) H2 Q E
/-- C(..): a new instance and its dict, then __init__ -/
def tMake (C : Addr) (sp : Sp) (dvs : List V) (E : XK) (t : TA) : TE := fun σ H Q => t σ H fun vs H1 => ∀ x dx, H1 x = none → H1 dx = none → dx ≠ x →
  sp (.ref x :: (vs ++ dvs)) (upd (upd H1 dx (.own x)) x (.ins C dx [])) (fun v H2 => v = .non ∧ Q (.ref x) H2) E

/-- how the parameters are bound: us the positional arguments, kw the keywords' values by name, ds the defaults that fill up -/
def Binds (K : PySem.W.Frag) (fd : FuncData) (ps : List Str) (ds : List Value) : Prop :=
  ∀ (s : Shared) (us : List Value), K.In s.heap → (us ++ ds).length = ps.length → BindsTo s fd ⟨us, []⟩ (ps.zip (us ++ ds))
/-- every parameter is given -/
theorem Binds.all {K : PySem.W.Frag} {fd : FuncData} {ps : List Str} (h : ∀ us : List Value, us.length = ps.length → bindArgs fd ⟨us, []⟩ = pure (ps.zip us)) : Binds K fd ps [] := fun s us _ hl => by
  rw [List.append_nil] at hl ⊢
  exact .of_eq (h us hl)

/-- an exception of a callee reaches what this body wants of exceptions -/
def Passes (CX : CXT) (X : Cx) (E : XK) : Prop := ∀ (pins : List (Addr × Obj)) (σ : St) (H : Hp) (s : Shared) (e : Value) (s' : Shared), Inv X pins σ H s → CX X.stack H s E e s' → X.xe e s'

section
variable {X : Cx} {CX : CXT} {k : Nat} {f C : Addr} {fd : FuncData} {ps : List Str} {sp : Sp} {dvs : List V} {ds : List Value} {E : XK} {x m : Str} {p pos apos : Pos} {e o : Expr} {es : List Expr} {ta : TE} {t : TA}

/-- the callee runs -/
theorem run_fn {pins : List (Addr × Obj)} {σ : St} {H : Hp} {s : Shared} {Q : VK} {us : List Value} {vs : List V} (F : FnOk X.prog X.w X.K X.mg X.base CX k f fd ps sp) (hr : Room k X.A) (hb : Binds X.K fd ps ds) (hd : Vals dvs ds) (hx : Passes CX X E)
    (I : Inv X pins σ H s) (r : Vals vs us) (h : sp (vs ++ dvs) H Q E) : wpAny (model X.prog X.w) X.A (call (.ref f) us) (EP X pins σ Q) X.xe s := by
  have r2 : Vals (vs ++ dvs) (us ++ ds) := r.append hd
  have hl : (us ++ ds).length = ps.length := by rw [← r2.length]; exact F.len _ _ _ _ h
  refine wpAny_call (codeAny_mono (F.run X.A X.stack s H ⟨us, []⟩ (us ++ ds) (vs ++ dvs) Q E hr I.env0 (hb s us I.kIn hl) r2 h) fun r s' hq => ?_)
  cases r with
  | error e => exact hx pins σ H s e s' I hq
  | ok fl =>
    cases fl with
    | ret u => exact I.after hq
    | next => exact False.elim hq
    | brk => exact False.elim hq
    | cont => exact False.elim hq

theorem pe_call (F : FnOk X.prog X.w X.K X.mg X.base CX k f fd ps sp) (hr : Room k X.A) (hg : Gl X x) (hm : X.mg x = some (.ref f)) (hk : PySem.W.keepIn X.K (.ref f) = true) (hb : Binds X.K fd ps ds) (hd : Vals dvs ds) (hx : Passes CX X E)
    (ha : PA X (e :: es) t) (hdb : (x == ("__debug__" : Str)) = false := by decide) (he : starEach (e :: es) X.env = (false, eval e X.env) :: starEach es X.env := by rfl) (hpl : (backTo pos (starEach es X.env)).any (·.1) = false := by rfl) :
    PE X (.Call (.Name x p) (e :: es) [] pos) (tCall sp dvs E t) := by
  intro pins s σ H Q I h
  refine wpAny_Call_Name_kw (ld_glob I hg hm ?_ hdb)
  refine PySem.W.callWith_K (h₀ := X.base) I.ok.mod.kin hk (thn (ha pos pins s σ H _ I h) fun us s1 ⟨vs, H1, I1, r, q⟩ => ⟨I1.kIn, ?_⟩) he hpl
  exact run_fn F hr hb hd hx I1 r q
theorem pe_call0 (F : FnOk X.prog X.w X.K X.mg X.base CX k f fd ps sp) (hr : Room k X.A) (hg : Gl X x) (hm : X.mg x = some (.ref f)) (hk : PySem.W.keepIn X.K (.ref f) = true) (hb : Binds X.K fd ps ds) (hd : Vals dvs ds) (hx : Passes CX X E)
    (hdb : (x == ("__debug__" : Str)) = false := by decide) : PE X (.Call (.Name x p) [] [] pos) (tCall sp dvs E tNil) := by
  intro pins s σ H Q I h
  refine wpAny_Call_Name_kw (ld_glob I hg hm ?_ hdb)
  exact PySem.W.callWith_K0 I.kIn hk (run_fn (us := []) F hr hb hd hx I .nil h)

/-- o.m(e, ..) -/
theorem pe_meth {pl : Sem Bool} (he : PE X o ta) (c : Cls X.K C) (hm : Meth X.K C m f) (F : FnOk X.prog X.w X.K X.mg X.base CX k f fd ps sp) (hr : Room k X.A) (hb : Binds X.K fd ps ds) (hd : Vals dvs ds) (hx : Passes CX X E) (ha : PA X (e :: es) t)
    (hst : starEach (e :: es) X.env = (false, eval e X.env) :: starEach es X.env := by rfl) (hpl : (backTo pos (starEach es X.env)).any (·.1) = false := by rfl)
    (ht : eval (.Call (.Attribute o m apos) (e :: es) [] pos) X.env = (do
      let ov ← eval o X.env
      standAt apos.atName
      let (f, first) ← holding [ov] (getMethod ov m pl)
      callWith pos f first (backTo pos (starEach (e :: es) X.env)) (backToKw pos (keywordEach [] X.env))) := by rfl) :
    PE X (.Call (.Attribute o m apos) (e :: es) [] pos) (tMeth C m sp dvs E ta t) := by
  intro pins s σ H Q I h
  refine PySem.W.methodCall_KW (pl := pl) (thn (he pins s σ H _ I h) fun u s1 ⟨x, H1, I1, rx, a, dx, fs, ex, ea, l, q⟩ => ?_) ht
  subst ex
  obtain rfl : u = Value.ref a := rx
  refine getmeth_ok I1 ea c hm l ?_
  refine PySem.W.callWith_K (first := [.ref a]) (h₀ := X.base) I.ok.mod.kin hm.kp (thn (ha pos pins s1 σ H1 _ I1 q) fun us s2 ⟨vs, H2, I2, r, q2⟩ => ⟨I2.kIn, ?_⟩) hst hpl
  exact run_fn (us := .ref a :: us) (vs := .ref a :: vs) F hr hb hd hx I2 (.cons rfl r) q2
/-- o.m() -/
theorem pe_meth0 {pl : Sem Bool} (he : PE X o ta) (c : Cls X.K C) (hm : Meth X.K C m f) (F : FnOk X.prog X.w X.K X.mg X.base CX k f fd ps sp) (hr : Room k X.A) (hb : Binds X.K fd ps ds) (hd : Vals dvs ds) (hx : Passes CX X E)
    (ht : eval (.Call (.Attribute o m apos) [] [] pos) X.env = (do
      let ov ← eval o X.env
      standAt apos.atName
      let (f, first) ← holding [ov] (getMethod ov m pl)
      callWith pos f first (backTo pos (starEach [] X.env)) (backToKw pos (keywordEach [] X.env))) := by rfl) :
    PE X (.Call (.Attribute o m apos) [] [] pos) (tMeth C m sp dvs E ta tNil) := by
  intro pins s σ H Q I h
  refine PySem.W.methodCall_KW (pl := pl) (thn (he pins s σ H _ I h) fun u s1 ⟨x, H1, I1, rx, a, dx, fs, ex, ea, l, q⟩ => ?_) ht
  subst ex
  obtain rfl : u = Value.ref a := rx
  refine getmeth_ok I1 ea c hm l ?_
  exact PySem.W.callWith_K0 (first := [.ref a]) I1.kIn hm.kp (run_fn (us := [.ref a]) (vs := [.ref a]) F hr hb hd hx I1 (.cons rfl .nil) q)

/-- what a class must have to be made -/
structure Mk (K : PySem.W.Frag) (C f : Addr) : Prop where
  makes : PySem.W.makesIn K C = true
  init : PySem.W.findIn K (.ref C) "__init__" = some (some (.ref f))
  fn : PySem.W.isFn K (.ref f) = true
  kp : PySem.W.keepIn K (.ref C) = true

theorem run_make {pins : List (Addr × Obj)} {σ : St} {H : Hp} {s : Shared} {Q : VK} {us : List Value} {vs : List V} (M : Mk X.K C f) (F : FnOk X.prog X.w X.K X.mg X.base CX k f fd ps sp) (hr : Room (k + 1) X.A) (hb : Binds X.K fd ps ds) (hd : Vals dvs ds)
    (hx : Passes CX X E) (I : Inv X pins σ H s) (r : Vals vs us)
    (h : ∀ x dx, H x = none → H dx = none → dx ≠ x → sp (.ref x :: (vs ++ dvs)) (upd (upd H dx (.own x)) x (.ins C dx [])) (fun v H2 => v = .non ∧ Q (.ref x) H2) E) :
    wpAny (model X.prog X.w) X.A (call (.ref C) us) (EP X pins σ Q) X.xe s := by
  have hq := h (s.heap.objs.size + 1) s.heap.objs.size (I.hok.fresh (Nat.le_succ _)) (I.hok.fresh (Nat.le_refl _)) (Nat.ne_of_lt (Nat.lt_succ_self _))
  have I2 := Inv.made (C := C) I
  have r2 : Vals (V.ref (s.heap.objs.size + 1) :: (vs ++ dvs)) (Value.ref (s.heap.objs.size + 1) :: (us ++ ds)) := .cons rfl (r.append hd)
  have hl : (Value.ref (s.heap.objs.size + 1) :: us ++ ds).length = ps.length := by
    have e := r2.length
    rw [F.len _ _ _ _ hq] at e
    exact e.symm
  refine wpAny_call (make_map (f := f) I.kIn M.makes M.init (beq_iff_eq.mp M.fn) (codeAny_mono (F.run _ X.stack _ _ ⟨Value.ref (s.heap.objs.size + 1) :: us, []⟩ (Value.ref (s.heap.objs.size + 1) :: (us ++ ds)) _ _ E (hr.make C us [])
    (I2.env0.make C us []) (hb _ (Value.ref (s.heap.objs.size + 1) :: us) I2.kIn hl) r2 hq) fun r s' hq' => ?_))
  cases r with
  | error e => exact hx pins σ _ _ e s' I2 hq'
  | ok fl =>
    cases fl with
    | ret u =>
      obtain ⟨v, H', I3, rv, ev, q3⟩ := I2.after hq'
      subst ev
      exact ⟨rv, ⟨V.ref (s.heap.objs.size + 1), H', I3, rfl, q3⟩⟩
    | next => exact False.elim hq'
    | brk => exact False.elim hq'
    | cont => exact False.elim hq'
theorem pe_make (M : Mk X.K C f) (F : FnOk X.prog X.w X.K X.mg X.base CX k f fd ps sp) (hr : Room (k + 1) X.A) (hg : Gl X x) (hm : X.mg x = some (.ref C)) (hb : Binds X.K fd ps ds) (hd : Vals dvs ds) (hx : Passes CX X E)
    (ha : PA X (e :: es) t) (hdb : (x == ("__debug__" : Str)) = false := by decide) (he : starEach (e :: es) X.env = (false, eval e X.env) :: starEach es X.env := by rfl) (hpl : (backTo pos (starEach es X.env)).any (·.1) = false := by rfl) :
    PE X (.Call (.Name x p) (e :: es) [] pos) (tMake C sp dvs E t) := by
  intro pins s σ H Q I h
  refine wpAny_Call_Name_kw (ld_glob I hg hm ?_ hdb)
  refine PySem.W.callWith_K (h₀ := X.base) I.ok.mod.kin M.kp (thn (ha pos pins s σ H _ I h) fun us s1 ⟨vs, H1, I1, r, q⟩ => ⟨I1.kIn, ?_⟩) he hpl
  exact run_make M F hr hb hd hx I1 r q
end

/-! ### keywords -/
/-- the values of the keywords, from the left -/
def PK (X : Cx) (kws : List Keyword) (t : TA) : Prop :=
  ∀ (pos : Pos) (pins : List (Addr × Obj)) (s : Shared) (σ : St) (H : Hp) (Q : List V → Hp → Prop), Inv X pins σ H s → t σ H Q → wpAny (model X.prog X.w) X.A (evalAll ((backToKw pos (keywordEach kws X.env)).map (·.2))) (AP X pins σ Q) X.xe s
section
variable {X : Cx} {CX : CXT} {k : Nat} {f C : Addr} {fd : FuncData} {ps ks : List Str} {sp : Sp} {E : XK} {x m : Str} {p pos apos kpos : Pos} {e o : Expr} {es : List Expr} {kws : List Keyword} {te ta : TE} {t tk : TA} {nm : Option Str}
/-- how a call with keywords binds: g puts the positional values us and the keywords' values ws (names ks) in the parameters' order, defaults among them -/
structure KBinds (K : PySem.W.Frag) (fd : FuncData) (ps ks : List Str) (g : List Value → List Value → List Value) (gV : List V → List V → List V) : Prop where
  to : ∀ (s : Shared) (us ws : List Value), K.In s.heap → (g us ws).length = ps.length → BindsTo s fd ⟨us, ks.zip ws⟩ (ps.zip (g us ws))
  rel : ∀ {vs : List V} {us : List Value} {zs : List V} {ws : List Value}, Vals vs us → Vals zs ws → Vals (gV vs zs) (g us ws)
def tCallK (sp : Sp) (gV : List V → List V → List V) (E : XK) (t tk : TA) : TE := fun σ H Q => t σ H fun vs H1 => tk σ H1 fun zs H2 => sp (gV vs zs) H2 Q E
variable {g : List Value → List Value → List Value} {gV : List V → List V → List V}
end

/-! ### a def's body keeps its promise -/
/-- names: the parameters first -/
structure FnScope (N P : List Str) (sc : Scope) : Prop where
  kind : sc.kind = .function
  co : sc.isCoroutine = false
  gen : sc.isGenerator = false
  nd : N.Nodup
  pre : N.take P.length = P
  par : ∀ x ∈ P, sc.names.lookup x = some .local ∨ sc.names.lookup x = some .cell
  nofree : ∀ y ∈ sc.names, y.2 ≠ .free

theorem bindL_out {kindOf : Str → Option NameKind} {x : Str} : ∀ {binds : List (Str × Value)} {m : Str → Option Value}, (∀ v, (x, v) ∉ binds) → bindL kindOf binds m x = m x
  | [], _, _ => rfl
  | (n, v) :: r, m, h => by
    unfold bindL
    rw [bindL_out fun w hw => h w (List.mem_cons_of_mem _ hw)]
    split
    · have : x ≠ n := by rintro rfl; exact h v List.mem_cons_self
      simp [this]
    · rfl
theorem bindC_out {kindOf : Str → Option NameKind} {x : Str} : ∀ {binds : List (Str × Value)} {m : Str → Option Value}, (∀ v, (x, v) ∉ binds) → bindC kindOf binds m x = m x
  | [], _, _ => rfl
  | (n, v) :: r, m, h => by
    unfold bindC
    rw [bindC_out fun w hw => h w (List.mem_cons_of_mem _ hw)]
    split
    · rfl
    · have : x ≠ n := by rintro rfl; exact h v List.mem_cons_self
      simp [this]
theorem bindL_get {kindOf : Str → Option NameKind} {x : Str} {v : Value} : ∀ {P : List Str} {vs : List Value} {i : Nat} {m : Str → Option Value}, P.Nodup → P[i]? = some x → vs[i]? = some v → kindOf x = some .local →
    bindL kindOf (P.zip vs) m x = some v
  | [], _, _, _, _, h, _, _ => by simp at h
  | _ :: _, [], _, _, _, _, h, _ => by simp at h
  | p :: P, w :: vs, 0, m, nd, h1, h2, hk => by
    simp at h1 h2; subst h1; subst h2
    show bindL kindOf ((p, w) :: P.zip vs) m p = _
    unfold bindL
    rw [bindL_out fun v hv => (List.nodup_cons.mp nd).1 (List.of_mem_zip hv).1, if_pos hk]
    simp
  | p :: P, w :: vs, i + 1, m, nd, h1, h2, hk => by
    show bindL kindOf ((p, w) :: P.zip vs) m x = _
    unfold bindL
    exact bindL_get (i := i) (List.nodup_cons.mp nd).2 (by simpa using h1) (by simpa using h2) hk
theorem bindC_get {kindOf : Str → Option NameKind} {x : Str} {v : Value} : ∀ {P : List Str} {vs : List Value} {i : Nat} {m : Str → Option Value}, P.Nodup → P[i]? = some x → vs[i]? = some v → kindOf x ≠ some .local →
    bindC kindOf (P.zip vs) m x = some v
  | [], _, _, _, _, h, _, _ => by simp at h
  | _ :: _, [], _, _, _, _, h, _ => by simp at h
  | p :: P, w :: vs, 0, m, nd, h1, h2, hk => by
    simp at h1 h2; subst h1; subst h2
    show bindC kindOf ((p, w) :: P.zip vs) m p = _
    unfold bindC
    rw [bindC_out fun v hv => (List.nodup_cons.mp nd).1 (List.of_mem_zip hv).1, if_neg hk]
    simp
  | p :: P, w :: vs, i + 1, m, nd, h1, h2, hk => by
    show bindC kindOf ((p, w) :: P.zip vs) m x = _
    unfold bindC
    exact bindC_get (i := i) (List.nodup_cons.mp nd).2 (by simpa using h1) (by simpa using h2) hk

/-- the names' values at the entry -/
def start (N : List Str) (vs : List V) : St := vs.map some ++ List.replicate (N.length - vs.length) none

/-- the context of a def's body, at its entry; an exception leaves the frame, then lies as CX says -/
def cxOf (CX : CXT) (P : Program) (w : World) (K : PySem.W.Frag) (mg : Str → Option Value) (base : Heap) (N : List Str) (qual : Str) (scope : Scope) (f : Addr) (cd : Value) (A : Around) (outer : List Env) (s : Shared) (H : Hp) (E : XK) : Cx where
  prog := P
  w := w
  K := K
  mg := mg
  base := base
  A := A.deeper (envOfC qual scope s.heap.objs.size f cd)
  N := N
  s₀ := s
  H₀ := H
  env := envOfC qual scope s.heap.objs.size f cd
  outer := outer
  stack := envOfC qual scope s.heap.objs.size f cd :: outer
  ex := []
  calm := true
  fn := fun _ => true
  pn := []
  xe := fun e s' => wpAny (model P w) (A.deeper (envOfC qual scope s.heap.objs.size f cd)) (leaving (envOfC qual scope s.heap.objs.size f cd) e) (fun _ s'' => CX outer H s E e s'') (fun e' s'' => CX outer H s E e' s'') s'

theorem cell_has {sc : Scope} {n : Nat} {x : Str} (h : sc.names.lookup x = some .cell) : ∃ c, (cellsFrom n sc.names []).lookup x = some c := by
  have q := PySem.W.cellsFrom_some sc.names n [] (.inl h)
  exact Option.isSome_iff_exists.mp q

theorem inv_start {CX : CXT} {P : Program} {w : World} {K : PySem.W.Frag} {mg : Str → Option Value} {base : Heap} {N ps : List Str} {qual : Str} {scope : Scope} {f : Addr} {cd : Value} {A : Around} {outer : List Env} {s s1 : Shared} {H : Hp} {E : XK} {us : List Value} {vs : List V}
    (S : FnScope N ps scope) (hd : A.handled = none) (e0 : Env0 P w K mg base A outer s H) (hl : vs.length = ps.length) (r : Vals vs us)
    (x : InCallC s s.heap.objs.size (bindL (envOfC qual scope s.heap.objs.size f cd).kindOf (ps.zip us) fun _ => none) (cellsFrom (s.heap.objs.size + 1) scope.names []) (bindC (envOfC qual scope s.heap.objs.size f cd).kindOf (ps.zip us) fun _ => none) s1) :
    Inv (cxOf CX P w K mg base N qual scope f cd A outer s H E) [] (start N vs) H s1 := by
  have hpl : ps.length ≤ N.length := by have := congrArg List.length S.pre; rw [List.length_take] at this; omega
  obtain ⟨h1, tk, rfl, hk⟩ := x.done
  have noA : ∀ b : Addr, b ∉ (cxOf CX P w K mg base N qual scope f cd A outer s H E).ex := fun b z => absurd (show b ∈ ([] : List Addr) from z) (by simp)
  refine ⟨⟨e0.mod, S.kind, rfl, rfl, Nat.le_refl _, fun y z c h1 h2 => ?_, fun y hy => ?_, fun y c _ h => ?_, fun _ => hd, Around.frames_deeper e0.frames, .inr ⟨rfl, rfl⟩, fun b z => absurd z (noA b), e0.bs, e0.bsz, fun b _ _ => noA b, fun b z => absurd z (noA b), e0.funs, e0.frf⟩,
    rfl, e0.bare, Un.kept hk, ⟨_, x.toInCall.ns, fun i y v h1 h2 h3 => ?_⟩, fun y c h => ⟨_, x.cell y c h⟩, e0.hok.fresh (Nat.le_refl _), fun y c h => ?_, fun p hp => absurd (show p ∈ ([] : List (Addr × Obj)) from hp) (by simp), e0.hok.kept hk, ?_⟩
  · exact name_of_addr x.apart (PySem.mem_of_lookup h1) (PySem.mem_of_lookup h2)
  · have hy : scope.names.lookup y = some .cell ∨ scope.names.lookup y = some .free := hy
    rcases hy with hy | hy
    · exact cell_has hy
    · exact absurd rfl (S.nofree _ (PySem.mem_of_lookup hy))
  · exact Nat.le_of_lt (x.above y c (PySem.mem_of_lookup h))
  · have hi : i < vs.length := by
      unfold start at h2
      by_cases hi : i < vs.length
      · exact hi
      · rw [List.getElem?_append_right (by simpa using hi)] at h2
        rw [List.getElem?_replicate] at h2
        split at h2 <;> cases h2
    have ha : vs[i]? = some v := by
      unfold start at h2
      rw [List.getElem?_append_left (by simpa using hi), List.getElem?_map] at h2
      cases e : vs[i]? with
      | none => rw [e] at h2; cases h2
      | some a => rw [e] at h2; cases h2; rfl
    obtain ⟨u, hu, rv⟩ := r.get ha
    have hp : ps[i]? = some y := by
      rw [← S.pre, List.getElem?_take_of_lt (by omega)]; exact h1
    have ndP : ps.Nodup := by rw [← S.pre]; exact S.nd.sublist (List.take_sublist _ _)
    refine ⟨u, rv, ?_⟩
    rcases S.par y (List.mem_of_getElem? hp) with k | k
    · exact .inl ⟨k, bindL_get ndP hp hu k⟩
    · obtain ⟨c, e⟩ := cell_has (n := s.heap.objs.size + 1) k
      refine .inr ⟨.inl k, c, e, ?_⟩
      have q := x.cell y c e
      rw [bindC_get ndP hp hu (by show scope.names.lookup y ≠ _; rw [k]; decide)] at q
      exact q
  · exact e0.hok.fresh (Nat.le_of_lt (x.above y c (PySem.mem_of_lookup h)))
  · unfold start
    show _ = N.length
    rw [List.length_append, List.length_map, List.length_replicate]
    omega

/-- THE RULE: a def (or a method) of the text, by its body. The body's reading t is chosen for each entry; it is run at the parameters' values -/
theorem fn_of {CX : CXT} {P : Program} {w : World} {K : PySem.W.Frag} {mg : Str → Option Value} {base : Heap} {k : Nat} {f : Addr} {name qual : Str} {params : Arguments} {body : List Stmt} {scope : Scope} {dV kV doc pm cdv ct oc : Value} {an od : Option Addr}
    {osl : Array (Option Value)} {N ps : List Str} {sp : Sp} (lk : K.lookup f = some ⟨oc, od, .func (PySem.W.fnOf name qual params body scope dV kV doc pm an cdv ct), osl⟩) (hcd : PySem.W.codeIn K cdv qual = true) (S : FnScope N ps scope)
    (len : ∀ vs H Q E, sp vs H Q E → vs.length = ps.length)
    (hbody : ∀ (A : Around) (outer : List Env) (s : Shared) (H : Hp) (vs : List V) (Q : VK) (E : XK), Room k (A.deeper (envOfC qual scope s.heap.objs.size f cdv)) → sp vs H Q E →
      ∃ t, PSs (cxOf CX P w K mg base N qual scope f cdv A outer s H E) body t ∧ t { nx := fun _ H' => Q .non H', rt := Q } (start N vs) H) :
    FnOk P w K mg base CX (k + 1) f (PySem.W.fnOf name qual params body scope dV kV doc pm an cdv ct) ps sp := by
  refine ⟨len, fun A outer s H args us vs Q E hr e0 hb r hsp => ?_⟩
  have hl := len _ _ _ _ hsp
  have KX : K.In s.heap := e0.mod.kin.keeps fun b o e => (e0.bs b o e).1
  have lim : s.heap.NoLimit := e0.mod.nolimit.keeps fun b o e => (e0.bs b o e).1
  have hkind : ∀ y ∈ ps.zip us, scope.names.lookup y.1 = some .local ∨ (scope.names.lookup y.1 = some .cell ∧ ((cellsFrom (s.heap.objs.size + 1) scope.names []).lookup y.1).isSome = true) := fun ⟨n, v⟩ hy => by
    rcases S.par n (List.of_mem_zip hy).1 with q | q
    · exact .inl q
    · exact .inr ⟨q, PySem.W.cellsFrom_some _ _ _ (.inl q)⟩
  refine codeAny_call_function hr.depth (KX _ _ lk) rfl S.co S.gen rfl (PySem.W.codeRec_of KX hcd) (hb _ _ _ _ ?_)
  refine wpAny_newFunctionEnv_cells S.kind hkind fun env he s1 x => ?_
  subst he
  refine ⟨lim.keeps x.toInCall.keep, codeAny_func ?_⟩
  obtain ⟨t, ht, hq⟩ := hbody A outer s H vs Q E (hr.deeper _) hsp
  have I : Inv (cxOf CX P w K mg base N qual scope f cdv A outer s H E) [] (start N vs) H s1 := inv_start S hr.hd e0 hl r x
  refine wpAny_mono (ht [] s1 (start N vs) H _ I hq) (fun fl s' hs => ?_) fun e s' hs => hs
  have fin : ∀ {σ' : St} {H' : Hp} {v : V} {u : Value}, Inv (cxOf CX P w K mg base N qual scope f cdv A outer s H E) [] σ' H' s' → RelV v u → Q v H' → CE outer P w H s Q u s' :=
    fun {σ' H' v u} J rv q => ⟨v, H', J.os, J.bare, J.base, J.hok, rv, q⟩
  cases fl with
  | ret u =>
    obtain ⟨v, σ', H', J, rv, q⟩ := hs
    exact fin J rv q
  | next =>
    obtain ⟨σ', H', J, q⟩ := hs
    exact fin (v := V.non) (u := Value.none) J rfl q
  | brk =>
    obtain ⟨_, _, _, q⟩ := hs
    exact False.elim q
  | cont =>
    obtain ⟨_, _, _, q⟩ := hs
    exact False.elim q
end L2

namespace L2
open PySem PySem.Spec PyProof.Rows
section
variable {X : Cx} {x : Str} {p pos : Pos} {e : Expr} {es : List Expr} {t : TA} {id T : String} {r : List V → Hp → VK → Prop}

def tCB (r : List V → Hp → VK → Prop) (t : TA) : TE := fun σ H Q => t σ H fun vs H1 => r vs H1 Q
/-- f(e, ..), f a built-in function -/
theorem pe_callB (hc : CallR X (.builtin id) r) (hg : Gl X x) (hm : X.mg x = none) (hv : bootBuiltins x = some (.builtin id)) (ha : PA X (e :: es) t) (hn : x ≠ "__name__" := by decide) (hdb : (x == ("__debug__" : Str)) = false := by decide)
    (he : starEach (e :: es) X.env = (false, eval e X.env) :: starEach es X.env := by rfl) (hpl : (backTo pos (starEach es X.env)).any (·.1) = false := by rfl) : PE X (.Call (.Name x p) (e :: es) [] pos) (tCB r t) := by
  intro pins s σ H Q I h
  refine wpAny_Call_Name_kw (ld_blt I hg hm hv ?_ hn hdb)
  exact PyProof.Rows.callWith_builtin1 (thn (ha pos pins s σ H _ I h) fun us s1 ⟨vs, H1, I1, r1, q1⟩ => hc pins s1 σ H1 vs us Q I1 r1 q1) he hpl
/-- T(e, ..), T a built-in type -/
theorem pe_callTy (hc : CallR X (.type T) r) (hg : Gl X x) (hm : X.mg x = none) (hv : bootBuiltins x = some (.type T)) (ha : PA X (e :: es) t) (hn : x ≠ "__name__" := by decide) (hdb : (x == ("__debug__" : Str)) = false := by decide)
    (he : starEach (e :: es) X.env = (false, eval e X.env) :: starEach es X.env := by rfl) (hpl : (backTo pos (starEach es X.env)).any (·.1) = false := by rfl) : PE X (.Call (.Name x p) (e :: es) [] pos) (tCB r t) := by
  intro pins s σ H Q I h
  refine wpAny_Call_Name_kw (ld_blt I hg hm hv ?_ hn hdb)
  exact PyProof.Rows.callWith_type1 (thn (ha pos pins s σ H _ I h) fun us s1 ⟨vs, H1, I1, r1, q1⟩ => hc pins s1 σ H1 vs us Q I1 r1 q1) he hpl
end
end L2

namespace HT
open PySem PyProof.Rows

/-- t < u of tuples of ints -/
def lexLt : List Int → List Int → Bool
  | [], [] => false
  | [], _ :: _ => true
  | _ :: _, [] => false
  | x :: xs, y :: ys => if x = y then lexLt xs ys else decide (x < y)
section
open PySem.SeqAt
open PySem.AutoSeq1 (wpAny_loadPart')
open PySem.MeetsSeq PySem.MeetsSeq2 PySem.MeetsSeq3

end

section
variable {prog : Program} {w : World} {A : Around} {E : Value → Shared → Prop} {s : Shared}

/-! ### t[a:b], not the whole -/
/-- a slice's bound as a place among n (d where it is left out) -/
def sIx (n d : Nat) : Option Int → Nat
  | none => d
  | some v => if v < 0 then (v + (n : Int)).toNat else min v.toNat n
theorem sIx_none (n d : Nat) : sIx n d none = d := rfl
theorem sIx_nat (n d k : Nat) : sIx n d (some (k : Int)) = min k n := by
  show (if (k : Int) < 0 then ((k : Int) + (n : Int)).toNat else min (k : Int).toNat n) = min k n
  rw [if_neg (by omega), Int.toNat_natCast]
end
end HT

namespace L2
open PySem PySem.Spec PyProof.Rows

/-! ### the parts of a slice -/
abbrev TO := St → Hp → (Option Int → Hp → Prop) → Prop
/-- a slice's part (left out, or an int) -/
def PO (X : Cx) (e : Option Expr) (t : TO) : Prop :=
  ∀ (pins : List (Addr × Obj)) (s : Shared) (σ : St) (H : Hp) (Q : Option Int → Hp → Prop), Inv X pins σ H s → t σ H Q →
    wpAny (model X.prog X.w) X.A (evalPart e X.env) (fun u s' => ∃ o H', Inv X pins σ H' s' ∧ IsPart u o ∧ Q o H') X.xe s
def tNoPart : TO := fun _ H Q => Q none H
def tPart (t : TE) : TO := fun σ H Q => t σ H fun x H1 => ∃ i, x = .int i ∧ Q (some i) H1

section
variable {X : Cx} {e : Expr} {te : TE} {lo hi : Option Expr} {tl th : TO} {pos p2 : Pos}

theorem po_none : PO X none tNoPart := by
  intro pins s σ H Q I h
  rw [evalPart_none]
  exact wpAny_pure ⟨none, H, I, .none, h⟩
theorem po_some (h : PE X e te) : PO X (some e) (tPart te) := by
  intro pins s σ H Q I hw
  rw [evalPart_some]
  refine thn (h pins s σ H _ I hw) fun u s1 ⟨x, H1, I1, r1, q1⟩ => ?_
  obtain ⟨i, rfl, q⟩ := q1
  obtain ⟨t, rfl⟩ := r1
  exact ⟨some i, H1, I1, .int i t, q⟩

/-- what a slice of a value is, by values: the slice object stands at sl -/
def SlR (X : Cx) (r : V → Option Int → Option Int → Hp → VK → Prop) : Prop :=
  ∀ (pins : List (Addr × Obj)) (s : Shared) (σ : St) (H : Hp) (x : V) (v vl vu : Value) (lo hi : Option Int) (sl : Addr) (Q : VK), Inv X pins σ H s → RelV x v → s.heap.IsSliceOf sl vl vu .none → IsPart vl lo → IsPart vu hi → r x lo hi H Q →
    ∃ T id, typeLookup (.type T) "__getitem__" = pure (some (.builtin id)) ∧ s.TypeIs v T ∧ wpAny (model X.prog X.w) X.A (getItem v (.ref sl)) (EP X pins σ Q) X.xe s
def tSl (r : V → Option Int → Option Int → Hp → VK → Prop) (te : TE) (tl th : TO) : TE := fun σ H Q => te σ H fun x H1 => tl σ H1 fun l H2 => th σ H2 fun u H3 => r x l u H3 Q
/-- a[lo:hi], any a -/
theorem pe_slice {r : V → Option Int → Option Int → Hp → VK → Prop} (hr : SlR X r) (he : PE X e te) (hl : PO X lo tl) (hu : PO X hi th) : PE X (.Subscript e (.Slice lo hi none p2) pos) (tSl r te tl th) := by
  intro pins s σ H Q I h
  refine Subscript_ (thn (he pins s σ H _ I h) fun v s1 ⟨x, H1, I1, r1, q1⟩ => ?_)
  refine wpAny_Slice (thn (hl pins s1 σ H1 _ I1 q1) fun vl s2 ⟨l, H2, I2, pl, q2⟩ => thn (hu pins s2 σ H2 _ I2 q2) fun vu s3 ⟨u, H3, I3, pu, q3⟩ => ?_)
  rw [evalPart_none]
  refine wpAny_pure ?_
  have I4 : Inv X pins σ H3 { s3 with heap := s3.heap.push { cls := .type "slice", data := .fields #[vl, vu, .none] } } := I3.kept (t' := s3.toks) fun b ob q => Heap.get?_push_of_some _ q
  obtain ⟨T, id, hT, ht, hg⟩ := hr pins { s3 with heap := s3.heap.push { cls := .type "slice", data := .fields #[vl, vu, .none] } } σ H3 x v vl vu l u s3.heap.objs.size Q I4 r1 (Heap.IsSliceOf.new ..) pl pu q3
  show wpAny (model X.prog X.w) X.A (subscriptTail e (.Slice lo hi none p2) v (.ref s3.heap.objs.size)) (EP X pins σ Q) X.xe { s3 with heap := s3.heap.push { cls := .type "slice", data := .fields #[vl, vu, .none] } }
  exact tail_any (ops := [.ref s3.heap.objs.size, v]) ht hT hg (by with_unfolding_all rfl)

/-- the items of xs[lo:hi] -/
def cutV (xs : List V) (lo hi : Option Int) : List V := (xs.drop (HT.sIx xs.length 0 lo)).take (HT.sIx xs.length xs.length hi - HT.sIx xs.length 0 lo)
theorem cutV_length (xs : List V) (lo hi : Option Int) : (cutV xs lo hi).length ≤ xs.length := by
  unfold cutV
  rw [List.length_take, List.length_drop]
  omega
/-- t[lo:hi], not the whole of it (the whole would be t itself) -/
def rSlT (K : PySem.W.Frag) : V → Option Int → Option Int → Hp → VK → Prop := fun x lo hi H Q => ∃ a xs, x = .ref a ∧ SqT K H a xs ∧
  ¬ (HT.sIx xs.length 0 lo = 0 ∧ HT.sIx xs.length xs.length hi = xs.length) ∧ ∀ p, H p = none → Q (.ref p) (upd H p (.tup (cutV xs lo hi)))
/-! ### t < u, t + u -/
def rLtT (K : PySem.W.Frag) : R2 := fun x y H Q => ∃ a b ns ms, x = .ref a ∧ y = .ref b ∧ SqT K H a (ns.map V.int) ∧ SqT K H b (ms.map V.int) ∧ Q (.bl (HT.lexLt ns ms)) H
/-- t + u, t not empty: u empty gives t itself -/
def rCatT (K : PySem.W.Frag) : R2 := fun x y H Q => ∃ a b xs ys, x = .ref a ∧ y = .ref b ∧ SqT K H a xs ∧ SqT K H b ys ∧ xs ≠ [] ∧ xs.length + ys.length ≤ sizeLine ∧
  (ys = [] → Q (.ref a) H) ∧ (ys ≠ [] → ∀ p, H p = none → Q (.ref p) (upd H p (.tup (xs ++ ys))))
end
end L2

namespace L2
open PySem PySem.Spec PyProof.Rows

/-! ### places -/
/-- the place that an index of any sign means -/
def ixN (n : Nat) (i : Int) : Option Nat := if 0 ≤ i then (if i < n then some i.toNat else none) else if -(n : Int) ≤ i then some (i + n).toNat else none
def atI {α : Type} (xs : List α) (i : Int) : Option α := (ixN xs.length i).bind fun j => xs[j]?
theorem ixN_seq {n : Nat} {i : Int} {j : Nat} (h : ixN n i = some j) : seqIndex? i n = some j ∧ j < n ∧ -(n : Int) ≤ i ∧ i < n := by
  unfold ixN at h
  by_cases h0 : 0 ≤ i
  · rw [if_pos h0] at h
    by_cases h1 : i < n
    · rw [if_pos h1] at h
      have e : i.toNat = j := Option.some.inj h
      exact ⟨by rw [seqIndex_of h0 h1, e], by omega, by omega, h1⟩
    · rw [if_neg h1] at h; cases h
  · rw [if_neg h0] at h
    by_cases h1 : -(n : Int) ≤ i
    · rw [if_pos h1] at h
      have e : (i + n).toNat = j := Option.some.inj h
      exact ⟨by rw [seqIndex_neg (by omega) h1, e], by omega, h1, by omega⟩
    · rw [if_neg h1] at h; cases h
theorem atI_get {α : Type} {xs : List α} {i : Int} {v : α} (h : atI xs i = some v) : ∃ j, seqIndex? i xs.length = some j ∧ xs[j]? = some v ∧ j < xs.length ∧ -(xs.length : Int) ≤ i ∧ i < xs.length := by
  unfold atI at h
  cases e : ixN xs.length i with
  | none => rw [e] at h; cases h
  | some j =>
    rw [e] at h
    obtain ⟨h1, h2, h3, h4⟩ := ixN_seq e
    exact ⟨j, h1, h, h2, h3, h4⟩
theorem atI_nat {α : Type} {xs : List α} {j : Nat} {v : α} (h : xs[j]? = some v) : atI xs (j : Int) = some v := by
  have hj : j < xs.length := (List.getElem?_eq_some_iff.mp h).1
  have e : ixN xs.length (j : Int) = some j := by
    unfold ixN
    rw [if_pos (by omega), if_pos (by omega)]; simp
  unfold atI; rw [e]; exact h
/-! ### what may be subscripted -/
/-- what stands as an index of a plain subscript -/
def PlainIx (b : Expr) : Prop := ∀ o i, subscripted b false o i = operate [o, i] (getItem o i)
/-- a subscript by values -/
def IxR (X : Cx) (r : R2) : Prop :=
  ∀ (value slice : Expr) (pins : List (Addr × Obj)) (s : Shared) (σ : St) (H : Hp) (x y : V) (v u : Value) (Q : VK), Inv X pins σ H s → RelV x v → RelV y u → r x y H Q →
    subscripted slice false v u = operate [v, u] (getItem v u) → wpAny (model X.prog X.w) X.A (subscriptTail value slice v u) (EP X pins σ Q) X.xe s
/-- a call of a builtin's method by values: the receiver, the arguments -/
def MtR (X : Cx) (id : String) (r : V → List V → Hp → VK → Prop) : Prop :=
  ∀ (pins : List (Addr × Obj)) (s : Shared) (σ : St) (H : Hp) (x : V) (xs : List V) (v : Value) (us : List Value) (Q : VK), Inv X pins σ H s → RelV x v → Vals xs us → r x xs H Q →
    wpAny (model X.prog X.w) X.A (call (.builtin id) (v :: us)) (EP X pins σ Q) X.xe s
section
variable {X : Cx} {a b : Expr} {ta tb : TE} {pos : Pos}
/-- a[b] -/
theorem pe_ix {r : R2} (hr : IxR X r) (ha : PE X a ta) (hb : PE X b tb) (hs : PlainIx b) : PE X (.Subscript a b pos) (tOp r ta tb) := by
  intro pins s σ H Q I h
  exact Subscript_ (binT ha hb I h fun v u s2 x y H2 I2 rx ry q => hr a b pins s2 σ H2 x y v u Q I2 rx ry q (hs _ _))

def rIxL (K : PySem.W.Frag) : R2 := fun x y H Q => ∃ p xs i v, x = .ref p ∧ y = .int i ∧ SqL K H p xs ∧ atI xs i = some v ∧ Q v H
def rIxT (K : PySem.W.Frag) : R2 := fun x y H Q => ∃ p xs i v, x = .ref p ∧ y = .int i ∧ SqT K H p xs ∧ atI xs i = some v ∧ Q v H
def rIxS : R2 := fun x y H Q => ∃ z i c, x = .str z ∧ y = .int i ∧ z.length ≤ sizeLine ∧ atI z.cps.toList i = some c ∧ Q (.str ⟨#[c]⟩) H
theorem ix_list : IxR X (rIxL X.K) := by
  intro value slice pins s σ H x y v u Q I rx ry h hs
  obtain ⟨p, xs, i, z, rfl, rfl, hq, he, q⟩ := h
  cases rx
  obtain ⟨t, rfl⟩ := ry
  obtain ⟨its, r, pl, hz⟩ := I.list hq
  obtain ⟨j, h1, h2, h3, h4, h5⟩ := atI_get he
  obtain ⟨w, ew, rw'⟩ := r.get h2
  have hl := r.length
  have hn := line63
  have fin : EP X pins σ Q w s := ⟨z, H, I, rw', q⟩
  by_cases h0 : 0 ≤ i
  · have hj : i.toNat = j := by
      rw [seqIndex_of h0 h5] at h1
      exact Option.some.inj h1
    exact item_listR pl.isList h0 (by omega) (by rw [hj]; simpa using ew) fin hs
  · have hj : (i + (its.toArray.size : Int)).toNat = j := by
      rw [seqIndex_neg (by omega) h4] at h1
      rw [List.size_toArray, ← hl]
      exact Option.some.inj h1
    exact subscriptTail_builtinR (x := w) pl.isList.typeIs slot_list_getitem.lookup
      (wpAny_getItem_list_neg (Q := fun r s' => r = w ∧ EP X pins σ Q r s') pl.isList (by omega) (by rw [List.size_toArray] <;> omega) (by omega) (by rw [hj]; simpa using ew) ⟨rfl, fin⟩) hs
theorem ix_tup : IxR X (rIxT X.K) := by
  intro value slice pins s σ H x y v u Q I rx ry h hs
  obtain ⟨p, xs, i, z, rfl, rfl, hq, he, q⟩ := h
  cases rx
  obtain ⟨t, rfl⟩ := ry
  obtain ⟨its, r, pl, hz⟩ := I.tuple hq
  obtain ⟨j, h1, h2, h3, h4, h5⟩ := atI_get he
  obtain ⟨w, ew, rw'⟩ := r.get h2
  have hl := r.length
  have hn := line63
  have fin : EP X pins σ Q w s := ⟨z, H, I, rw', q⟩
  exact subscriptTail_builtinR (x := w) pl.typeIs slot_tuple_getitem.lookup
    (getItem_tuple (j := j) (Q := fun r s' => r = w ∧ EP X pins σ Q r s') pl (by omega) (by omega) (by rw [List.size_toArray, ← hl]; exact h1) (by simpa using ew) ⟨rfl, fin⟩) hs
/-- list, tuple or str -/
def rIx (K : PySem.W.Frag) : R2 := fun x y H Q => rIxL K x y H Q ∨ rIxT K x y H Q ∨ rIxS x y H Q
/-! ### xs[i] = v, any sign -/
/-- the list's object behind a store -/
theorem mapSeq_set (its : List Value) (n j : Nat) (u : Value) : Obj.mapSeq (·.setIfInBounds j u) { cls := .type "list", data := .seq its.toArray n } = { cls := .type "list", data := .seq (its.set j u).toArray n } := by
  simp [Obj.mapSeq]
theorem Inv.lst {pins : List (Addr × Obj)} {σ : St} {H : Hp} {s : Shared} {p : Addr} {xs : List V} (I : Inv X pins σ H s) (h : H p = some (.lst xs)) :
    ∃ (its : List Value) (n : Nat), Vals xs its ∧ s.heap.get? p = some { cls := .type "list", data := .seq its.toArray n } ∧ xs.length ≤ sizeLine := by
  obtain ⟨z, its, n, r, e⟩ := I.hok p _ h
  exact ⟨its, n, r, e, z⟩
/-- the list at p is written by an update of its object -/
theorem Inv.lstUpd {pins : List (Addr × Obj)} {σ : St} {H : Hp} {s : Shared} {p : Addr} {xs ys : List V} {its its' : List Value} {n n' : Nat} {f : Obj → Obj} (I : Inv X pins σ H s) (h : H p = some (.lst xs))
    (ho : s.heap.get? p = some { cls := .type "list", data := .seq its.toArray n }) (hf : f { cls := .type "list", data := .seq its.toArray n } = { cls := .type "list", data := .seq its'.toArray n' }) (r : Vals ys its') (hz : ys.length ≤ sizeLine) (t : Nat) :
    Inv X pins σ (upd H p (.lst ys)) { s with heap := s.heap.update p f, toks := t } := by
  have e : (s.heap.update p f).get? p = some { cls := .type "list", data := .seq its'.toArray n' } := by
    rw [Heap.get?_update_self f ho (by rw [hf] <;> rfl), hf]
  refine I.write (x := p) (e := p) (by rw [h]; trivial) (.inl rfl) (fun b u hb q => (Heap.get?_update_other _ _ (Ne.symm hb)).trans q) ⟨_, e⟩ ?_
  exact ⟨hz, its', n', r, e⟩
def rSetL : V → V → V → Hp → (Hp → Prop) → Prop := fun o i v H Q => ∃ p xs k j, o = .ref p ∧ i = .int k ∧ H p = some (.lst xs) ∧ ixN xs.length k = some j ∧ Q (upd H p (.lst (xs.set j v)))
theorem set_list : PSet X rSetL := by
  intro pins s σ H o i v ov iv u Q I ro ri rv h
  obtain ⟨p, xs, k, j, rfl, rfl, hp, hj, q⟩ := h
  cases ro
  obtain ⟨t, rfl⟩ := ri
  obtain ⟨its, n, r, ho, hz⟩ := I.lst hp
  obtain ⟨h1, h2, h3, h4⟩ := ixN_seq hj
  have hl := r.length
  have hn := line63
  have I' : Inv X pins σ (upd H p (.lst (xs.set j v))) { s with heap := s.heap.update p (Obj.mapSeq (·.setIfInBounds j u)) } :=
    I.lstUpd hp ho (mapSeq_set its n j u) (r.set rv j) (by rw [List.length_set]; exact hz) s.toks
  by_cases h0 : 0 ≤ k
  · have hk : k.toNat = j := by
      rw [seqIndex_of h0 h4] at h1
      exact Option.some.inj h1
    exact PySem.W.ki_setAt ho h0 (by omega) (by rw [List.size_toArray, ← hl]; exact h4) (by rw [hk]; exact ⟨_, I', q⟩)
  · have hk : (k + (its.toArray.size : Int)).toNat = j := by
      rw [seqIndex_neg (by omega) h3] at h1
      rw [List.size_toArray, ← hl]
      exact Option.some.inj h1
    exact PySem.W.ki_setBack ho (by omega) (by rw [List.size_toArray, ← hl]; exact h3) (by omega) (by rw [hk]; exact ⟨_, I', q⟩)

/-! ### slices -/
theorem slice_bounds (lo hi : Option Int) (n : Nat) : (sliceBounds lo hi none n).1 = ((HT.sIx n 0 lo : Nat) : Int) ∧ (sliceBounds lo hi none n).2.1 = ((HT.sIx n n hi : Nat) : Int) ∧ (sliceBounds lo hi none n).2.2 = 1 := by
  refine ⟨?_, ?_, rfl⟩
  · cases lo with
    | none => simp [sliceBounds, HT.sIx]
    | some i =>
      simp only [sliceBounds, HT.sIx, Option.getD_none, show (1 : Int) > 0 by decide, if_true]
      by_cases h : i < 0
      · simp only [h, if_true] <;> omega
      · simp only [h, if_false] <;> omega
  · cases hi with
    | none => simp [sliceBounds, HT.sIx]
    | some i =>
      simp only [sliceBounds, HT.sIx, Option.getD_none, show (1 : Int) > 0 by decide, if_true]
      by_cases h : i < 0
      · simp only [h, if_true] <;> omega
      · simp only [h, if_false] <;> omega
theorem slicePick_cut (its : List Value) (lo hi : Option Int) : slicePick its.toArray lo hi none = ((its.drop (HT.sIx its.length 0 lo)).take (HT.sIx its.length its.length hi - HT.sIx its.length 0 lo)).toArray := by
  obtain ⟨h1, h2, h3⟩ := slice_bounds lo hi its.toArray.size
  unfold slicePick
  rw [h1, h2, h3]
  simp only [sliceRange_one, pick_run, List.size_toArray] <;> rfl
/-- xs[lo:hi] of a list: a new list -/
def rSlL (K : PySem.W.Frag) : V → Option Int → Option Int → Hp → VK → Prop := fun x lo hi H Q => ∃ a xs, x = .ref a ∧ SqL K H a xs ∧ ∀ p, H p = none → Q (.ref p) (upd H p (.lst (cutV xs lo hi)))
theorem sl_list : SlR X (rSlL X.K) := by
  intro pins s σ H x v vl vu lo hi sl Q I rx hs pl pu h
  obtain ⟨a, xs, rfl, hx, q⟩ := h
  cases rx
  obtain ⟨its, r, ht, hz⟩ := I.list hx
  have hlen := r.length
  refine ⟨"list", _, slot_list_getitem.lookup, ht.isList.typeIs, ?_⟩
  refine wpAny_getItem_list_slice ht.isList hs pl pu .none (by simp) ?_ (by rw [List.size_toArray] <;> omega)
  rw [slicePick_cut, ← hlen]
  refine ⟨.ref s.heap.objs.size, _, I.laid (t' := s.toks) (o := .lst (cutV xs lo hi)) (fun b ob q => Heap.get?_push_of_some _ q) (Nat.le_refl _) ?_, rfl, q _ (I.hok.fresh (Nat.le_refl _))⟩
  exact ⟨Nat.le_trans (cutV_length xs lo hi) hz, _, 0, (r.drop (HT.sIx xs.length 0 lo)).take (HT.sIx xs.length xs.length hi - HT.sIx xs.length 0 lo), Heap.get?_push_size _ rfl⟩

/-! ### in, not in: flat items -/
def flatV : V → Bool
  | .non => true
  | .bl _ => true
  | .int _ => true
  | .str _ => true
  | _ => false
/-- == of flat values -/
def eqV : V → V → Bool
  | .non, .non => true
  | .bl a, .bl b => a == b
  | .bl a, .int b => (if a then 1 else 0) == b
  | .int a, .bl b => a == (if b then 1 else 0)
  | .int a, .int b => a == b
  | .str a, .str b => a == b
  | _, _ => false
/-- the items' answers, read off the values (a value's own answer does not lean on its token) -/
def eqU (x : V) (u : Value) : Bool := match u with
  | .none => eqV .non x
  | .bool b => eqV (.bl b) x
  | .int i _ => eqV (.int i) x
  | .str z _ => eqV (.str z) x
  | _ => false
def inV (x : V) (xs : List V) : Bool := xs.any fun y => eqV y x
/-- x in a list or tuple of flat items -/
def rIn (K : PySem.W.Frag) (neg : Bool) : R2 := fun x y H Q => ∃ p xs, y = .ref p ∧ (SqL K H p xs ∨ SqT K H p xs) ∧ flatV x = true ∧ xs.all flatV = true ∧ Q (.bl (if neg then !inV x xs else inV x xs)) H
/-! ### len, list(x), tuple(x) of any list or tuple that is read -/
theorem call_len_seq : CallR X (.builtin "len") (fun xs H Q => ∃ p ys, xs = [.ref p] ∧ (SqL X.K H p ys ∨ SqT X.K H p ys) ∧ Q (.int ys.length) H) := by
  intro pins s σ H xs us Q I r h
  obtain ⟨p, ys, rfl, hq, q⟩ := h
  obtain ⟨u, rfl, rx⟩ := vals1 r
  cases rx
  have hn := line63
  rcases hq with hq | hq
  · obtain ⟨its, r', pl, hz⟩ := I.list hq
    have hlen := r'.length
    exact Calls.call_len_list pl.isList (by simp only [List.size_toArray] <;> omega) ⟨.int ys.length, H, I.tok _, ⟨s.toks + 1, by rw [List.size_toArray, hlen]⟩, q⟩
  · obtain ⟨its, r', pl, hz⟩ := I.tuple hq
    have hlen := r'.length
    exact len_tuple pl (by simp only [List.size_toArray] <;> omega) ⟨.int ys.length, H, I.tok _, ⟨s.toks + 1, by rw [List.size_toArray, hlen]⟩, q⟩
theorem call_list_of : CallR X (.type "list") (fun xs H Q => ∃ p ys, xs = [.ref p] ∧ (SqL X.K H p ys ∨ SqT X.K H p ys) ∧ ∀ l, H l = none → Q (.ref l) (upd H l (.lst ys))) := by
  intro pins s σ H xs us Q I r h
  obtain ⟨p, ys, rfl, hq, q⟩ := h
  obtain ⟨u, rfl, rx⟩ := vals1 r
  cases rx
  have fin : ∀ (its : List Value), Vals ys its → ys.length ≤ sizeLine → ∀ (h' : Heap) (c' : Nat), (∀ b o', s.heap.get? b = some o' → h'.get? b = some o') →
      h'.get? s.heap.objs.size = some { cls := .type "list", dict := none, data := .seq its.toArray c', slots := #[] } → EP X pins σ Q (.ref s.heap.objs.size) { s with heap := h' } := fun its r' hz h' c' kp e =>
    ⟨.ref s.heap.objs.size, _, I.laid (t' := s.toks) kp (Nat.le_refl _) (show ObjOk X.prog X.w _ h' _ (.lst ys) from ⟨hz, its, c', r', e⟩), rfl, q _ (I.hok.fresh (Nat.le_refl _))⟩
  rcases hq with hq | hq
  · obtain ⟨its, r', pl, hz⟩ := I.list hq
    have hlen := r'.length
    obtain ⟨o, ho, hc, n, hd⟩ := pl.isList
    exact call_list_seq p (.inl rfl) ho hc hd (fun h' c' kp e => fin its r' hz h' c' kp e) (by simp only [List.size_toArray] <;> omega)
  · obtain ⟨its, r', pl, hz⟩ := I.tuple hq
    have hlen := r'.length
    obtain ⟨o, ho, hc, n, hd⟩ := pl
    exact call_list_seq p (.inr rfl) ho hc hd (fun h' c' kp e => fin its r' hz h' c' kp e) (by simp only [List.size_toArray] <;> omega)
/-! ### the call of a builtin's method: o.m(..) -/
/-- the value is of that builtin type -/
def tyV (K : PySem.W.Frag) (T : String) (x : V) (H : Hp) : Prop := match x with
  | .str _ => T = "str"
  | .int _ => T = "int"
  | .ref p => (T = "list" ∧ ∃ xs, SqL K H p xs) ∨ (T = "tuple" ∧ ∃ o, K.lookup p = some o ∧ o.cls = .type "tuple" ∧ o.dict = none) ∨
      (T = "dict" ∧ ((∃ kvs, H p = some (.dK kvs)) ∨ ∃ kvs, H p = some (.dT kvs))) ∨ (T = "set" ∧ ∃ S n, H p = some (.set S n))
  | _ => False
theorem tyV_is {pins : List (Addr × Obj)} {σ : St} {H : Hp} {s : Shared} {T : String} {x : V} {v : Value} (I : Inv X pins σ H s) (r : RelV x v) (ty : tyV X.K T x H) :
    s.TypeIs v T ∧ ∀ a, v = .ref a → ∃ ob, s.heap.get? a = some ob ∧ ob.dict = none := by
  cases x with
  | str z =>
    obtain ⟨t, rfl⟩ := r
    cases (show T = "str" from ty)
    exact ⟨typeIs_str s z t, fun _ e => nomatch e⟩
  | int i =>
    obtain ⟨t, rfl⟩ := r
    cases (show T = "int" from ty)
    exact ⟨typeIs_int s i t, fun _ e => nomatch e⟩
  | ref p =>
    cases r
    rcases ty with ⟨rfl, xs, hq⟩ | ⟨rfl, o, hk, hc, hd⟩ | ⟨rfl, hk⟩ | ⟨rfl, S, n, hk⟩
    · obtain ⟨its, _, pl, _⟩ := I.list hq
      refine ⟨pl.isList.typeIs, fun a e => ?_⟩
      cases e
      obtain ⟨o, n, e, c, hd, _⟩ := pl
      exact ⟨o, e, hd⟩
    · refine ⟨⟨o, I.kIn p o hk, hc⟩, fun a e => ?_⟩
      cases e
      exact ⟨o, I.kIn _ o hk, hd⟩
    · have z : ∃ o, s.heap.get? p = some o ∧ o.ExactDict := by
        rcases hk with ⟨kvs, hk⟩ | ⟨kvs, hk⟩
        · obtain ⟨_, _, _, _, o, _, _, e, ex, _⟩ := I.hok p _ hk
          exact ⟨o, e, ex⟩
        · obtain ⟨_, _, _, _, o, _, _, e, ex, _⟩ := I.hok p _ hk
          exact ⟨o, e, ex⟩
      obtain ⟨o, e, ex⟩ := z
      refine ⟨⟨o, e, ex.1⟩, fun a e2 => ?_⟩
      cases e2
      exact ⟨o, e, ex.2.1⟩
    · obtain ⟨o, _, _, _, e, ex, _⟩ := I.hok p _ hk
      refine ⟨⟨o, e, ex.1⟩, fun a e2 => ?_⟩
      cases e2
      exact ⟨o, e, ex.2.1⟩
  | _ => exact False.elim ty
def tBM0 (K : PySem.W.Frag) (T : String) (r : V → List V → Hp → VK → Prop) (to : TE) : TE := fun σ H Q => to σ H fun x H1 => tyV K T x H1 ∧ r x [] H1 Q
def tBM (K : PySem.W.Frag) (T : String) (r : V → List V → Hp → VK → Prop) (to : TE) (t : TA) : TE := fun σ H Q => to σ H fun x H1 => tyV K T x H1 ∧ t σ H1 fun xs H2 => r x xs H2 Q
variable {o e : Expr} {es : List Expr} {to : TE} {t : TA} {name : Str} {apos cpos : Pos} {T id : String} {r : V → List V → Hp → VK → Prop}
theorem pe_bm0 (pa : PlainAttrs T) (slot : Slot T name id) (hty : typeOf (.builtin id) = pure (.type "method_descriptor")) (hm : MtR X id r) (ho : PE X o to)
    (hbase : attributeBase o name X.env (eval o X.env) = eval o X.env := by rfl) (hline : (apos.endLine == cpos.line) = true := by rfl) : PE X (.Call (.Attribute o name apos) [] [] cpos) (tBM0 X.K T r to) := by
  intro pins s σ H Q I h
  refine wpAny_Call_method0_late hbase hline (thn (ho pins s σ H _ I h) fun v s1 ⟨x, H1, I1, r1, ty, q1⟩ => ?_)
  obtain ⟨h1, h2⟩ := tyV_is I1 r1 ty
  exact ⟨T, id, pa, slot, hty, h1, h2, Calls.callWith_builtin rfl (PySem.evalArgs_none (hm pins s1 σ H1 x [] v [] Q I1 r1 .nil q1))⟩
theorem pe_bm (pa : PlainAttrs T) (slot : Slot T name id) (hty : typeOf (.builtin id) = pure (.type "method_descriptor")) (hm : MtR X id r) (ho : PE X o to) (ha : PA X (e :: es) t)
    (hbase : attributeBase o name X.env (eval o X.env) = eval o X.env := by rfl)
    (hfew : ((backTo cpos (starEach (e :: es) X.env)).all (fun x => !x.1) && (backToKw cpos (keywordEach [] X.env)).all (fun x => x.1.isSome)
      && decide ((e :: es).length + ([] : List Keyword).length + (if ([] : List Keyword).isEmpty then 0 else 1) < 30)) = true := by rfl)
    (hline : (apos.endLine == cpos.line) = true := by rfl) (hs : starEach (e :: es) X.env = (false, eval e X.env) :: starEach es X.env := by rfl) (hplain : (backTo cpos (starEach es X.env)).any (·.1) = false := by rfl) :
    PE X (.Call (.Attribute o name apos) (e :: es) [] cpos) (tBM X.K T r to t) := by
  intro pins s σ H Q I h
  refine wpAny_Call_method_late hbase hfew hline rfl (thn (ho pins s σ H _ I h) fun v s1 ⟨x, H1, I1, r1, ty, q1⟩ => ?_)
  obtain ⟨h1, h2⟩ := tyV_is I1 r1 ty
  refine ⟨T, id, pa, slot, hty, h1, h2, ?_⟩
  have hA := ha cpos pins s1 σ H1 _ I1 q1
  rw [hs] at hA ⊢
  refine Calls.callWith_builtin (by show (false || (backTo cpos (starEach es X.env)).any (·.1)) = false; rw [hplain] <;> rfl) (Calls.evalArgs_plain ?_)
  exact thn hA fun us s2 ⟨vs, H2, I2, r2, q2⟩ => hm pins s2 σ H2 x vs v us Q I2 r1 r2 q2
/- xs.append(e), list.index on a module's tuple .. are MtR facts of 06m -/
end
end L2

namespace L2
open PySem PySem.Spec PyProof.Rows

def MtM (X : Cx) (id : String) (r : V → List V → Hp → VK → Prop) : Prop :=
  ∀ (pins : List (Addr × Obj)) (s : Shared) (σ : St) (H : Hp) (x : V) (xs : List V) (v : Value) (us : List Value) (Q : VK), Inv X pins σ H s → RelV x v → Vals xs us → r x xs H Q →
    wpAny (model X.prog X.w) X.A (call (.builtin id) (v :: us)) (EP X pins σ Q) X.xe s

/-! ### lists of values -/
theorem Vals.one : ∀ {x : V} {us : List Value}, Vals [x] us → ∃ u, us = [u] ∧ RelV x u
  | _, _, .cons r .nil => ⟨_, rfl, r⟩
theorem Vals.two : ∀ {x y : V} {us : List Value}, Vals [x, y] us → ∃ u v, us = [u, v] ∧ RelV x u ∧ RelV y v
  | _, _, _, .cons r (.cons q .nil) => ⟨_, _, rfl, r, q⟩
theorem Vals.zero : ∀ {us : List Value}, Vals [] us → us = []
  | _, .nil => rfl
theorem Vals.dropLast {xs : List V} {us : List Value} (h : Vals xs us) : Vals xs.dropLast us.dropLast := by
  induction h with
  | nil => exact .nil
  | cons r t ih =>
    cases t with
    | nil => exact .nil
    | cons q t' => exact .cons r ih
theorem erase_last {α : Type} (l : List α) : l.eraseIdx (l.length - 1) = l.dropLast := by
  induction l with
  | nil => rfl
  | cons a r ih =>
    cases r with
    | nil => rfl
    | cons b r =>
      have e : (a :: b :: r).length - 1 = ((b :: r).length - 1) + 1 := by
        have h1 : (a :: b :: r).length = r.length + 2 := rfl
        have h2 : (b :: r).length = r.length + 1 := rfl
        omega
      rw [e, List.eraseIdx_cons_succ, ih]
      all_goals rfl
section
variable {X : Cx} {pins : List (Addr × Obj)} {σ : St} {H : Hp} {s : Shared} {l b : Addr} {xs ys zs : List V}

/-! ### the two steps: a tracked list is rewritten, a new list is laid -/
theorem Inv.lset {its its' : List Value} {n : Nat} {f : Array Value → Array Value} {t' : Nat} (I : Inv X pins σ H s) (hH : H l = some (.lst xs))
    (e : s.heap.get? l = some { cls := .type "list", data := .seq its.toArray n }) (hf : f its.toArray = its'.toArray) (hv : Vals ys its') (hz : ys.length ≤ sizeLine) :
    Inv X pins σ (upd H l (.lst ys)) { s with heap := s.heap.update l (Obj.mapSeq f), toks := t' } := by
  have q := PySem.IsL.update e f
  rw [hf] at q
  refine I.write (x := l) (e := l) (by rw [hH]; exact trivial) (.inl rfl) (fun b' u hb hu => (Heap.get?_update_other s.heap (Obj.mapSeq f) (Ne.symm hb)).trans hu) ⟨_, q⟩ ?_
  exact ⟨hz, its', _, hv, q⟩
theorem Inv.lnew {its : List Value} {t' : Nat} (I : Inv X pins σ H s) (hv : Vals ys its) (hz : ys.length ≤ sizeLine) :
    Inv X pins σ (upd H s.heap.objs.size (.lst ys)) { s with heap := s.heap.push { cls := .type "list", data := .seq its.toArray }, toks := t' } :=
  I.laid (fun _ _ q => Heap.get?_push_of_some _ q) (Nat.le_refl _) ⟨hz, its, 0, hv, Heap.get?_push_size _ rfl⟩
theorem Inv.fresh (I : Inv X pins σ H s) : H s.heap.objs.size = none := I.hok.fresh (Nat.le_refl _)
theorem Inv.lstM (I : Inv X pins σ H s) (hH : H l = some (.lst xs)) : xs.length ≤ sizeLine ∧ ∃ (its : List Value) (n : Nat), Vals xs its ∧ xs.length = its.length ∧ s.heap.get? l = some { cls := .type "list", data := .seq its.toArray n } := by
  obtain ⟨z, its, n, r, e⟩ := I.hok l _ hH
  exact ⟨z, its, n, r, r.length, e⟩

end

section
variable {X : Cx}

/-! ### methods -/
def rAppend : V → List V → Hp → VK → Prop := fun x vs H Q => ∃ l xs y, x = .ref l ∧ vs = [y] ∧ H l = some (.lst xs) ∧ xs.length < sizeLine ∧ Q .non (upd H l (.lst (xs ++ [y])))
theorem mt_append : MtM X "list.append" rAppend := by
  intro pins s σ H x vs v us Q I rx rv h
  obtain ⟨l, xs, y, rfl, rfl, hH, hz, q⟩ := h
  cases rx
  obtain ⟨u, rfl, ru⟩ := rv.one
  obtain ⟨z, its, n, r, hl, e⟩ := I.lstM hH
  refine call_meets F.slot_list_append ⟨_, e, rfl⟩ F.entry_list_append (F.args_list_append_2 _ _) (PySem.list_append l its.toArray n u (by rw [List.size_toArray]; omega)) ⟨e, ?_⟩
  refine ⟨.non, _, I.lset (its' := its ++ [u]) hH e (by simp) (r.append (.cons ru .nil)) ?_, rfl, q⟩
  rw [List.length_append, List.length_singleton]
  omega

def rExtend : V → List V → Hp → VK → Prop := fun x vs H Q => ∃ l b xs zs, x = .ref l ∧ vs = [.ref b] ∧ H l = some (.lst xs) ∧ H b = some (.lst zs) ∧ xs.length + zs.length ≤ sizeLine ∧ Q .non (upd H l (.lst (xs ++ zs)))
def rPop : V → List V → Hp → VK → Prop := fun x vs H Q => ∃ l xs y, x = .ref l ∧ vs = [] ∧ H l = some (.lst xs) ∧ xs[xs.length - 1]? = some y ∧ Q y (upd H l (.lst xs.dropLast))
theorem mt_pop : MtM X "list.pop" rPop := by
  intro pins s σ H x vs v us Q I rx rv h
  obtain ⟨l, xs, y, rfl, rfl, hH, hy, q⟩ := h
  cases rx
  have hus := rv.zero
  subst hus
  obtain ⟨z, its, n, r, hl, e⟩ := I.lstM hH
  obtain ⟨u, hu, ru⟩ := r.get hy
  have hy' : its.toArray[its.toArray.size - 1]? = some u := by
    show its.toArray[its.length - 1]? = some u
    rw [← Array.getElem?_toList, ← hl]
    exact hu
  refine call_meets F.slot_list_pop ⟨_, e, rfl⟩ F.entry_list_pop (F.args_list_pop_1 _) (MeetsSeq.list_pop_last l its.toArray n u hy' (by rw [List.size_toArray]; omega)) ⟨e, ?_⟩
  refine ⟨y, _, I.lset (its' := its.dropLast) hH e ?_ r.dropLast ?_, ru, q⟩
  · show its.toArray.eraseIdxIfInBounds (its.toArray.size - 1) = its.dropLast.toArray
    rw [List.size_toArray, List.eraseIdxIfInBounds_toArray, erase_last]
  · rw [List.length_dropLast]
    omega

def rPopAt : V → List V → Hp → VK → Prop := fun x vs H Q => ∃ l xs i k y, x = .ref l ∧ vs = [.int i] ∧ H l = some (.lst xs) ∧ -(2 ^ 63) ≤ i ∧ i < 2 ^ 63 ∧ seqIndex? i xs.length = some k ∧ xs[k]? = some y ∧ Q y (upd H l (.lst (xs.eraseIdx k)))
def rReverse : V → List V → Hp → VK → Prop := fun x vs H Q => ∃ l xs, x = .ref l ∧ vs = [] ∧ H l = some (.lst xs) ∧ Q .non (upd H l (.lst xs.reverse))
def rClear : V → List V → Hp → VK → Prop := fun x vs H Q => ∃ l xs, x = .ref l ∧ vs = [] ∧ H l = some (.lst xs) ∧ Q .non (upd H l (.lst []))
/-! ### list + list, list += list, list * int -/
def rCat : R2 := fun x y H Q => ∃ l b xs zs, x = .ref l ∧ y = .ref b ∧ H l = some (.lst xs) ∧ H b = some (.lst zs) ∧ xs.length + zs.length ≤ sizeLine ∧ ∀ p, H p = none → Q (.ref p) (upd H p (.lst (xs ++ zs)))
theorem op_cat : OpR X (binaryOp .Add) rCat := by
  intro pins s σ H x y v u Q I rx ry h
  obtain ⟨l, b, xs, zs, rfl, rfl, hH, hB, hz, q⟩ := h
  cases rx
  cases ry
  obtain ⟨z, its, n, r, hl, e⟩ := I.lstM hH
  obtain ⟨z2, its2, n2, r2, hl2, e2⟩ := I.lstM hB
  refine PySem.P.add_list e e2 ?_ (by rw [List.size_toArray, List.size_toArray]; omega)
  have ea : its.toArray ++ its2.toArray = (its ++ its2).toArray := by simp
  rw [ea]
  exact ⟨.ref _, _, I.lnew (t' := s.toks) (r.append r2) (by rw [List.length_append]; omega), rfl, q _ I.fresh⟩
/-- a list times an int (a negative one is nothing) -/
def rRep : R2 := fun x y H Q => ∃ l k xs, x = .ref l ∧ y = .int k ∧ H l = some (.lst xs) ∧ -(2 ^ 63) ≤ k ∧ k < 2 ^ 63 ∧ xs.length * k.toNat ≤ sizeLine ∧
  ∀ p, H p = none → Q (.ref p) (upd H p (.lst (List.replicate k.toNat xs).flatten))
/-! ### del xs[i] -/
end

/-! ### xs[a:b] = ys -/
section
variable {prog : Program} {w : World} {A : Around} {E : Value → Shared → Prop} {s : Shared}
end

section
variable {X : Cx}
end
end L2

namespace Att
open PySem PySem.W PySem.Calls PyProof.Rows

/-! ### the script -/
theorem ints_of_wellAll {P : Params} {h : Heap} : ∀ (ns : List Int) (vs : List Value), WellAll P h vs (ns.map WData.int) → IntsAre vs ns := by
  intro ns
  induction ns with
  | nil =>
    intro vs w
    rw [List.map_nil] at w
    cases w
    exact .nil
  | cons n ns ih =>
    intro vs w
    rw [List.map_cons] at w
    cases w with
    | cons a b =>
      cases a
      exact .cons _ _ (ih _ b)

theorem script_of {l : OpenLaw} {n : Nat} (hn : l.most = some n) {P : Params} {h : Heap} {args : List WData} {vals : List Value}
    (hpre : l.row.toRowW.claim.pre args = true) (hwl : WellAll P h vals args) :
    ∃ a vs ns, vals = [Value.ref a] ∧ args = [WData.list (ns.map WData.int)] ∧ h.get? a = some { cls := .type "list", data := .seq vs.toArray } ∧ IntsAre vs ns ∧ ns.length ≤ n := by
  have hsh : WShape.hasAll [] args [.list .int] = true := (pre_splitW hpre).1
  have hc : l.pre.holds [] { args := args } = true := (pre_splitW hpre).2
  obtain ⟨d, r, rfl, h1, h2⟩ := hasAllW_cons hsh
  obtain rfl := hasAllW_nil h2
  obtain ⟨xs, rfl, h3⟩ := hasW_list h1
  obtain ⟨ns, rfl⟩ := items_int h3
  have hlen : ns.length ≤ n := by
    unfold OpenLaw.pre at hc
    have h4 : (WTm.not (.lt (.lit (.int (n : Int))) (.len (.arg 0)))).holds [] { args := [.list (ns.map .int)] } = true := by
      have h4 := (holds_andW hc).1
      rw [hn] at h4
      exact h4
    have h5 := condW_of h4 (w_not (w_lt w_lit (w_len_list (w_arg rfl))))
    rw [List.length_map] at h5
    refine Nat.le_of_not_lt fun q => ?_
    have q' : (n : Int) < ((ns.length : Nat) : Int) := by omega
    first
      | (rw [decide_eq_true q'] at h5; exact absurd h5 (by decide))
      | (simp at h5; omega)
  cases hwl with
  | cons w1 w2 =>
    cases w2
    cases w1 with
    | list ho hall => exact ⟨_, _, ns, rfl, rfl, ho, ints_of_wellAll ns _ hall, hlen⟩

theorem post_true (l : OpenLaw) (args : List WData) : l.row.toRowW.claim.post args (.bool true) args = true :=
  postW_of (r := l.row.toRowW) (X := (true == true))
    (show WShape.has [] (.bool true) .bool = true by first | rfl | decide | simp [WShape.has, WShape.arms, WShape.armsAll])
    (show (WTm.eq .res (.lit (.bool true))).value [] { args := args, res := some (.bool true), after := args } = some (.bool (true == true)) from w_eq_bool (w_res rfl) w_lit) rfl

/-! ### the attachment: holds_open's last premise (the goal 'hc' behind k_head) from a wpAny of the law's body -/
/-- the same from a codeAny of the CALL (for a layer whose function contracts speak of calls) -/
theorem attach_call {l : OpenLaw} {n : Nat} {q : Program} {loose : List Str} {XP : (Str → Option Value) → Heap → Prop} {YP : World → Heap → Prop} {d : DefRec}
    (hn : l.most = some n) (hdf : d.params.defaults = [])
    (call : ∀ (w : World) (s₀ s₁ : Shared) (mg mb : Str → Option Value) (fa : Addr) (o : Obj) (pm cd doc : Value) (a : Addr) (vs : List Value) (ns : List Int),
      Ground q loose [] XP w s₀ mg mb s₁.heap → YP w s₁.heap →
      s₁.heap.get? fa = some o → o.data = .func (docDef d.name d.params d.body d.scope pm cd doc) → s₁.heap.CodeRec cd d.name → mg d.name = some (.ref fa) →
      s₁.heap.get? a = some { cls := .type "list", data := .seq vs.toArray } → IntsAre vs ns → ns.length ≤ n → s₁.gens = #[] →
      codeAny (model l.prog w) callerA (.call (.ref fa) ⟨[.ref a], []⟩) (fun r s' => r = .ok (.ret (.bool true)) ∧ OldK s₁.heap s'.heap ∧ s'.os = s₁.os ∧ AllBare s'.gens) s₁) :
    WalkO q loose XP YP l.row.toRowW d [] (fun f vs => PySem.call f vs) := by
  intro w s₀ s₁ mg mb G Y fa o pm cd doc dV kV ho hd hcd hD hmg hg args vals as hpre hlay hrd hwl hlo
  obtain rfl : dV = .none := Dflts.none hD hdf
  obtain rfl : kV = .none := Dflts.noKw hD
  obtain ⟨a, vs, ns, rfl, rfl, hobj, hints, hlen⟩ := script_of hn hpre hwl
  refine enter_call (codeAny_mono (call w s₀ s₁ mg mb fa o pm cd doc a vs ns G Y ho (fd_plain hd) hcd hmg hobj hints hlen hg) fun r s' hq => ?_)
  obtain ⟨rfl, h2, h3, h4⟩ := hq
  exact ⟨.inl ⟨.bool true, .bool true, [], rfl, fun _ => rfl, .bool true, post_true l _, fun _ => ⟨List.Pairwise.nil, fun _ hm => (nomatch hm)⟩⟩, h2, h3, h4⟩

/-! ### rules over ANY heap (no ledger) from facts about the written part K: the library's own take a ledger (News) for what they write -/
section
variable {prog : Program} {w : World} {A : Around} {E : Value → Shared → Prop} {s : Shared} {K : Frag}

/-! the whole heap as the ledger: makes every rule that writes through a ledger a rule over any heap -/
def noObjs (h : Heap) : Heap := { h with objs := #[] }
theorem noObjs_get (h : Heap) (b : Addr) : (noObjs h).get? b = none := by
  cases e : (noObjs h).get? b with
  | none => rfl
  | some o => exact absurd (Heap.lt_size e) (Nat.not_lt_zero _)
def ledger (h : Heap) (L d : Addr) : List (Addr × Obj) := (List.range h.objs.size).filterMap fun a => if a = L ∨ a = d then none else (h.get? a).map fun o => (a, o)
theorem mem_ledger {h : Heap} {L d a : Addr} {o : Obj} : (a, o) ∈ ledger h L d ↔ a ≠ L ∧ a ≠ d ∧ h.get? a = some o := by
  unfold ledger
  rw [List.mem_filterMap]
  constructor
  · rintro ⟨b, _, e⟩
    split at e
    · cases e
    · rename_i hb
      obtain ⟨o', ho, e'⟩ := Option.map_eq_some_iff.mp e
      cases e'
      exact ⟨fun q => hb (.inl q), fun q => hb (.inr q), ho⟩
  · rintro ⟨n1, n2, ho⟩
    refine ⟨a, List.mem_range.mpr (Heap.lt_size ho), ?_⟩
    rw [if_neg (show ¬ (a = L ∨ a = d) from fun q => q.elim n1 n2), ho] <;> rfl
theorem fr_all {h : Heap} {L : Addr} {m : Str → Option Value} (n : h.Ns L m) : Fr (noObjs h) L h m :=
  ⟨n, fun b o e => (by rw [noObjs_get] at e; cases e), Nat.zero_le _⟩
end
end Att

namespace L2
open PySem PySem.Spec PyProof.Rows

theorem vals_ints : ∀ {vs : List Value} {ns : List Int}, IntsAre vs ns → Vals (ns.map V.int) vs
  | _, _, .nil => .nil
  | _, _, .cons n t h => .cons ⟨t, rfl⟩ (vals_ints h)

/-- nothing is tracked but the script, known to the object (or it is an object of the module) -/
def Only (H : Hp) : Prop := ∀ b, H b = none ∨ ∃ o xs, H b = some (.frz o (.lst xs))

/-- THE HEAD: the law's promise, at the heap behind the top. F, the promise of the law's def, may use that base is part of the heap (so K.In base, base.Ns mainGlobals mg stand in Mod) -/
theorem law_call {P : Program} {w : World} {K : PySem.W.Frag} {mg mb : Str → Option Value} {CX : CXT} {k : Nat} {fa a : Addr} {fd : FuncData} {x : Str} {sp : Sp} {s₁ : Shared} {vs : List Value} {ns : List Int}
    (KX : K.In s₁.heap) (hns : s₁.heap.Ns mainGlobals mg) (hb : s₁.heap.Ns builtinsNs mb) (hbb : ∀ x : Str, x ≠ "__name__" → mb x = bootBuiltins x) (hlim : s₁.heap.NoLimit) (hg : s₁.gens = #[])
    (ha : s₁.heap.get? a = some { cls := .type "list", data := .seq vs.toArray }) (hi : IntsAre vs ns) (hl : ns.length ≤ sizeLine) (hr : Room k callerA)
    (F : ∀ base : Heap, K.In base → base.Ns mainGlobals mg → FnOk P w K mg base CX k fa fd [x] sp) (hbind : ∀ (s : Shared) (u : Value), BindsTo s fd ⟨[u], []⟩ [(x, u)])
    (hsp : ∀ H : Hp, Only H → SqL K H a (ns.map V.int) → sp [.ref a] H (fun v _ => v = .bl true) fun _ _ _ => False)
    (hCX : ∀ H e s', CX [] H s₁ (fun _ _ _ => False) e s' → False) :
    codeAny (model P w) callerA (.call (.ref fa) ⟨[.ref a], []⟩) (fun r s' => r = .ok (.ret (.bool true)) ∧ OldK s₁.heap s'.heap ∧ s'.os = s₁.os ∧ AllBare s'.gens) s₁ := by
  have rv := vals_ints hi
  have lenV := hi.length
  -- from an abstract heap in which nothing but the script may be tracked
  have core : ∀ H : Hp, Only H → SqL K H a (ns.map V.int) → HOk P w H s₁.heap → (∀ b, H b ≠ none → b = a) → (H a ≠ none → K.lookup a = none) →
      codeAny (model P w) callerA (.call (.ref fa) ⟨[.ref a], []⟩) (fun r s' => r = .ok (.ret (.bool true)) ∧ OldK s₁.heap s'.heap ∧ s'.os = s₁.os ∧ AllBare s'.gens) s₁ := by
    intro H hO hS hok hA hK
    have base_of : ∀ {b : Addr} {o : Obj}, s₁.heap.get? b = some o → H b = none → (hidT s₁.heap H).get? b = some o := fun e n => hidT_get e n
    have noA : ∀ {b : Addr} {o : Obj} {es : Array DictEntry} {ep : Nat}, s₁.heap.get? b = some o → o.data = .dict es ep → H b = none := fun {b o es ep} e d => by
      cases q : H b with
      | none => rfl
      | some u =>
        have e' : b = a := hA b (by rw [q]; simp)
        subst e'
        rw [ha] at e; cases e
        have d' : Data.seq vs.toArray _ = Data.dict es ep := d
        cases d'
    have nsK : ∀ {b : Addr} {m : Str → Option Value}, s₁.heap.Ns b m → (hidT s₁.heap H).Ns b m := fun {b m} ⟨o, es, ep, e, d, r⟩ => ⟨o, es, ep, base_of e (noA e d), d, r⟩
    have hKb : K.In (hidT s₁.heap H) := fun b o e => base_of (KX b o e) (by
      cases q : H b with
      | none => rfl
      | some u =>
        have e' : b = a := hA b (by rw [q]; simp)
        subst e'
        rw [hK (by rw [q]; simp)] at e; cases e)
    have hM : Mod K mg (hidT s₁.heap H) := ⟨hKb, nsK hns, ⟨mb, nsK hb, hbb⟩, let ⟨mc, h1, h2⟩ := hlim; ⟨mc, nsK h1, h2⟩⟩
    have e0 : Env0 P w K mg (hidT s₁.heap H) callerA [] s₁ H := ⟨rfl, hM, fun b o e => of_hidT e, Nat.le_of_eq (hidT_size _ _), trivial, fun b hb => absurd (show b ∈ ([] : List Addr) from hb) (by simp), hok, .of_eq hg⟩
    refine codeAny_mono ((F _ hKb (nsK hns)).run callerA [] s₁ H ⟨[.ref a], []⟩ [.ref a] [.ref a] _ _ hr e0 (hbind s₁ (.ref a)) (.cons rfl .nil) (hsp H hO hS)) fun r s' h => ?_
    cases r with
    | error e => exact (hCX H e s' h).elim
    | ok fl =>
      cases fl with
      | next => exact False.elim h
      | brk => exact False.elim h
      | cont => exact False.elim h
      | ret u =>
        obtain ⟨v, H', os, bare, un, hok', r', q⟩ := h
        have q' : v = .bl true := q
        subst q'
        obtain rfl : u = Value.bool true := r'
        refine ⟨rfl, OldK.of_keep fun b o e => ?_, os, bare⟩
        cases q : H b with
        | none => exact un.keep b o e q (by intro z; exact absurd (show b ∈ ([] : List Addr) from z) (by simp)) (by simp)
        | some u =>
          rcases hO b with z | ⟨ob, xs, z⟩
          · rw [q] at z; cases z
          · have z2 := un.frzs b ob _ z
            obtain ⟨e1, _⟩ := hok b _ z
            obtain ⟨e2, _⟩ := hok' b _ z2
            rw [e] at e1; cases e1
            exact e2
  cases hk : K.lookup a with
  | some o =>
    -- the script is one of the module's own objects
    have e := KX a o hk
    rw [ha] at e
    cases e
    refine core (fun _ => none) (fun _ => .inl rfl) (.inr ⟨_, vs.toArray, _, hk, rfl, rfl, rfl, by rw [List.size_toArray, lenV]; exact hl, by simpa using rv⟩) (fun b u z => by have z' : (none : Option HO) = some u := z; cases z') (fun b z => absurd rfl z) fun z => absurd rfl z
  | none =>
    refine core (fun b => if b = a then some (.frz { cls := .type "list", data := .seq vs.toArray } (.lst (ns.map V.int))) else none) (fun b => ?_) (.inl (.inr ⟨{ cls := .type "list", data := .seq vs.toArray }, if_pos rfl⟩)) (fun b u z => ?_) (fun b z => ?_) fun _ => hk
    · by_cases hb : b = a
      · exact .inr ⟨_, _, if_pos hb⟩
      · exact .inl (if_neg hb)
    · by_cases hb : b = a
      · have z' := (if_pos hb).symm.trans z
        cases z'
        subst hb
        exact ⟨ha, by rw [List.length_map]; exact hl, vs, _, rv, ha⟩
      · have z' := (if_neg hb).symm.trans z
        cases z'
    · by_cases hb : b = a
      · exact hb
      · exact absurd (if_neg hb) z
end L2

namespace L2
open PySem PySem.Spec PyProof.Rows

abbrev KOf {K : PySem.W.Frag} {h : Heap} (_ : K.In h) : PySem.W.Frag := K

/-- the goal that k_head leaves (case hc), from the law's promise. F gives the function object fd (K's own) once, then the promise over every base -/
theorem walk_of {l : PySem.W.OpenLaw} {n k : Nat} {q : Program} {loose : List Str} {XP : (Str → Option Value) → Heap → Prop} {YP : World → Heap → Prop} {d : DefRec} {K : Params → PySem.W.Frag} {CX : World → CXT} {sp : World → Sp} {x : Str}
    (hn : l.most = some n) (hn2 : n ≤ sizeLine) (hdf : d.params.defaults = []) (hr : Room k callerA)
    (hY : ∀ (w : World) (h : Heap), YP w h → (K w.params).In h)
    (F : ∀ (w : World) (mg : Str → Option Value) (fa : Addr) (h : Heap), (K w.params).In h → h.Ns mainGlobals mg → mg d.name = some (.ref fa) →
      ∃ fd : FuncData, (∀ (s : Shared) (u : Value), BindsTo s fd ⟨[u], []⟩ [(x, u)]) ∧
        ∀ base : Heap, (K w.params).In base → base.Ns mainGlobals mg → FnOk l.prog w (K w.params) mg base (CX w) k fa fd [x] (sp w))
    (hsp : ∀ (w : World) (H : Hp) (a : Addr) (ns : List Int), ns.length ≤ n → Only H → SqL (K w.params) H a (ns.map V.int) → sp w [.ref a] H (fun v _ => v = .bl true) fun _ _ _ => False)
    (hCX : ∀ (w : World) (H : Hp) (s : Shared) (e : Value) (s' : Shared), CX w [] H s (fun _ _ _ => False) e s' → False) :
    PySem.W.WalkO q loose XP YP l.row.toRowW d [] (fun f vs => PySem.call f vs) := by
  refine Att.attach_call hn hdf fun w s₀ s₁ mg mb fa o pm cd doc a vs ns G Y ho hd hcd hmg hobj hints hlen hg => ?_
  have KX := hY w _ Y
  obtain ⟨fd, hb, hF⟩ := F w mg fa _ KX G.T.g hmg
  exact law_call KX G.T.g G.T.b G.T.builtins G.T.nolimit hg hobj hints (Nat.le_trans hlen hn2) hr hF hb (fun H hO hS => hsp w H a ns hlen hO hS) fun H e s' => hCX w H s₁ e s'
end L2

/- THE LAST THEOREM (shape; LID, My.* are yours):
   My.Adr: a structure of the addresses that your layer names (classes, functions); My.Txt K t: a structure (Prop) of the equations over K;
   My.txt_mk : {K} {implicit addresses ..} (e1 : nsIn K mainGlobals "law" = some (some (.ref f))) (e2 : K.lookup f = some ⟨oc, od, .func (fnOf "law" "law" params body scope dV kV doc pm an cdv ct), sl⟩) (e3 : codeIn K cdv "law" = true) .. : ∃ t, My.Txt K t

set_option maxRecDepth 100000 in
set_option maxHeartbeats 0 in
theorem PySem.Challenge.cw_LID_holds : PySem.Challenge.rw_LID.Holds := by
  w_on; o_law; k_head; (case hw => w_witness2)
  k_fill
  refine L2.walk_of (l := PySem.Challenge.rw_LID) (n := 63) (k := 40) (x := "script") (CX := fun w => ..) (sp := fun _ => My.sp_law) rfl (by decide) rfl ⟨rfl, by decide, by decide⟩ (fun w h Y => PySem.W.kIn_of Y) ?F ?S ?C
  case F =>
    intro w mg fa h KX G hmg
    have T : ∃ t, My.Txt (L2.KOf KX) t := by
      dsimp only [L2.KOf]                          -- K must stand as «<heap const> w.params» for k_is
      refine' My.txt_mk ?e1 ?e2 ?e3 ..
      (case e1 => PySem.W.k_is)                    -- in the order: a name -> its address -> its object -> its parts
      (case e2 => PySem.W.k_is)
      ..
    obtain ⟨t, T⟩ := T
    have e0 := hmg.symm.trans (PySem.W.mg_of KX G T.law)
    cases e0                                       -- fa is the law's own address
    exact ⟨_, fun s u => .of_eq rfl, fun base kb nb => My.law_fn T kb nb⟩     -- if «.of_eq rfl» comes too early: refine' ⟨_, ?b, fun base kb nb => My.law_fn T kb nb⟩; exact fun s u => .of_eq rfl
  case S => exact fun w H a ns hl hO hS => ..
  case C => exact ..
(the tactic k_is has no namespace: write k_is) -/

/-! SHORT WORDS over the layer: a def of the text, its body, what a loop and a test want. -/
namespace L2
open PySem PySem.Spec PyProof.Rows

/-! ### the text by places -/
/-- the j-th statement of a class's body -/
def inClass (s : Stmt) (j : Nat) : Stmt := match s with
  | .ClassDef _ _ _ body _ _ _ _ _ _ _ => body.getD j (.Pass ⟨0, 0, 0, 0⟩)
  | _ => .Pass ⟨0, 0, 0, 0⟩
def defArgs (s : Stmt) : Arguments := match s with
  | .FunctionDef _ a _ _ _ _ _ _ _ _ => a
  | _ => { posonlyargs := [], args := [], vararg := none, kwonlyargs := [], kw_defaults := [], kwarg := none, defaults := [] }
def defBody (s : Stmt) : List Stmt := match s with
  | .FunctionDef _ _ b _ _ _ _ _ _ _ => b
  | _ => []
def defScope (s : Stmt) : Scope := match s with
  | .FunctionDef _ _ _ _ _ _ sc _ _ _ => sc
  | _ => { kind := .function, names := [], isGenerator := false, isCoroutine := false }

/-! ### no exception leaves a def -/
abbrev CX0 : CXT := fun _ _ _ _ _ _ => False
abbrev E0 : XK := fun _ _ _ => False
theorem pass0 {X : Cx} : Passes CX0 X E0 := fun _ _ _ _ _ _ _ h => h.elim

/-! ### a def (or method) of the text as it stands behind the top -/
structure Fun (K : PySem.W.Frag) (x qual : Str) (st : Stmt) (f : Addr) (fd : FuncData) : Prop where
  ex : ∃ (oc : Value) (od : Option Addr) (kV doc pm : Value) (an : Option Addr) (cdv ct : Value) (osl : Array (Option Value)),
    fd = PySem.W.fnOf x qual (defArgs st) (defBody st) (defScope st) .none kV doc pm an cdv ct ∧ K.lookup f = some ⟨oc, od, .func fd, osl⟩ ∧ PySem.W.codeIn K cdv qual = true
  kp : PySem.W.keepIn K (.ref f) = true
section
variable {P : Program} {w : World} {K : PySem.W.Frag} {mg : Str → Option Value} {base : Heap}
/-- THE RULE for a def: its body as a term of rules, and the reading of that term -/
theorem Fun.ok {x qual : Str} {st : Stmt} {f : Addr} {fd : FuncData} {N ps : List Str} {k : Nat} {sp : Sp} (F : Fun K x qual st f fd) (S : FnScope N ps (defScope st)) (len : ∀ vs H Q E, sp vs H Q E → vs.length = ps.length)
    (hbody : ∀ (cdv : Value) (A : Around) (outer : List Env) (s : Shared) (H : Hp) (vs : List V) (Q : VK) (E : XK), Room k (A.deeper (envOfC qual (defScope st) s.heap.objs.size f cdv)) → sp vs H Q E →
      ∃ t, PSs (cxOf CX0 P w K mg base N qual (defScope st) f cdv A outer s H E).nox (defBody st) t ∧ t { nx := fun _ H' => Q .non H', rt := Q } (start N vs) H) : FnOk P w K mg base CX0 (k + 1) f fd ps sp := by
  obtain ⟨oc, od, kV, doc, pm, an, cdv, ct, osl, rfl, lk, hcd⟩ := F.ex
  refine fn_of lk hcd S len fun A outer s H vs Q E hr hsp => ?_
  obtain ⟨t, h, q⟩ := hbody cdv A outer s H vs Q E hr hsp
  exact ⟨t, h.nox, q⟩
/-- how its arguments bind (no defaults): h is «fun _ _ _ _ _ _ us hl => match us, hl with | [_, _], _ => rfl», one _ a parameter -/
theorem Fun.binds {x qual : Str} {st : Stmt} {f : Addr} {fd : FuncData} {ps : List Str} (F : Fun K x qual st f fd)
    (h : ∀ (kV doc pm : Value) (an : Option Addr) (cdv ct : Value) (us : List Value), us.length = ps.length → bindArgs (PySem.W.fnOf x qual (defArgs st) (defBody st) (defScope st) .none kV doc pm an cdv ct) ⟨us, []⟩ = pure (ps.zip us)) : Binds K fd ps [] := by
  obtain ⟨oc, od, kV, doc, pm, an, cdv, ct, osl, rfl, lk, hcd⟩ := F.ex
  exact .all (h kV doc pm an cdv ct)
theorem fun_mk {x qual : Str} {st : Stmt} {f : Addr} {oc : Value} {od an : Option Addr} {osl : Array (Option Value)} {kV doc pm cdv ct : Value} (l : K.lookup f = some ⟨oc, od, .func (PySem.W.fnOf x qual (defArgs st) (defBody st) (defScope st) .none kV doc pm an cdv ct), osl⟩)
    (c : PySem.W.codeIn K cdv qual = true) (k : PySem.W.keepIn K (.ref f) = true) : Fun K x qual st f (PySem.W.fnOf x qual (defArgs st) (defBody st) (defScope st) .none kV doc pm an cdv ct) := ⟨⟨oc, od, kV, doc, pm, an, cdv, ct, osl, rfl, l, c⟩, k⟩
end
theorem small1000 {n : Nat} (h : n ≤ 1000) : n < sizeLine := Nat.lt_of_le_of_lt h (by decide)

/-! ### expressions in short: the name that stands in the i-th slot -/
section
variable {X : Cx}
theorem pv (i : Nat) {x : Str} {pos : Pos} (hN : X.N[i]? = some x := by rfl) (hv : Vis X.env.scope x := by first | exact Or.inl rfl | exact Or.inr (Or.inl rfl) | exact Or.inr (Or.inr rfl)) (hd : (x == ("__debug__" : Str)) = false := by decide)
    (hcd : (x == ("__classdict__" : Str)) = false := by decide) : PE X (.Name x pos) (tVar i) := pe_var hN hv hd hcd
end

/-! ### tests -/
theorem iteF {A B : Prop} (h : B) : if false = true then A else B := by
  rw [if_neg Bool.false_ne_true]
  exact h
theorem iteT {A B : Prop} (h : A) : if true = true then A else B := by
  rw [if_pos rfl]
  exact h
theorem ite2 {c A B : Prop} [Decidable c] (h1 : c → A) (h2 : ¬ c → B) : if c then A else B := by
  by_cases h : c
  · rw [if_pos h]
    exact h1 h
  · rw [if_neg h]
    exact h2 h
/-! ### heaps -/
/-- all that was tracked is as it was -/
def Same (H H' : Hp) : Prop := ∀ b o, H b = some o → H' b = some o
theorem Same.refl (H : Hp) : Same H H := fun _ _ h => h
theorem Same.trans {H H1 H2 : Hp} (a : Same H H1) (b : Same H1 H2) : Same H H2 := fun c o h => b c o (a c o h)
theorem Same.seq {K : PySem.W.Frag} {H H' : Hp} {a : Addr} {xs : List V} (e : Same H H') (h : SqL K H a xs) : SqL K H' a xs := by
  rcases h with (h | ⟨o, h⟩) | h
  · exact .inl (.inl (e _ _ h))
  · exact .inl (.inr ⟨o, e _ _ h⟩)
  · exact .inr h

end L2

namespace L2
open PySem PySem.Spec PyProof.Rows

section
variable {X : Cx}
/-! ### more of texts, truths, kinds -/
theorem call_isinst : CallR X (.builtin "isinstance") (fun xs H Q => ∃ x t n b, xs = [x, .ty n] ∧ TyOf X.K H x t ∧ PySem.W.kitOne X.K t (.type n) = some b ∧ Q (.bl b) H) := by
  intro pins s σ H xs us Q I r h
  obtain ⟨x, t, n, b, rfl, ty, e, q⟩ := h
  obtain ⟨u, u2, rfl, rx, r2⟩ := vals2 r
  cases (show u2 = Value.type n from r2)
  exact isinst_ok I rx ty e fun tk => ⟨.bl b, H, I.tok _, rfl, q⟩
/-- all(a list of truths) -/
theorem call_all_bl (hc : X.calm = true) : CallR X (.builtin "all") (fun xs H Q => ∃ (p : Addr) (bs : List Bool), xs = [.ref p] ∧ SqL X.K H p (bs.map V.bl) ∧ Q (.bl (bs.all id)) H) := by
  intro pins s σ H xs us Q I r h
  obtain ⟨p, bs, rfl, hq, q⟩ := h
  obtain ⟨u, rfl, rx⟩ := vals1 r
  cases (show u = Value.ref p from rx)
  obtain ⟨its, rv, pl, hz⟩ := I.list hq
  have hl := pl.isList
  have hlt : p < s.heap.objs.size := by obtain ⟨_, e, _⟩ := hl; exact Heap.lt_size e
  have hh : X.A.handled = none := I.ok.hd hc
  have hlen : bs.length = its.length := by have := rv.length; rw [List.length_map] at this; exact this
  refine call_all_walk (wpAny_pyIter_list hl ?_)
  refine ⟨s.heap.objs.size, [s.heap.objs.size, p], [s.heap.objs.size], its.toArray.size, _, _, fun i => (bs[i]?).getD true, rfl, Walks.list (A := X.A.in1) hh _ p (Nat.ne_of_lt hlt) its.toArray,
    ⟨⟨_, Heap.get?_push_size _ rfl, rfl, rfl⟩, hl.push _⟩, fun i v s' Q' E' hP hQ => ?_, fun h' tk hk => ?_⟩
  · have hP' : its[i]? = some v := by simpa using hP
    have hi : i < its.length := (List.getElem?_eq_some_iff.mp hP').1
    have hb : (bs.map V.bl)[i]? = some (V.bl (bs[i]'(by omega))) := by rw [List.getElem?_map, List.getElem?_eq_getElem (by omega)]; rfl
    obtain ⟨u', e1, e2⟩ := rv.get hb
    rw [hP'] at e1
    cases e1
    cases (show v = Value.bool _ from e2)
    have hQ' : Q' ((bs[i]?).getD true) s' := hQ
    rw [List.getElem?_eq_getElem (by omega)] at hQ'
    exact wpAny_truthy_bool hQ'
  · have e : ((List.range its.toArray.size).all fun i => (bs[i]?).getD true) = bs.all id := by
      rw [List.size_toArray, ← hlen]; exact LSm.range_all bs
    rw [e]
    exact ⟨.bl _, H, I.kept (LSm.kept_iter hk), rfl, q⟩
/-- == of two lists of flat items -/
def eqVs : List V → List V → Bool
  | [], [] => true
  | x :: xs, y :: ys => eqV x y && eqVs xs ys
  | _, _ => false
end
end L2

namespace L2
open PySem PySem.Spec PyProof.Rows
/-! ### what a comprehension's block sees of the names around it -/
def cloOf (env : Env) : List (Str × NameKind) → List (Str × Addr) → List (Str × Addr)
  | [], cs => cs
  | (n, k) :: r, cs => cloOf env r (if k == .free then match env.cells.lookup n with | some a => (n, a) :: cs | none => cs else cs)
theorem closureFor_free {scope : Scope} {env : Env} (h : ∀ y ∈ scope.names, y.2 = .free → ∃ c, env.cells.lookup y.1 = some c) : closureFor scope env = pure (cloOf env scope.names []) := by
  have key : ∀ (l : List (Str × NameKind)) (cs : List (Str × Addr)), (∀ y ∈ l, y.2 = .free → ∃ c, env.cells.lookup y.1 = some c) →
      (forIn l cs (fun (x : Str × NameKind) (r : List (Str × Addr)) => (if (x.2 == NameKind.free) = true then (do let a ← cellOf env x.1; pure (ForInStep.yield ((x.1, a) :: r))) else pure (ForInStep.yield r) : Sem (ForInStep (List (Str × Addr)))))) = (pure (cloOf env l cs) : Sem _) := by
    intro l
    induction l with
    | nil => intro cs _; rfl
    | cons y r ih =>
      intro cs hy
      obtain ⟨n, k⟩ := y
      have hr : ∀ z ∈ r, z.2 = .free → ∃ c, env.cells.lookup z.1 = some c := fun z hz => hy z (List.mem_cons_of_mem _ hz)
      rw [List.forIn_cons]
      by_cases hk : (k == NameKind.free) = true
      · obtain ⟨c, hc⟩ := hy (n, k) List.mem_cons_self (by simpa using hk)
        have e : cellOf env n = pure c := by unfold cellOf; rw [hc]
        simp only [hk, if_true, e, pure_bind, cloOf, hc]
        exact ih _ hr
      · have hk' : (k == NameKind.free) = false := by simpa using hk
        simp only [hk', Bool.false_eq_true, if_false, pure_bind, cloOf]
        exact ih _ hr
  have e : closureFor scope env = (forIn scope.names ([] : List (Str × Addr)) (fun (x : Str × NameKind) (r : List (Str × Addr)) => (if (x.2 == NameKind.free) = true then (do let a ← cellOf env x.1; pure (ForInStep.yield ((x.1, a) :: r))) else pure (ForInStep.yield r) : Sem (ForInStep (List (Str × Addr))))) >>= fun cs => pure cs) := by
    unfold closureFor
    rfl
  rw [e, key scope.names [] h]
  all_goals rfl
theorem cloOf_sub {env : Env} : ∀ (l : List (Str × NameKind)) (cs : List (Str × Addr)), (∀ p ∈ cs, env.cells.lookup p.1 = some p.2) → ∀ p ∈ cloOf env l cs, env.cells.lookup p.1 = some p.2
  | [], cs, h, p, hp => h p hp
  | (n, k) :: r, cs, h, p, hp => by
    unfold cloOf at hp
    refine cloOf_sub r _ ?_ p hp
    split
    · split
      · rename_i a ea
        intro q hq
        rcases List.mem_cons.mp hq with e | hq
        · rw [e]; exact ea
        · exact h q hq
      · exact h
    · exact h
theorem cloOf_keeps {env : Env} : ∀ (l : List (Str × NameKind)) (cs : List (Str × Addr)) {y : Str}, (∃ p ∈ cs, p.1 = y) → ∃ p ∈ cloOf env l cs, p.1 = y
  | [], cs, y, h => h
  | (n, k) :: r, cs, y, ⟨p, hp, e⟩ => by
    unfold cloOf
    refine cloOf_keeps r _ ?_
    split
    · split
      · exact ⟨p, List.mem_cons_of_mem _ hp, e⟩
      · exact ⟨p, hp, e⟩
    · exact ⟨p, hp, e⟩
theorem cloOf_has {env : Env} : ∀ (l : List (Str × NameKind)) (cs : List (Str × Addr)) {y : Str} {c : Addr}, (y, NameKind.free) ∈ l → env.cells.lookup y = some c → ∃ p ∈ cloOf env l cs, p.1 = y
  | (n, k) :: r, cs, y, c, hm, hc => by
    unfold cloOf
    rcases List.mem_cons.mp hm with e | hm
    · cases e
      refine cloOf_keeps r _ ?_
      rw [if_pos (by rfl), hc]
      exact ⟨_, List.mem_cons_self, rfl⟩
    · exact cloOf_has r _ hm hc
theorem lookup_of_mem {α : Type} : ∀ {l : List (Str × α)} {p : Str × α}, p ∈ l → ∃ c, l.lookup p.1 = some c
  | q :: l, p, h => by
    obtain ⟨n, a⟩ := q
    rw [List.lookup_cons]
    split
    · exact ⟨_, rfl⟩
    · rename_i hne
      rcases List.mem_cons.mp h with e | h
      · subst e; simp at hne
      · exact lookup_of_mem h
theorem cloOf_lookup {env : Env} {l : List (Str × NameKind)} {y : Str} {c : Addr} (hm : (y, NameKind.free) ∈ l) (hc : env.cells.lookup y = some c) : (cloOf env l []).lookup y = some c := by
  obtain ⟨p, hp, e⟩ := cloOf_has l [] hm hc
  obtain ⟨c', e'⟩ := lookup_of_mem hp
  rw [e] at e'
  have q := cloOf_sub l [] (fun _ z => nomatch z) _ (PySem.mem_of_lookup e')
  rw [hc] at q
  rw [e']
  exact q.symm
theorem cloOf_lookup_sub {env : Env} {l : List (Str × NameKind)} {y : Str} {c : Addr} (h : (cloOf env l []).lookup y = some c) : env.cells.lookup y = some c :=
  cloOf_sub l [] (fun _ z => nomatch z) _ (PySem.mem_of_lookup h)
theorem relabel_free {env : Env} : ∀ {names : List (Str × NameKind)} {x : Str} {k : NameKind}, (names.map fun (n, k) => if (k == NameKind.free && env.scope.kind == .function && env.kindOf n == some .cell) then (n, NameKind.cell) else (n, k)).lookup x = some k →
    ∃ k', names.lookup x = some k' ∧ (k' = k ∨ k' = .free)
  | [], _, _, h => by simp at h
  | (n, k0) :: r, x, k, h => by
    have ih := @relabel_free env r x k
    have h : List.lookup x ((if (k0 == NameKind.free && env.scope.kind == .function && env.kindOf n == some .cell) = true then (n, NameKind.cell) else (n, k0)) :: _) = some k := h
    cases hx : x == n with
    | true =>
      refine ⟨k0, by simp only [List.lookup_cons, hx], ?_⟩
      by_cases hc : (k0 == NameKind.free && env.scope.kind == .function && env.kindOf n == some .cell) = true
      · refine .inr ?_
        simp only [Bool.and_eq_true] at hc
        exact beq_iff_eq.mp hc.1.1
      · rw [if_neg hc] at h
        simp only [List.lookup_cons, hx] at h
        exact .inl (Option.some.inj h)
    | false =>
      have h2 : List.lookup x (r.map fun (n, k) => if (k == NameKind.free && env.scope.kind == .function && env.kindOf n == some .cell) then (n, NameKind.cell) else (n, k)) = some k := by
        by_cases hc : (k0 == NameKind.free && env.scope.kind == .function && env.kindOf n == some .cell) = true
        · rw [if_pos hc] at h; simp only [List.lookup_cons, hx] at h; exact h
        · rw [if_neg hc] at h; simp only [List.lookup_cons, hx] at h; exact h
      obtain ⟨k', e1, e2⟩ := ih h2
      exact ⟨k', by simp only [List.lookup_cons, hx]; exact e1, e2⟩
theorem relabel_of_free {env : Env} : ∀ {names : List (Str × NameKind)} {x : Str}, names.lookup x = some .free →
    (names.map fun (n, k) => if (k == NameKind.free && env.scope.kind == .function && env.kindOf n == some .cell) then (n, NameKind.cell) else (n, k)).lookup x = some .cell ∨
    (names.map fun (n, k) => if (k == NameKind.free && env.scope.kind == .function && env.kindOf n == some .cell) then (n, NameKind.cell) else (n, k)).lookup x = some .free
  | [], _, h => by simp at h
  | (n, k0) :: r, x, h => by
    have ih := @relabel_of_free env r x
    show List.lookup x ((if (k0 == NameKind.free && env.scope.kind == .function && env.kindOf n == some .cell) = true then (n, NameKind.cell) else (n, k0)) :: _) = some .cell ∨ List.lookup x ((if (k0 == NameKind.free && env.scope.kind == .function && env.kindOf n == some .cell) = true then (n, NameKind.cell) else (n, k0)) :: _) = some .free
    cases hx : x == n with
    | true =>
      simp only [List.lookup_cons, hx] at h
      by_cases hc : (k0 == NameKind.free && env.scope.kind == .function && env.kindOf n == some .cell) = true
      · rw [if_pos hc]; simp only [List.lookup_cons, hx]; simp
      · rw [if_neg hc]; simp only [List.lookup_cons, hx]; exact .inr (by rw [Option.some.inj h])
    | false =>
      simp only [List.lookup_cons, hx] at h
      by_cases hc : (k0 == NameKind.free && env.scope.kind == .function && env.kindOf n == some .cell) = true
      · rw [if_pos hc]; simp only [List.lookup_cons, hx]; exact ih h
      · rw [if_neg hc]; simp only [List.lookup_cons, hx]; exact ih h

/-! ### the signs of a text, walked -/
def Its (z : Str) : It := ⟨fun i _ => i < z.length, fun i H x H' => H' = H ∧ ∃ c, z.cps.toList[i]? = some c ∧ x = .str ⟨#[c]⟩, fun i _ => z.length ≤ i⟩
structure StrIt (P : Program) (w : World) (it : Addr) (ty : String) (z : Str) (t : Tok) : Prop where
  W : ∀ A' : Around, A'.handled = none → Walks P w A' it [it] [it] z.cps.size (SignAt z) (fun i h => h.IsStrIter it ty z t i)
  en : ∀ (A : Around) (i : Nat) (s : Shared) (Q : Option Value → Shared → Prop) (E : Value → Shared → Prop), A.handled = none → s.heap.IsStrIter it ty z t i → z.cps[i]? = none →
    (∀ h', Heap.ExtBut it s.heap h' → Q none { s with heap := h' }) → wpAny (model P w) A (pyNext (.ref it)) Q E s
  me : ∀ (A : Around) (i : Nat) (s : Shared) (Q : Value → Shared → Prop) (E : Value → Shared → Prop), s.heap.IsStrIter it ty z t i → Q (.ref it) s → wpAny (model P w) A (pyIter (.ref it)) Q E s
  ne : ["enumerate", "zip", "dict_itemiterator", "dict_reverseitemiterator", "odict_iterator", "itertools.zip_longest", "itertools.pairwise"].contains ty = false
def iStr (tl : TE) : TI := fun σ H R => tl σ H fun x H1 => ∃ z, x = .str z ∧ R (Its z) H1
/-! ### a list made by walking -/
/-- the context of the block: it begins at s, H, the iterator's records at fp -/
def Cx.blk (X : Cx) (N' : List Str) (scope : Scope) (C : Addr) (fp : List Addr) (s : Shared) (H : Hp) : Cx :=
  { X with N := N', s₀ := s, H₀ := H, env := compEnvC scope (cloOf X.env scope.names []) C X.env, outer := X.stack, ex := fp, fn := fun _ => false, pn := [], xe := fun _ _ => False }
/-- the block's names: its own first, then those of the def around it, at the slots fv -/
structure BlkScope (N : List Str) (sc scope : Scope) (x : Str) (N' : List Str) (fv : List Nat) : Prop where
  nocell : ∀ y ∈ scope.names, y.2 ≠ .cell
  kind : scope.kind = .function
  names : ∀ y ∈ scope.names, y.2 = .local → scope.names.lookup y.1 = some .local
  loc : scope.names.lookup x = some .local
  free : ∀ y ∈ scope.names, y.2 = .free → sc.names.lookup y.1 = some .cell ∨ sc.names.lookup y.1 = some .free
  nd : N'.Nodup
  hd : N'[0]? = some x
  len : N'.length = fv.length + 1
  at_ : ∀ j, j < fv.length → (N'[j + 1]?).isSome = true ∧ N'[j + 1]? = (fv[j]?).bind (fun i => N[i]?) ∧ (N'[j + 1]?).bind (fun y => scope.names.lookup y) = some .free
def blkVals (fv : List Nat) (σ : St) : St := fv.map fun k => (σ[k]?).join
/-- the tests of a walking -/
abbrev testsOf (ifs : List Expr) (env : Env) : Sem Bool := forIn ifs true fun c r => if r = true then do let ok ← isTrue c env (eval c env); pure (ForInStep.yield ok) else pure (ForInStep.yield r)
def PTs (X : Cx) (ifs : List Expr) (t : TT) : Prop :=
  ∀ (pins : List (Addr × Obj)) (s : Shared) (σ : St) (H : Hp) (Q : Bool → Hp → Prop), Inv X pins σ H s → t σ H Q → wpAny (model X.prog X.w) X.A (testsOf ifs X.env) (TP X pins σ Q) X.xe s
def tAll : TT := fun _ H Q => Q true H
theorem pts_nil {X : Cx} : PTs X [] tAll := fun pins s σ H Q I h => wpAny_pure ⟨H, I, h⟩
theorem pts_one {X : Cx} {c : Expr} {t : TT} (hc : PT X c t) : PTs X [c] t := by
  intro pins s σ H Q I h
  have e : testsOf [c] X.env = (isTrue c X.env (eval c X.env) >>= fun ok => pure ok) := by
    unfold testsOf
    rw [List.forIn_cons]
    simp
  rw [e]
  exact wpAny_bind (thn (hc pins s σ H Q I h) fun b s1 q => wpAny_pure q)
def tLC (wi : TI) (fv : List Nat) (tt : TT) (te : TE) : TE := fun σ H Q => wi σ H fun J H1 => ∃ (W : Nat → List V → Hp → Prop) (n : Nat), W 0 [] H1 ∧ n ≤ sizeLine ∧ ∀ i ys H, W i ys H →
  (J.stop i H ∧ ∀ p, H p = none → Q (.ref p) (upd H p (.lst ys))) ∨
  (J.go i H ∧ i < n ∧ ∀ x H', J.yld i H x H' → tt (some x :: blkVals fv σ) H' fun c H2 => if c = true then te (some x :: blkVals fv σ) H2 fun y H3 => W (i + 1) (ys ++ [y]) H3 else W (i + 1) ys H2)

section
variable {X : Cx} {N' : List Str} {scope : Scope} {x : Str} {fv : List Nat}
theorem blk_inv {pins : List (Addr × Obj)} {σ : St} {H : Hp} {s : Shared} {fp : List Addr} {C : Addr} {h1 : Heap} {m : Str → Option Value} {tk : Nat} {pl : List (Addr × Obj)} (S : BlkScope X.N X.env.scope scope x N' fv) (I : Inv X pins σ H s)
    (hf : ∀ b ∈ fp, FpOk X pins H b) (hfo : ∀ b ∈ fp, b < s.heap.objs.size) (hC : s.heap.objs.size ≤ C) (kp : ∀ b o, s.heap.get? b = some o → h1.get? b = some o) (hn : h1.Ns C m)
    (hpl : ∀ p ∈ pl, h1.get? p.1 = some p.2 ∧ s.heap.objs.size ≤ p.1 ∧ p.1 ≠ C ∧ ∀ v, p.2.data ≠ .cell v) :
    Inv (X.blk N' scope C fp s H) pl (none :: blkVals fv σ) H { s with heap := h1, toks := tk } := by
  have clo : ∀ y c, (cloOf X.env scope.names []).lookup y = some c → X.env.cells.lookup y = some c := fun y c e => cloOf_lookup_sub e
  have cell : ∀ y c, (cloOf X.env scope.names []).lookup y = some c → ∃ v, s.heap.IsCell c v := fun y c e => I.cell y c (clo y c e)
  have lt : ∀ y c, (cloOf X.env scope.names []).lookup y = some c → c < s.heap.objs.size := fun y c e => by obtain ⟨v, q⟩ := cell y c e; exact q.lt
  have kc : ∀ c v, s.heap.IsCell c v → h1.IsCell c v := fun c v q => by obtain ⟨o, e, d⟩ := q; exact ⟨o, kp _ _ e, d⟩
  refine ⟨⟨I.ok.mod, S.kind, I.ok.glob, I.ok.blt, hC, fun y z c e1 e2 => I.ok.inj y z c (clo y c e1) (clo z c e2), fun y hy => ?_, fun y c e => ?_, I.ok.hd, I.ok.frames, .inl rfl, fun b hb => ⟨?_, fun y c e z => (hf b hb).2.2.2.2.1 y c (clo y c e) z⟩, fun b o e => I.bs b o e, Nat.le_trans I.ok.bsz I.sz, fun b o e hb => ?_, fun b hb hb2 => ?_, I.stack, I.stkFree⟩,
    rfl, I.bare, Un.kept kp, ⟨m, hn, fun i y v h1' h2 h3 => ?_⟩, fun y c e => ?_, I.hok.fresh hC, fun y c e => I.freeC y c (clo y c e), fun p hp => ?_, I.hok.kept kp, ?_⟩
  · have hy' : ∃ k, scope.names.lookup y = some k ∧ k = .free := by
      rcases hy with hy | hy
      · obtain ⟨k', e1, e2⟩ := relabel_free (env := X.env) (names := scope.names) (x := y) (k := .cell) hy
        rcases e2 with e2 | e2
        · exact absurd e2 (S.nocell _ (PySem.mem_of_lookup e1))
        · exact ⟨k', e1, e2⟩
      · obtain ⟨k', e1, e2⟩ := relabel_free (env := X.env) (names := scope.names) (x := y) (k := .free) hy
        rcases e2 with e2 | e2
        · exact ⟨k', e1, e2⟩
        · exact ⟨k', e1, e2⟩
    obtain ⟨k, e, rfl⟩ := hy'
    have hm := PySem.mem_of_lookup e
    obtain ⟨c, hc⟩ := I.ok.has y (S.free _ hm rfl)
    exact ⟨c, cloOf_lookup hm hc⟩
  · exact (Bool.false_ne_true (show false = true from e)).elim
  · exact Nat.ne_of_lt (Nat.lt_of_lt_of_le (hfo b hb) hC)
  · have e' := e
    rcases (hf b hb).2.2.2.1 with z | z
    · exact I.ok.noex b o e z
    · exact absurd (Nat.lt_of_lt_of_le (Heap.lt_size e) (Nat.le_trans I.ok.bsz z)) (Nat.lt_irrefl _)
  · have q := I.stkSub b hb2
    rcases List.mem_cons.mp q with z | z
    · exact (hf b hb).2.1 z
    · exact (hf b hb).2.2.1 z
  · cases i with
    | zero =>
      have z : (none : Option V) = some v := Option.some.inj h2
      cases z
    | succ j =>
      have h2' : (blkVals fv σ)[j]? = some (some v) := h2
      unfold blkVals at h2'
      rw [List.getElem?_map] at h2'
      cases ej : fv[j]? with
      | none => rw [ej] at h2'; cases h2'
      | some k =>
        rw [ej] at h2'
        have h4 : (σ[k]?).join = some v := Option.some.inj h2'
        have h5 : σ[k]? = some (some v) := by
          cases es : σ[k]? with
          | none => rw [es] at h4; cases h4
          | some w' => rw [es] at h4; rw [show w' = some v from h4]
        have hj : j < fv.length := (List.getElem?_eq_some_iff.mp ej).1
        obtain ⟨_, a1, a2⟩ := S.at_ j hj
        have h1'' : N'[j + 1]? = some y := h1'
        rw [h1''] at a1 a2
        rw [ej] at a1
        have a3 : X.N[k]? = some y := a1.symm
        have a4 : scope.names.lookup y = some .free := a2
        have hm := PySem.mem_of_lookup a4
        have kd : X.env.kindOf y = some .cell ∨ X.env.kindOf y = some .free := S.free _ hm rfl
        obtain ⟨mX, _, hlX⟩ := I.loc
        obtain ⟨u, ru, lk⟩ := hlX k y v a3 h5 (kd.elim (fun z => .inr (.inl z)) fun z => .inr (.inr z))
        refine ⟨u, ru, .inr ?_⟩
        rcases lk with ⟨z, _⟩ | ⟨_, c, hc, hcell⟩
        · rcases kd with z' | z' <;> rw [z'] at z <;> cases z
        · exact ⟨relabel_of_free (env := X.env) a4, c, cloOf_lookup hm hc, kc _ _ hcell⟩
  · obtain ⟨v, q⟩ := cell y c e
    exact ⟨v, kc _ _ q⟩
  · have hp' : p ∈ pl := hp
    obtain ⟨e, l1, l2, d⟩ := hpl p hp'
    exact ⟨e, I.hok.fresh l1, l2, fun z => absurd (I.stkSub _ z) (fun q => by
      rcases List.mem_cons.mp q with q | q
      · exact absurd I.lt (by rw [← q]; exact Nat.not_lt.mpr l1)
      · exact I.nofs l1 q), d⟩
  · show (none :: blkVals fv σ).length = N'.length
    rw [S.len]
    unfold blkVals
    simp
end
end L2

namespace L2
open PySem PySem.Spec PyProof.Rows
theorem nox {α : Type} {t : Sem α} {Q Q' : α → Shared → Prop} {M : Model} {A : Around} {E : Value → Shared → Prop} {s : Shared} (h : wpAny M A t Q (fun _ _ => False) s) (hQ : ∀ a s, Q a s → Q' a s) : wpAny M A t Q' E s := wpAny_mono h hQ fun _ _ f => f.elim
set_option maxHeartbeats 1600000 in
theorem pe_lc {X : Cx} {elt iter : Expr} {x : Str} {px : Pos} {ifs : List Expr} {scope : Scope} {pos : Pos} {N' : List Str} {fv : List Nat} {wi : TI} {tt : TT} {te : TE}
    (S : BlkScope X.N X.env.scope scope x N' fv) (hc : X.calm = true) (hi : PI X (.Name x px) iter wi)
    (ht : ∀ C fp s H, PTs (X.blk N' scope C fp s H) ifs tt) (he : ∀ C fp s H, PE (X.blk N' scope C fp s H) elt te)
    (hs : ∀ x, foldedSetIterable iter X.env x = pure x := by intro _; rfl) :
    PE X (.ListComp elt [⟨.Name x px, iter, ifs, 0⟩] scope pos) (tLC wi fv tt te) := by
  intro pins s σ H Q I h
  rw [eval_ListComp]
  refine wpAny_comprehension_free (use := none) rfl hs (closureFor_free fun y hy hk => I.ok.has y.1 (S.free y hy hk)) S.kind S.names
    (wpAny_mono (hi pins s σ H _ I h) (fun xv s1 h1 => wpAny_mono h1 (fun itv s2 h2 => ?_) fun _ _ e => e) fun _ _ e => e)
  obtain ⟨it, fp, tn, J, H2, rfl, I2, T, st2, f2, W, n, w0, hn, turn⟩ := h2
  refine wpAny_newObj_type (wpAny_newFunctionEnv S.nocell (by intro y hy; simp at hy) (fun h1 hns hsb => ?_) S.kind)
  dsimp only at hns hsb ⊢
  generalize hH : s2.heap.push { cls := .type "list", dict := none, data := .seq ([] : List Value).toArray } = G at hns hsb ⊢
  have hG : G.objs.size = s2.heap.objs.size + 1 := by rw [← hH, Heap.size_push]
  have kpG : ∀ b o, s2.heap.get? b = some o → G.get? b = some o := fun b o e => hH ▸ Heap.get?_push_of_some _ e
  have kp1 : ∀ b o, b < G.objs.size → G.get? b = some o → h1.get? b = some o := fun b o lt e => hsb.extBut b o (Nat.ne_of_lt lt) (Heap.get?_push_of_some _ e)
  have kp : ∀ b o, s2.heap.get? b = some o → h1.get? b = some o := fun b o e => kp1 b o (by rw [hG]; exact Nat.lt_succ_of_lt (Heap.lt_size e)) (kpG b o e)
  have hD : h1.PlainList s2.heap.objs.size #[] := ⟨_, kp1 _ _ (by rw [hG]; exact Nat.lt_succ_self _) (hH ▸ Heap.get?_push_size _ rfl)⟩
  have hDC : s2.heap.objs.size ≠ G.objs.size := by rw [hG]; exact Nat.ne_of_lt (Nat.lt_succ_self _)
  have hC : s2.heap.objs.size ≤ G.objs.size := by rw [hG]; exact Nat.le_succ _
  have hfo : ∀ b ∈ fp, b < s2.heap.objs.size := fun b hb => by obtain ⟨o, e, _⟩ := T.obj 0 _ st2 b hb; exact Heap.lt_size e
  -- what is true of the iterator's records in the block
  have stat : ∀ {H' : Hp} {pl : List (Addr × Obj)}, (∀ b ∈ fp, H' b = none) → (∀ p ∈ pl, p.1 ∉ fp) → ∀ b ∈ fp, FpOk (X.blk N' scope G.objs.size fp s2 H2) pl H' b := fun {H' pl} hn hpl b hb => by
    obtain ⟨_, g1, g2, g3, g4, g5⟩ := f2 b hb
    refine ⟨hn b hb, Nat.ne_of_lt (Nat.lt_of_lt_of_le (hfo b hb) hC), fun z => ?_, .inl hb, fun y c e => g4 y c (cloOf_lookup_sub e), fun p hp e => ?_⟩
    · rcases List.mem_cons.mp (I2.stkSub b z) with q | q
      · exact g1 q
      · exact g2 q
    · exact hpl p hp (e ▸ hb)
  have hDf : s2.heap.objs.size ∉ fp := fun z => absurd (hfo _ z) (Nat.lt_irrefl _)
  have hlc : (X.blk N' scope G.objs.size fp s2 H2).env.scope.names.lookup x = some .local := lookup_relabel_local S.loc
  have hcl : ∀ y c, (X.blk N' scope G.objs.size fp s2 H2).env.cells.lookup y = some c → c ≠ s2.heap.objs.size := fun y c e z => by
    obtain ⟨v, q⟩ := I2.cell y c (cloOf_lookup_sub e)
    exact absurd q.lt (by rw [z]; exact Nat.lt_irrefl _)
  have pin1 : ∀ {s' : Shared} {H' : Hp} {ob : Obj} {i : Nat} {ys : List V}, Inv (X.blk N' scope G.objs.size fp s2 H2) [] (none :: blkVals fv σ) H' s' → s'.heap.get? s2.heap.objs.size = some ob → (∀ v, ob.data ≠ .cell v) → H' s2.heap.objs.size = none →
      Inv (X.blk N' scope G.objs.size fp s2 H2) [(s2.heap.objs.size, ob)] (none :: blkVals fv σ) H' s' := fun {s' H' ob i ys} J1 e d f => J1.pins_of fun p hp => by
    have z : p = (s2.heap.objs.size, ob) := by simpa using hp
    subst z
    refine ⟨e, f, hDC, fun z => ?_, d⟩
    rcases List.mem_cons.mp (I2.stkSub _ z) with q | q
    · exact absurd I2.lt (by rw [← q]; exact Nat.lt_irrefl _)
    · exact I2.nofs (Nat.le_refl _) q
  have loop : ∀ s3 : Shared, s3 = { s2 with heap := h1, toks := s2.toks + ([] : List (Str × Value)).length } →
      codeAny (model X.prog X.w) X.A (.compLoop (.ListComp elt [⟨.Name x px, iter, ifs, 0⟩] scope pos) 0 (.ref it) (.ref s2.heap.objs.size) (X.blk N' scope G.objs.size fp s2 H2).env)
        (compPost (model X.prog X.w) X.A X.xe none (EP X pins σ Q) (.ref s2.heap.objs.size) G.objs.size) s3 := by
    rintro s3 rfl
    refine codeAny_compLoop_tests (fun k s' => ∃ i ys H' its, k = n + 1 - i ∧ i ≤ n ∧ ys.length ≤ i ∧ Vals ys its ∧ s'.heap.PlainList s2.heap.objs.size its.toArray ∧
      Inv (X.blk N' scope G.objs.size fp s2 H2) [] (none :: blkVals fv σ) H' s' ∧ H' s2.heap.objs.size = none ∧ tn i s'.heap ∧ (∀ b ∈ fp, H' b = none) ∧ W i ys H') ?_ (n + 1)
      ⟨0, [], H2, [], rfl, Nat.zero_le _, Nat.le_refl _, .nil, hD, blk_inv S I2 f2 hfo hC kp hns (fun p hp => nomatch hp), I2.hok.fresh (Nat.le_refl _), T.keep _ _ _ st2 fun b _ o e => kp b o e, fun b hb => (f2 b hb).1, w0⟩
    rintro k s4 ⟨i, ys, H4, its, rfl, hin, hyi, rv, pl4, I4, fD4, st4, ff4, w4⟩
    obtain ⟨cnt, eD⟩ := id pl4
    have I4p := pin1 (i := i) (ys := ys) I4 eD (fun v z => by cases z) fD4
    have np : ∀ p ∈ [(s2.heap.objs.size, ({ cls := .type "list", data := .seq its.toArray cnt } : Obj))], p.1 ∉ fp := fun p hp => by
      have z : p = (s2.heap.objs.size, ({ cls := .type "list", data := .seq its.toArray cnt } : Obj)) := by simpa using hp
      subst z; exact hDf
    rcases turn i ys H4 w4 with ⟨stop, fin⟩ | ⟨go, hi2, step⟩
    · refine wpAny_mono (T.done (X.blk N' scope G.objs.size fp s2 H2) rfl rfl rfl hc i _ s4 _ H4 _ I4p (stat ff4 np) st4 stop) (fun r s5 ⟨hr, I5⟩ => ?_) fun _ _ e => e
      subst hr
      obtain ⟨m5, hm5, _⟩ := I5.loc
      have eD5 : s5.heap.get? s2.heap.objs.size = some { cls := .type "list", data := .seq its.toArray cnt } := (I5.pin _ (List.mem_append_right _ List.mem_cons_self)).1
      refine ⟨m5, hm5, fun h' sb => ⟨.ref s2.heap.objs.size, upd H4 s2.heap.objs.size (.lst ys), ?_, rfl, fin _ fD4⟩⟩
      have ltC : ∀ {b : Addr} {o : Obj}, s2.heap.get? b = some o → b ≠ G.objs.size := fun {b o} e => Nat.ne_of_lt (Nat.lt_of_lt_of_le (Heap.lt_size e) hC)
      have fD2 : H2 s2.heap.objs.size = none := I2.hok.fresh (Nat.le_refl _)
      have ltD : ∀ {b : Addr} {o : Obj}, s2.heap.get? b = some o → b ≠ s2.heap.objs.size := fun {b o} e => Nat.ne_of_lt (Heap.lt_size e)
      have B := I5.base
      refine I2.call' (s' := { s5 with heap := h' }) (ch := fp) I5.os ⟨fun b o e nb hb hx => ?_, fun b o e nb hb hx => ?_, fun b o e nb hx => ?_, fun b o e hx => ?_, fun b xs e => ?_, fun b o u e => ?_, fun b ps e => ?_⟩ ?_ I5.bare fun b hb => ?_
      · exact sb.extBut b o (ltC e) (B.keep b o e nb hb hx)
      · obtain ⟨sl, q⟩ := B.slot b o e nb hb hx
        exact ⟨sl, sb.extBut b _ (ltC e) q⟩
      · rw [upd_ne (ltD e)]; exact B.free b o e nb hx
      · obtain ⟨o', q⟩ := B.there b o e hx
        exact ⟨o', sb.extBut b o' (ltC e) q⟩
      · have e' : H2 b = some (.tup xs) := e
        rw [upd_ne (ne_of_none e' fD2)]; exact B.tups b xs e
      · have e' : H2 b = some (.frz o u) := e
        rw [upd_ne (ne_of_none e' fD2)]; exact B.frzs b o u e
      · have e' : H2 b = some (.tbl ps) := e
        rw [upd_ne (ne_of_none e' fD2)]; exact B.tbls b ps e
      · intro b u e
        by_cases hb : b = s2.heap.objs.size
        · subst hb
          rw [upd_same] at e
          cases e
          exact ⟨Nat.le_trans hyi (Nat.le_trans hin hn), its, cnt, rv, sb.extBut _ _ hDC eD5⟩
        · rw [upd_ne hb] at e
          have fC : H4 G.objs.size = none := I5.free
          refine (I5.hok b u e).stay (fun c v hc' q => sb.extBut c v ?_ q) (fun c q => by rw [upd_ne (ne_of_none q fD4)]; exact q) fun c xs q => by rw [upd_ne (ne_of_none q fD4)]; exact q
          rcases hc' with z | z
          · subst z; exact ne_of_none e fC
          · exact ne_of_none z fC
      · obtain ⟨_, g1, g2, g3, g4, g5⟩ := f2 b hb
        exact ⟨g3, g1, g4, g5⟩
    · refine wpAny_mono (T.item (X.blk N' scope G.objs.size fp s2 H2) rfl rfl rfl hc i _ s4 _ H4 _ I4p (stat ff4 np) st4 go) (fun r s5 ⟨u, hr, h5⟩ => ?_) fun _ _ e => e
      subst hr
      show wpAny _ _ (letOwnedTupleGo (.Name x px) (.ref it) u >>= fun _ => assign (.Name x px) (X.blk N' scope G.objs.size fp s2 H2).env u) _ _ s5
      refine wpAny_bind (wpAny_mono h5 (fun _ s6 ⟨xv, H6, I6, r6, y6, st6, ff6⟩ => ?_) fun _ _ e => e)
      have I6' := I6.pinned (stat ff6 np) (T.obj _ _ st6)
      have out : ∀ {σ' : St} {H' : Hp} {s' : Shared}, Inv (X.blk N' scope G.objs.size fp s2 H2) ([(s2.heap.objs.size, ({ cls := .type "list", data := .seq its.toArray cnt } : Obj))] ++ pinsAt fp s6.heap) σ' H' s' →
          s'.heap.PlainList s2.heap.objs.size its.toArray ∧ H' s2.heap.objs.size = none ∧ (∀ b ∈ fp, H' b = none) ∧ (∀ b ∈ fp, ∀ o, s6.heap.get? b = some o → s'.heap.get? b = some o) := fun {σ' H' s'} J1 => by
        have q := J1.pin (s2.heap.objs.size, ({ cls := .type "list", data := .seq its.toArray cnt } : Obj)) (List.mem_append_right _ (List.mem_append_left _ List.mem_cons_self))
        refine ⟨⟨cnt, q.1⟩, q.2.1, fun b hb => ?_, fun b hb o e => (J1.pin (b, o) (List.mem_append_right _ (List.mem_append_right _ (mem_pinsAt hb e)))).1⟩
        obtain ⟨o, e, d⟩ := T.obj _ _ st6 b hb
        exact (J1.pin (b, o) (List.mem_append_right _ (List.mem_append_right _ (mem_pinsAt hb e)))).2.1
      refine nox ((pg_name (X := X.blk N' scope G.objs.size fp s2 H2) (i := 0) S.nd S.hd (.inl hlc) (.inr hlc)) _ s6 _ H6 xv u (fun σ' H' => σ' = some xv :: blkVals fv σ ∧ H' = H6) I6' r6 ⟨rfl, rfl⟩) fun _ s7 ⟨σ7, H7, I7, e7, e7'⟩ => ?_
      subst e7 e7'
      refine nox (ht _ _ _ _ _ s7 _ H7 _ I7 (step xv H7 y6)) fun ok s8 ⟨H8, I8, q8⟩ => ?_
      cases ok with
      | false =>
        obtain ⟨o1, o2, o3, o4⟩ := out I8
        exact ⟨n + 1 - (i + 1), by omega, i + 1, ys, H8, its, rfl, hi2, Nat.le_succ_of_le hyi, rv, o1, (I8.pins_of (pins' := []) fun p hp => nomatch hp).weak (σ' := none :: blkVals fv σ) rfl (fun j v e => by
          cases j with
          | zero => cases (show (none : Option V) = some v from Option.some.inj e)
          | succ j => exact e), o2, T.keep _ _ _ st6 o4, o3, q8⟩
      | true =>
        refine nox (he _ _ _ _ _ s8 _ H8 _ I8 q8) fun yv s9 ⟨y, H9, I9, r9, q9⟩ => ?_
        obtain ⟨o1, o2, o3, o4⟩ := out I9
        have hlen := rv.length
        refine wpAny_list_append_plain (hsz := by rw [List.size_toArray, ← hlen]; exact Nat.le_trans hyi (Nat.le_trans hin hn)) o1 fun h' pl' sb' => ?_
        have I9' : Inv (X.blk N' scope G.objs.size fp s2 H2) [] (some xv :: blkVals fv σ) H9 { s9 with heap := h' } :=
          (I9.pins_of (pins' := []) fun p hp => nomatch hp).turned (t' := s9.toks) (it := s2.heap.objs.size) (fun b o hb e => sb'.extBut b o hb e) o2 hDC (.inr (Nat.le_refl _)) hcl (fun p hp => nomatch hp)
        refine ⟨n + 1 - (i + 1), by omega, i + 1, ys ++ [y], H9, its ++ [yv], rfl, hi2, by rw [List.length_append]; exact Nat.succ_le_succ hyi, rv.append (.cons r9 .nil), ?_, I9'.weak (σ' := none :: blkVals fv σ) rfl (fun j v e => by
          cases j with
          | zero => cases (show (none : Option V) = some v from Option.some.inj e)
          | succ j => exact e), o2, T.keep _ _ _ st6 fun b hb o e => sb'.extBut b o (fun z => hDf (z ▸ hb)) (o4 b hb o e), o3, q9⟩
        have e9 : (its ++ [yv]).toArray = its.toArray.push yv := by simp
        rw [e9]
        exact pl'
  exact codeAny_compStart_list (loop _ rfl) (T.self _ 0 _ _ _ (T.keep _ _ _ st2 fun b _ o e => kp b o e) (loop _ rfl))
end L2

namespace L2
open PySem PySem.Spec PyProof.Rows
end L2

namespace L2
open PySem PySem.Spec PyProof.Rows
/-- name = [.. for ..] -/
def tSetLC (j : Nat) (wi : TI) (fv : List Nat) (tt : TT) (te : TE) : TS := fun D σ H => wi σ H fun J H1 => ∃ (W : Nat → List V → Hp → Prop) (n : Nat), W 0 [] H1 ∧ n ≤ sizeLine ∧ ∀ i ys H, W i ys H →
  (J.stop i H ∧ ∀ p, H p = none → D.nx (σ.set j (some (.ref p))) (upd H p (.lst ys))) ∨
  (J.go i H ∧ i < n ∧ ∀ x H', J.yld i H x H' → tt (some x :: blkVals fv σ) H' fun c H2 => if c = true then te (some x :: blkVals fv σ) H2 fun y H3 => W (i + 1) (ys ++ [y]) H3 else W (i + 1) ys H2)
end L2

namespace L2
open PySem PySem.Spec PyProof.Rows
open Builtin Builtin.Str
section
variable {X : Cx}
theorem vals_refs : ∀ {xs : List V} {us ws : List Value}, (∀ x ∈ xs, ∃ r, x = V.ref r) → Vals xs us → Vals xs ws → us = ws
  | _, _, _, _, .nil, .nil => rfl
  | x :: xs, _, _, h, .cons r1 t1, .cons r2 t2 => by
    obtain ⟨r, rfl⟩ := h x List.mem_cons_self
    cases r1
    cases r2
    rw [vals_refs (fun y hy => h y (List.mem_cons_of_mem _ hy)) t1 t2]
/-- != of two lists of the same objects -/
theorem op_ne_refs (hu : X.A.units < cLine) : OpR X (compareOp .NotEq) (fun x y H Q => ∃ a b xs, x = .ref a ∧ y = .ref b ∧ SqL X.K H a xs ∧ SqL X.K H b xs ∧ (∀ x ∈ xs, ∃ r, x = V.ref r) ∧ Q (.bl false) H) := by
  intro pins s σ H x y v u Q I rx ry h
  obtain ⟨a, b, xs, rfl, rfl, ha, hb, hr, q⟩ := h
  cases rx
  cases ry
  obtain ⟨i1, r1, p1, _⟩ := I.list ha
  obtain ⟨i2, r2, p2, _⟩ := I.list hb
  have e := vals_refs hr r1 r2
  subst e
  have z := PySem.SeqAt.RcNeAt.lists (A := X.A) (s := s) (e := fun _ => true) p1.isList p2.isList rfl hu (fun j h1 _ => PySem.SeqAt.EqAt.same _)
  have ez : (!(List.range i1.toArray.size).all fun _ => true) = false := by simp
  rw [ez] at z
  exact z X.prog X.w X.xe _ ⟨.bl false, H, I, rfl, q⟩
end
end L2

namespace L2
open PySem PySem.Spec PyProof.Rows
section
variable {X : Cx}
/-- // by a positive divisor of up to some thousand figures -/
def CDivB (_ j : Int) : Prop := 0 < j ∧ j.natAbs.log2 < 9000
end
end L2

namespace L2
open PySem PySem.Spec PyProof.Rows
section
variable {X : Cx}
end
end L2

namespace L2
open PySem PySem.Spec PyProof.Rows
/-! ### exceptions of the program's own classes -/
/-- what is tracked, and what was there in h0, is in B, but for the frames l -/
def Cov (l : List Env) (h0 : Heap) (H : Hp) (B h : Heap) : Prop := ∀ b o, h.get? b = some o → b ∉ frs l → (H b ≠ none ∨ ∃ o0, h0.get? b = some o0) → B.get? b = some o
/-- an exception at ea, of the class at C, flies through the frames l -/
def Fly (l : List Env) (h0 : Heap) (H : Hp) (ea C : Addr) (h : Heap) : Prop := ∃ B a0, Heap.FlyingW B l ea (.ref C) a0 h ∧ Cov l h0 H B h
def CXE (P : Program) (w : World) : CXT := fun outer H s E e s' => ∃ ea C H', e = .ref ea ∧ s'.os = s.os ∧ AllBare s'.gens ∧ Un (frs outer) [] H H' s.heap s'.heap ∧ HOk P w H' s'.heap ∧ Fly outer s.heap H' ea C s'.heap ∧ E e (some C) H'
section
variable {l : List Env} {H : Hp} {B h h' hc : Heap} {P : Program} {w : World}
end
/-- the context of a def's body whose exceptions go on -/
structure Cx.Def (X : Cx) (E : XK) : Prop where
  stk : X.stack = X.env :: X.outer
  fr : X.env.frame = some X.env.locals
  ex : X.ex = []
  xe : X.xe = fun e s' => wpAny (model X.prog X.w) X.A (leaving X.env e) (fun _ s'' => CXE X.prog X.w X.outer X.H₀ X.s₀ E e s'') (fun e' s'' => CXE X.prog X.w X.outer X.H₀ X.s₀ E e' s'') s'
section
variable {X : Cx} {E : XK} {pins : List (Addr × Obj)} {σ : St} {H H' : Hp} {s s' : Shared}
end
section
variable {P : Program} {w : World} {K : PySem.W.Frag} {mg : Str → Option Value} {base : Heap}
end
end L2

namespace L2
open PySem PySem.Spec PyProof.Rows
section
variable {X : Cx} {E : XK}
/-- raise C(arg) -/
def tRaise (C : Addr) (E : XK) (ta : TA) : TS := fun _ σ H => ta σ H fun vs H1 => vs.length ≤ 1 ∧ ∀ ea, E (.ref ea) (some C) H1
end
end L2

namespace L2
open PySem PySem.Spec PyProof.Rows
/-- an exception that has come down -/
def ExcO (ea C : Addr) : HO := .ext fun h => ∃ o, h.get? ea = some o ∧ o.cls = .ref C
abbrev Cx.hnd (X : Cx) (ev : Value) : Cx := { X with A := X.A.mark (some ev), calm := false, xe := fun _ _ => False }
section
variable {X : Cx} {pins : List (Addr × Obj)} {σ : St} {H H1 : Hp} {s s1 : Shared} {ev : Value}
/-- a handler's class takes the exception -/
def Takes (X : Cx) (C CB : Addr) : Prop := ∀ (A : Around) (s : Shared) (ea : Addr) (ob : Obj) (Q : Bool → Shared → Prop) (E : Value → Shared → Prop), X.K.In s.heap → s.heap.get? ea = some ob → ob.cls = .ref C → Q true s → wpAny (model X.prog X.w) A (excMatches (.ref ea) (.ref CB)) Q E s
/-! ### try around one call -/
abbrev TX := St → Hp → VK → XK → Prop
def XP (X : Cx) (pins : List (Addr × Obj)) (σ : St) (E : XK) (ev : Value) (s' : Shared) : Prop := ∃ s1 H1 ea C H', Inv X pins σ H1 s1 ∧ ev = .ref ea ∧ Inv X pins σ H' s' ∧ Fly X.stack s1.heap H' ea C s'.heap ∧ E ev (some C) H'
def PEX (X : Cx) (e : Expr) (t : TX) : Prop :=
  ∀ (pins : List (Addr × Obj)) (s : Shared) (σ : St) (H : Hp) (Q : VK) (E : XK), Inv X pins σ H s → t σ H Q E → wpAny (model X.prog X.w) X.A (eval e X.env) (EP X pins σ Q) (XP X pins σ E) s
def xCall (sp : Sp) (dvs : List V) (t : TA) : TX := fun σ H Q E => t σ H fun vs H1 => sp (vs ++ dvs) H1 Q E
end
section
variable {X : Cx} {k : Nat} {f C : Addr} {fd : FuncData} {ps : List Str} {sp : Sp} {dvs : List V} {ds : List Value} {x : Str} {p pos : Pos} {e : Expr} {es : List Expr} {t : TA}
end
section
variable {X : Cx} {e : Expr} {t : TX} {C CB : Addr} {cx y : Str} {np hpos pos py apos : Pos} {b₀ : Stmt} {suite : List Stmt} {th : TS} {j : Nat}
def tTrySet (j : Nat) (C : Addr) (t : TX) (th : TS) : TS := fun D σ H => t σ H (fun v H1 => D.nx (σ.set j (some v)) H1) fun ev c H1 => ∃ ea, ev = .ref ea ∧ c = some C ∧ (H1 ea = none → th D σ (upd H1 ea (ExcO ea C)))
def tTryDrop (C : Addr) (t : TX) (th : TS) : TS := fun D σ H => t σ H (fun _ H1 => D.nx σ H1) fun ev c H1 => ∃ ea, ev = .ref ea ∧ c = some C ∧ (H1 ea = none → th D σ (upd H1 ea (ExcO ea C)))
end
end L2

namespace L2
open PySem PySem.Spec PyProof.Rows PySem.Builtin PySem.Builtin.ObjectAttr PySem.Builtin.Getset_descriptor
/-! ### the kind of an exception of an own class -/
section
variable {prog : Program} {w : World} {A : Around} {E : Value → Shared → Prop} {s : Shared} {K : PySem.W.Frag} {x D : Addr} {ox : Obj}
/-- what the top must say of such a class -/
structure ExcK (K : PySem.W.Frag) (D : Addr) : Prop where
  ga : PySem.W.findIn K (.ref D) "__getattribute__" = some (some (.builtin "BaseException.__getattribute__"))
  gh : PySem.W.findIn K (.ref D) "__getattr__" = some none
  ha : PySem.W.findIn K (.ref D) "__class__" = some (some (.builtin "object.__class__"))
  hn : PySem.W.specialIn K (.builtin "object.__class__") "__get__" = some (some (.builtin "getset_descriptor.__get__"))
  htk : PySem.W.takesIn K (.builtin "object.__class__") = some true
  hm : PySem.W.mroIn K D (.type "object") = some true
  hb : PySem.W.mroIn K D (.type "BaseException") = some true
end
end L2

namespace L2
open PySem PySem.Spec PyProof.Rows
section
variable {K : PySem.W.Frag} {x D : Addr}
end
section
variable {X : Cx}
end
section
variable {X : Cx} {pins : List (Addr × Obj)} {σ : St} {H H1 : Hp} {s s1 : Shared} {ev : Value}
def Ends.gone (D : Ends) (i : Nat) : Ends := ⟨fun σ H => D.nx (σ.set i none) H, D.rt, fun σ H => D.bk (σ.set i none) H, fun σ H => D.ct (σ.set i none) H⟩
end
section
variable {X : Cx} {e : Expr} {t : TX} {C CB : Addr} {cx n : Str} {np hpos pos epos : Pos} {b₀ : Stmt} {suite : List Stmt} {th : TS} {i : Nat}
/-- try: one call, dropped; except CB as n -/
def tTryAs (i : Nat) (C : Addr) (t : TX) (th : TS) : TS := fun D σ H => t σ H (fun _ H1 => D.nx σ H1) fun ev c H1 => ∃ ea, ev = .ref ea ∧ c = some C ∧ (H1 ea = none → th (D.gone i) (σ.set i (some (.ref ea))) (upd H1 ea (ExcO ea C)))
end
end L2

/-! data that == compares: flat values and tuples of them; lists of such -/
namespace L2
open PySem PySem.Spec PyProof.Rows
section
variable {P : Program} {w : World} {K : PySem.W.Frag} {H : Hp} {h : Heap} {a b : Addr} {xs ys : List V}
theorem sqL_raw (hok : HOk P w H h) (kin : K.In h) (q : SqL K H a xs) : ∃ its : List Value, Vals xs its ∧ PlainL h a its.toArray ∧ xs.length ≤ sizeLine := by
  rcases q with q | ⟨o, its, n, hk, hc, hd, hs, hz, r⟩
  · obtain ⟨z, its, n, r, e⟩ := q.ok hok
    exact ⟨its, r, ⟨_, n, e, rfl, rfl, rfl⟩, z⟩
  · refine ⟨its.toList, r, ⟨o, n, kin a o hk, hc, hd, by simpa using hs⟩, ?_⟩
    have e := r.length
    simp only [Array.length_toList] at e
    omega
theorem sqT_raw (hok : HOk P w H h) (kin : K.In h) (q : SqT K H a xs) : ∃ its : List Value, Vals xs its ∧ IsTup h a its.toArray ∧ xs.length ≤ sizeLine := by
  rcases q with q | ⟨o, its, n, hk, hc, hs, hz, r⟩
  · obtain ⟨z, its, r, p⟩ := q.ok hok
    exact ⟨its, r, p, z⟩
  · refine ⟨its.toList, r, ⟨o, kin a o hk, hc, n, by simpa using hs⟩, ?_⟩
    have e := r.length
    simp only [Array.length_toList] at e
    omega
theorem sqT_inj (hok : HOk P w H h) (kin : K.In h) (q : SqT K H a xs) (q' : SqT K H a ys) : xs = ys := by
  obtain ⟨its, r, ⟨o, e, _, n, d⟩, _⟩ := sqT_raw hok kin q
  obtain ⟨its', r', ⟨o', e', _, n', d'⟩, _⟩ := sqT_raw hok kin q'
  rw [e] at e'; cases e'
  rw [d] at d'
  injection d' with d1 _
  have : its = its' := by simpa using congrArg Array.toList d1
  subst this
  exact r.inj r'
/-- a tuple: a new one, or one of the module -/
def SqU (K : PySem.W.Frag) (H : Hp) (a : Addr) (xs : List V) : Prop :=
  H a = some (.tup xs) ∨ ∃ (o : Obj) (its : Array Value) (n : Nat), K.lookup a = some o ∧ o.cls = .type "tuple" ∧ o.data = .seq its n ∧ its.size ≤ sizeLine ∧ Vals xs its.toList
theorem SqU.sq (q : SqU K H a xs) : SqT K H a xs := q.elim (fun z => .inl (.inl z)) .inr
/-- the tuples stay -/
def TSame (H H' : Hp) : Prop := ∀ b xs, H b = some (.tup xs) → H' b = some (.tup xs)
theorem Same.ts {H H' : Hp} (e : Same H H') : TSame H H' := fun b xs h => e b _ h
theorem SqU.keep {H' : Hp} (e : TSame H H') (q : SqU K H a xs) : SqU K H' a xs := q.elim (fun z => .inl (e _ _ z)) .inr
end
/-! ### answers of == and != -/
def EqIs (K : PySem.W.Frag) (n : Nat) (H : Hp) (x y : V) (b : Bool) : Prop :=
  ∀ (P : Program) (w : World) (A : Around) (s : Shared) (u v : Value), A.units + n < cLine → HOk P w H s.heap → K.In s.heap → RelV x u → RelV y v → SeqAt.EqAt A s u v b
def RcIs (K : PySem.W.Frag) (n : Nat) (H : Hp) (x y : V) (b : Bool) : Prop :=
  ∀ (P : Program) (w : World) (A : Around) (s : Shared) (u v : Value), A.units + n < cLine → HOk P w H s.heap → K.In s.heap → RelV x u → RelV y v → SeqAt.RcAt A s u v b
def NeIs (K : PySem.W.Frag) (n : Nat) (H : Hp) (x y : V) (b : Bool) : Prop :=
  ∀ (P : Program) (w : World) (A : Around) (s : Shared) (u v : Value), A.units + n < cLine → HOk P w H s.heap → K.In s.heap → RelV x u → RelV y v → SeqAt.RcNeAt A s u v (!b)
section
variable {K : PySem.W.Frag} {H : Hp} {a b : Addr} {n m : Nat} {x y : V} {r : Bool}
theorem EqIs.mono (h : EqIs K n H x y r) (le : n ≤ m) : EqIs K m H x y r := fun P w A s u v hA => h P w A s u v (by omega)
theorem tupRc {us vs : List V} {e : Nat → Bool} (ha : SqT K H a us) (hb : SqT K H b vs) (hl : us.length = vs.length) (he : ∀ (j : Nat) x y, us[j]? = some x → vs[j]? = some y → EqIs K n H x y (e j)) :
    RcIs K (n + 1) H (.ref a) (.ref b) ((List.range us.length).all e) ∧ NeIs K (n + 1) H (.ref a) (.ref b) ((List.range us.length).all e) := by
  have main : ∀ (P : Program) (w : World) (A : Around) (s : Shared) (u v : Value), A.units + (n + 1) < cLine → HOk P w H s.heap → K.In s.heap → RelV (.ref a) u → RelV (.ref b) v →
      SeqAt.RcAt A s u v ((List.range us.length).all e) ∧ SeqAt.RcNeAt A s u v (!(List.range us.length).all e) := by
    intro P w A s u v hA hok kin r1 r2
    cases r1
    cases r2
    obtain ⟨i1, v1, p1, _⟩ := sqT_raw hok kin ha
    obtain ⟨i2, v2, p2, _⟩ := sqT_raw hok kin hb
    have l1 := v1.length
    have l2 := v2.length
    have items : ∀ j (h1 : j < i1.toArray.size) (h2 : j < i2.toArray.size), SeqAt.EqAt A.in1 s i1.toArray[j] i2.toArray[j] (e j) := fun j h1 h2 => by
      have h1' : j < i1.length := by simpa using h1
      have h2' : j < i2.length := by simpa using h2
      have e1 : us[j]? = some us[j] := List.getElem?_eq_getElem (by omega)
      have e2 : vs[j]? = some vs[j] := List.getElem?_eq_getElem (by omega)
      obtain ⟨u, eu, ru⟩ := v1.get e1
      obtain ⟨v, ev, rv⟩ := v2.get e2
      have q := he j _ _ e1 e2 P w A.in1 s u v (by show A.units + 1 + n < cLine; omega) hok kin ru rv
      have z1 : i1.toArray[j] = u := by
        rw [List.getElem?_eq_getElem h1'] at eu
        simpa using Option.some.inj eu
      have z2 : i2.toArray[j] = v := by
        rw [List.getElem?_eq_getElem h2'] at ev
        simpa using Option.some.inj ev
      rw [z1, z2]
      exact q
    have ez : ((List.range (min i1.toArray.size i2.toArray.size)).all e && i1.toArray.size == i2.toArray.size) = (List.range us.length).all e := by
      have s1 : i1.toArray.size = us.length := by simp [l1]
      have s2 : i2.toArray.size = us.length := by simp [← l2, hl]
      rw [s1, s2, Nat.min_self]
      simp
    constructor
    · have q := SeqAt.RcAt.tuples (A := A) (s := s) (e := e) p1 p2 (by omega) items
      rw [ez] at q
      exact q
    · have q := SeqAt.RcNeAt.tuples (A := A) (s := s) (e := e) p1 p2 (by omega) items
      rw [ez] at q
      exact q
  exact ⟨fun P w A s u v h1 h2 h3 h4 h5 => (main P w A s u v h1 h2 h3 h4 h5).1, fun P w A s u v h1 h2 h3 h4 h5 => (main P w A s u v h1 h2 h3 h4 h5).2⟩
theorem eqIs_ref (h : RcIs K n H (.ref a) (.ref b) r) (hs : ∀ (P : Program) (w : World) (h : Heap), HOk P w H h → K.In h → a = b → r = true) : EqIs K n H (.ref a) (.ref b) r := by
  intro P w A s u v hA hok kin r1 r2
  have q := h P w A s u v hA hok kin r1 r2
  cases r1
  cases r2
  by_cases e : a = b
  · rw [hs P w s.heap hok kin e, e]
    exact SeqAt.EqAt.same _
  · exact SeqAt.EqAt.of_refs e q
end
/-- a kind of data: how it lies, that it lies for one thing alone, and what == and != tell of it -/
structure Cod (α : Type) [DecidableEq α] where
  n : Nat
  rp : PySem.W.Frag → Hp → α → V → Prop
  inj : ∀ {P : Program} {w : World} {K : PySem.W.Frag} {H : Hp} {h : Heap} {x y : α} {v : V}, HOk P w H h → K.In h → rp K H x v → rp K H y v → x = y
  eq : ∀ {K : PySem.W.Frag} {H : Hp} {x y : α} {u v : V}, rp K H x u → rp K H y v → EqIs K n H u v (decide (x = y))
  rc : ∀ {K : PySem.W.Frag} {H : Hp} {x y : α} {u v : V}, rp K H x u → rp K H y v → RcIs K n H u v (decide (x = y))
  ne : ∀ {K : PySem.W.Frag} {H : Hp} {x y : α} {u v : V}, rp K H x u → rp K H y v → NeIs K n H u v (decide (x = y))
  keep : ∀ {K : PySem.W.Frag} {H H' : Hp} {x : α} {v : V}, TSame H H' → rp K H x v → rp K H' x v
def cInt : Cod Int where
  n := 0
  rp _ _ i v := v = .int i
  inj _ _ h1 h2 := by
    rw [h1] at h2
    exact V.int.inj h2
  eq h1 h2 := by
    intro P w A s u v _ _ _ r1 r2
    subst h1 h2
    obtain ⟨t, rfl⟩ := r1
    obtain ⟨t', rfl⟩ := r2
    rw [← Bool.beq_eq_decide_eq]
    exact SeqAt.EqAt.int_int _ t _ t'
  rc h1 h2 := by
    intro P w A s u v _ _ _ r1 r2
    subst h1 h2
    obtain ⟨t, rfl⟩ := r1
    obtain ⟨t', rfl⟩ := r2
    rw [← Bool.beq_eq_decide_eq]
    exact SeqAt.RcAt.int_int _ t _ t'
  ne h1 h2 := by
    intro P w A s u v _ _ _ r1 r2
    subst h1 h2
    obtain ⟨t, rfl⟩ := r1
    obtain ⟨t', rfl⟩ := r2
    rw [← Bool.beq_eq_decide_eq]
    exact SeqAt.RcNeAt.int_int _ t _ t'
  keep _ h := h
theorem str_beq_dec (x y : Str) : decide (x = y) = (x == y) := by
  rw [Bool.eq_iff_iff]
  simp
def cStr : Cod Str where
  n := 0
  rp _ _ i v := v = .str i
  inj _ _ h1 h2 := by
    rw [h1] at h2
    exact V.str.inj h2
  eq h1 h2 := by
    intro P w A s u v _ _ _ r1 r2
    subst h1 h2
    obtain ⟨t, rfl⟩ := r1
    obtain ⟨t', rfl⟩ := r2
    rw [str_beq_dec]
    exact SeqAt.EqAt.str_str _ t _ t'
  rc h1 h2 := by
    intro P w A s u v _ _ _ r1 r2
    subst h1 h2
    obtain ⟨t, rfl⟩ := r1
    obtain ⟨t', rfl⟩ := r2
    rw [str_beq_dec]
    exact SeqAt.RcAt.str_str _ t _ t'
  ne h1 h2 := by
    intro P w A s u v _ _ _ r1 r2
    subst h1 h2
    obtain ⟨t, rfl⟩ := r1
    obtain ⟨t', rfl⟩ := r2
    rw [str_beq_dec]
    exact SeqAt.RcNeAt.str_str _ t _ t'
  keep _ h := h
def cBl : Cod Bool where
  n := 0
  rp _ _ i v := v = .bl i
  inj _ _ h1 h2 := by
    rw [h1] at h2
    exact V.bl.inj h2
  eq h1 h2 := by
    intro P w A s u v _ _ _ r1 r2
    subst h1 h2
    cases r1
    cases r2
    rw [← Bool.beq_eq_decide_eq]
    exact SeqAt.EqAt.bool_bool _ _
  rc h1 h2 := by
    intro P w A s u v _ _ _ r1 r2
    subst h1 h2
    cases r1
    cases r2
    rw [← Bool.beq_eq_decide_eq]
    exact SeqAt.RcAt.bool_bool _ _
  ne h1 h2 := by
    intro P w A s u v _ _ _ r1 r2
    subst h1 h2
    cases r1
    cases r2
    rw [← Bool.beq_eq_decide_eq]
    exact SeqAt.RcNeAt.bool_bool _ _
  keep _ h := h
section
variable {α β γ : Type} [DecidableEq α] [DecidableEq β] [DecidableEq γ]
def cVia (f : β → α) (hf : ∀ x y, f x = f y → x = y) (c : Cod α) : Cod β where
  n := c.n
  rp K H x v := c.rp K H (f x) v
  inj h1 h2 h3 h4 := hf _ _ (c.inj h1 h2 h3 h4)
  eq {K H x y u v} h1 h2 := by
    have e : decide (x = y) = decide (f x = f y) := decide_eq_decide.mpr ⟨fun z => by rw [z], fun z => hf _ _ z⟩
    rw [e]
    exact c.eq h1 h2
  rc {K H x y u v} h1 h2 := by
    have e : decide (x = y) = decide (f x = f y) := decide_eq_decide.mpr ⟨fun z => by rw [z], fun z => hf _ _ z⟩
    rw [e]
    exact c.rc h1 h2
  ne {K H x y u v} h1 h2 := by
    have e : decide (x = y) = decide (f x = f y) := decide_eq_decide.mpr ⟨fun z => by rw [z], fun z => hf _ _ z⟩
    rw [e]
    exact c.ne h1 h2
  keep h1 h2 := c.keep h1 h2
def rT2 (c : Cod α) (d : Cod β) (K : PySem.W.Frag) (H : Hp) (x : α × β) (v : V) : Prop := ∃ a u w, v = .ref a ∧ SqU K H a [u, w] ∧ c.rp K H x.1 u ∧ d.rp K H x.2 w
theorem rT2_inj {c : Cod α} {d : Cod β} {P : Program} {w : World} {K : PySem.W.Frag} {H : Hp} {h : Heap} {x y : α × β} {v : V} (hok : HOk P w H h) (kin : K.In h) (h1 : rT2 c d K H x v) (h2 : rT2 c d K H y v) : x = y := by
  obtain ⟨a, u, t, rfl, ha, hu, ht⟩ := h1
  obtain ⟨b, u', t', e, hb, hu', ht'⟩ := h2
  cases e
  have z := sqT_inj hok kin ha.sq hb.sq
  cases z
  exact Prod.ext (c.inj hok kin hu hu') (d.inj hok kin ht ht')
theorem rT2_rc {c : Cod α} {d : Cod β} {K : PySem.W.Frag} {H : Hp} {x y : α × β} {u v : V} (h1 : rT2 c d K H x u) (h2 : rT2 c d K H y v) :
    RcIs K (max c.n d.n + 1) H u v (decide (x = y)) ∧ NeIs K (max c.n d.n + 1) H u v (decide (x = y)) := by
  obtain ⟨a, u, t, rfl, ha, hu, ht⟩ := h1
  obtain ⟨b, u', t', rfl, hb, hu', ht'⟩ := h2
  have T := tupRc (n := max c.n d.n) (e := fun j => if j = 0 then decide (x.1 = y.1) else decide (x.2 = y.2)) ha.sq hb.sq rfl (fun j p q e1 e2 => by
    match j, e1, e2 with
    | 0, e1, e2 => cases e1; cases e2; exact (c.eq hu hu').mono (Nat.le_max_left _ _)
    | 1, e1, e2 => cases e1; cases e2; exact (d.eq ht ht').mono (Nat.le_max_right _ _))
  have e : ((List.range ([u, t] : List V).length).all fun j => if j = 0 then decide (x.1 = y.1) else decide (x.2 = y.2)) = decide (x = y) := by
    show (decide (x.1 = y.1) && (decide (x.2 = y.2) && true)) = decide (x = y)
    rw [Bool.and_true, ← Bool.decide_and]
    exact decide_eq_decide.mpr (Prod.ext_iff (x := x) (y := y)).symm
  rw [e] at T
  exact T
def cT2 (c : Cod α) (d : Cod β) : Cod (α × β) where
  n := max c.n d.n + 1
  rp := rT2 c d
  inj := rT2_inj
  rc h1 h2 := (rT2_rc h1 h2).1
  ne h1 h2 := (rT2_rc h1 h2).2
  eq {K H x y u v} h1 h2 := by
    have r := (rT2_rc h1 h2).1
    have i := fun P w h hok kin => rT2_inj (c := c) (d := d) (P := P) (w := w) (K := K) (H := H) (h := h) (x := x) (y := y) (v := v) hok kin
    obtain ⟨a, _, _, rfl, _⟩ := id h1
    obtain ⟨b, _, _, rfl, _⟩ := id h2
    refine eqIs_ref r fun P w h hok kin e => ?_
    subst e
    exact decide_eq_true (i P w h hok kin h1 h2)
  keep e h := let ⟨a, u, w, h1, h2, h3, h4⟩ := h; ⟨a, u, w, h1, h2.keep e, c.keep e h3, d.keep e h4⟩
def rT3 (c : Cod α) (d : Cod β) (f : Cod γ) (K : PySem.W.Frag) (H : Hp) (x : α × β × γ) (v : V) : Prop := ∃ a u w z, v = .ref a ∧ SqU K H a [u, w, z] ∧ c.rp K H x.1 u ∧ d.rp K H x.2.1 w ∧ f.rp K H x.2.2 z
theorem rT3_inj {c : Cod α} {d : Cod β} {f : Cod γ} {P : Program} {w : World} {K : PySem.W.Frag} {H : Hp} {h : Heap} {x y : α × β × γ} {v : V} (hok : HOk P w H h) (kin : K.In h) (h1 : rT3 c d f K H x v) (h2 : rT3 c d f K H y v) : x = y := by
  obtain ⟨a, u, t, z, rfl, ha, hu, ht, hz⟩ := h1
  obtain ⟨b, u', t', z', e, hb, hu', ht', hz'⟩ := h2
  cases e
  have q := sqT_inj hok kin ha.sq hb.sq
  cases q
  exact Prod.ext (c.inj hok kin hu hu') (Prod.ext (d.inj hok kin ht ht') (f.inj hok kin hz hz'))
theorem rT3_rc {c : Cod α} {d : Cod β} {f : Cod γ} {K : PySem.W.Frag} {H : Hp} {x y : α × β × γ} {u v : V} (h1 : rT3 c d f K H x u) (h2 : rT3 c d f K H y v) :
    RcIs K (max c.n (max d.n f.n) + 1) H u v (decide (x = y)) ∧ NeIs K (max c.n (max d.n f.n) + 1) H u v (decide (x = y)) := by
  obtain ⟨a, u, t, z, rfl, ha, hu, ht, hz⟩ := h1
  obtain ⟨b, u', t', z', rfl, hb, hu', ht', hz'⟩ := h2
  have T := tupRc (n := max c.n (max d.n f.n)) (e := fun j => if j = 0 then decide (x.1 = y.1) else if j = 1 then decide (x.2.1 = y.2.1) else decide (x.2.2 = y.2.2)) ha.sq hb.sq rfl (fun j p q e1 e2 => by
    match j, e1, e2 with
    | 0, e1, e2 => cases e1; cases e2; exact (c.eq hu hu').mono (Nat.le_max_left _ _)
    | 1, e1, e2 => cases e1; cases e2; exact (d.eq ht ht').mono (Nat.le_trans (Nat.le_max_left _ _) (Nat.le_max_right _ _))
    | 2, e1, e2 => cases e1; cases e2; exact (f.eq hz hz').mono (Nat.le_trans (Nat.le_max_right _ _) (Nat.le_max_right _ _)))
  have e : ((List.range ([u, t, z] : List V).length).all fun j => if j = 0 then decide (x.1 = y.1) else if j = 1 then decide (x.2.1 = y.2.1) else decide (x.2.2 = y.2.2)) = decide (x = y) := by
    show (decide (x.1 = y.1) && (decide (x.2.1 = y.2.1) && (decide (x.2.2 = y.2.2) && true))) = decide (x = y)
    rw [Bool.and_true, ← Bool.decide_and, ← Bool.decide_and]
    refine decide_eq_decide.mpr ⟨fun z => Prod.ext z.1 (Prod.ext z.2.1 z.2.2), fun z => ?_⟩
    rw [z]
    exact ⟨rfl, rfl, rfl⟩
  rw [e] at T
  exact T
def cT3 (c : Cod α) (d : Cod β) (f : Cod γ) : Cod (α × β × γ) where
  n := max c.n (max d.n f.n) + 1
  rp := rT3 c d f
  inj := rT3_inj
  rc h1 h2 := (rT3_rc h1 h2).1
  ne h1 h2 := (rT3_rc h1 h2).2
  eq {K H x y u v} h1 h2 := by
    have r := (rT3_rc h1 h2).1
    have i := fun P w h hok kin => rT3_inj (c := c) (d := d) (f := f) (P := P) (w := w) (K := K) (H := H) (h := h) (x := x) (y := y) (v := v) hok kin
    obtain ⟨a, _, _, _, rfl, _⟩ := id h1
    obtain ⟨b, _, _, _, rfl, _⟩ := id h2
    refine eqIs_ref r fun P w h hok kin e => ?_
    subst e
    exact decide_eq_true (i P w h hok kin h1 h2)
  keep e h := let ⟨a, u, w, z, h1, h2, h3, h4, h5⟩ := h; ⟨a, u, w, z, h1, h2.keep e, c.keep e h3, d.keep e h4, f.keep e h5⟩
end
/-! ### lists of such data -/
section
variable {α : Type} [DecidableEq α] {K : PySem.W.Frag} {H : Hp}
theorem _root_.PySem.Paired.get {β γ : Type} {R : β → γ → Prop} : ∀ {xs : List β} {us : List γ}, Paired R xs us → ∀ {j : Nat} {u : γ}, us[j]? = some u → ∃ x, xs[j]? = some x ∧ R x u
  | _, _, .nil, j, u, e => by simp at e
  | _, _, .cons r t, 0, u, e => by simp at e; subst e; exact ⟨_, rfl, r⟩
  | _, _, .cons r t, j + 1, u, e => PySem.Paired.get t (j := j) (by simpa using e)
theorem _root_.PySem.Paired.get1 {β γ : Type} {R : β → γ → Prop} : ∀ {xs : List β} {us : List γ}, Paired R xs us → ∀ {j : Nat} {x : β}, xs[j]? = some x → ∃ u, us[j]? = some u ∧ R x u
  | _, _, .nil, j, u, e => by simp at e
  | _, _, .cons r t, 0, u, e => by simp at e; subst e; exact ⟨_, rfl, r⟩
  | _, _, .cons r t, j + 1, u, e => PySem.Paired.get1 t (j := j) (by simpa using e)
theorem _root_.PySem.Paired.len {β γ : Type} {R : β → γ → Prop} : ∀ {xs : List β} {us : List γ}, Paired R xs us → xs.length = us.length
  | _, _, .nil => rfl
  | _, _, .cons r t => by simp [PySem.Paired.len t]
theorem _root_.PySem.Paired.app {β γ : Type} {R : β → γ → Prop} : ∀ {xs ys : List β} {us vs : List γ}, Paired R xs us → Paired R ys vs → Paired R (xs ++ ys) (us ++ vs)
  | _, _, _, _, .nil, s => s
  | _, _, _, _, .cons r t, s => .cons r (PySem.Paired.app t s)
theorem range_all_eq {xs ys : List α} {n : Nat} (h1 : xs.length = n) (h2 : ys.length = n) : ((List.range n).all fun j => decide (xs[j]? = ys[j]?)) = decide (xs = ys) := by
  rw [Bool.eq_iff_iff, List.all_eq_true, decide_eq_true_eq]
  constructor
  · intro h
    apply List.ext_getElem?
    intro i
    by_cases hi : i < n
    · exact of_decide_eq_true (h i (List.mem_range.mpr hi))
    · rw [List.getElem?_eq_none (by omega), List.getElem?_eq_none (by omega)]
  · intro h i _
    rw [h]
    exact decide_eq_true rfl
theorem listRc {c : Cod α} {a b : Addr} {us vs : List V} {xs ys : List α} (ha : SqL K H a us) (hb : SqL K H b vs) (px : Paired (c.rp K H) xs us) (py : Paired (c.rp K H) ys vs) :
    RcIs K (c.n + 1) H (.ref a) (.ref b) (decide (xs = ys)) ∧ NeIs K (c.n + 1) H (.ref a) (.ref b) (decide (xs = ys)) := by
  have main : ∀ (P : Program) (w : World) (A : Around) (s : Shared) (u v : Value), A.units + (c.n + 1) < cLine → HOk P w H s.heap → K.In s.heap → RelV (.ref a) u → RelV (.ref b) v →
      SeqAt.RcAt A s u v (decide (xs = ys)) ∧ SeqAt.RcNeAt A s u v (!decide (xs = ys)) := by
    intro P w A s u v hA hok kin r1 r2
    cases r1
    cases r2
    obtain ⟨i1, v1, p1, _⟩ := sqL_raw hok kin ha
    obtain ⟨i2, v2, p2, _⟩ := sqL_raw hok kin hb
    have l1 := v1.length
    have l2 := v2.length
    have m1 := px.len
    have m2 := py.len
    by_cases hl : i1.length = i2.length
    · have items : ∀ j (h1 : j < i1.toArray.size) (h2 : j < i2.toArray.size), SeqAt.EqAt A.in1 s i1.toArray[j] i2.toArray[j] (decide (xs[j]? = ys[j]?)) := fun j h1 h2 => by
        have h1' : j < i1.length := by simpa using h1
        have h2' : j < i2.length := by simpa using h2
        have e1 : us[j]? = some us[j] := List.getElem?_eq_getElem (by omega)
        have e2 : vs[j]? = some vs[j] := List.getElem?_eq_getElem (by omega)
        obtain ⟨u, eu, ru⟩ := v1.get e1
        obtain ⟨v, ev, rv⟩ := v2.get e2
        obtain ⟨x, ex, rx⟩ := px.get e1
        obtain ⟨y, ey, ry⟩ := py.get e2
        have q := c.eq rx ry P w A.in1 s u v (by show A.units + 1 + c.n < cLine; omega) hok kin ru rv
        have z1 : i1.toArray[j] = u := by
          rw [List.getElem?_eq_getElem h1'] at eu
          simpa using Option.some.inj eu
        have z2 : i2.toArray[j] = v := by
          rw [List.getElem?_eq_getElem h2'] at ev
          simpa using Option.some.inj ev
        rw [z1, z2, ex, ey]
        have e : decide ((some x : Option α) = some y) = decide (x = y) := decide_eq_decide.mpr ⟨fun z => Option.some.inj z, fun z => by rw [z]⟩
        rw [e]
        exact q
      have ez : (List.range i1.toArray.size).all (fun j => decide (xs[j]? = ys[j]?)) = decide (xs = ys) := range_all_eq (by rw [List.size_toArray]; omega) (by rw [List.size_toArray]; omega)
      constructor
      · have q := SeqAt.RcAt.lists (A := A) (s := s) p1.isList p2.isList (by simpa using hl) (by omega) items
        rw [ez] at q
        exact q
      · have q := SeqAt.RcNeAt.lists (A := A) (s := s) p1.isList p2.isList (by simpa using hl) (by omega) items
        rw [ez] at q
        exact q
    · have hsz : (i1.toArray.size != i2.toArray.size) = true := by simpa using hl
      have e : decide (xs = ys) = false := decide_eq_false fun z => hl (by rw [← l1, ← l2, ← m1, ← m2, z])
      rw [e]
      exact ⟨SeqAt.RcAt.lists_lengths p1.isList p2.isList hsz (by omega), SeqAt.RcNeAt.lists_lengths p1.isList p2.isList hsz (by omega)⟩
  exact ⟨fun P w A s u v h1 h2 h3 h4 h5 => (main P w A s u v h1 h2 h3 h4 h5).1, fun P w A s u v h1 h2 h3 h4 h5 => (main P w A s u v h1 h2 h3 h4 h5).2⟩
end
section
variable {X : Cx} {α : Type} [DecidableEq α]
theorem hun {c : Nat} {k : Nat} {A : Around} (hr : Room k A) (h : c ≤ 60 := by decide) : A.units + c + 1 < cLine := by
  have := hr.units
  omega
theorem op_eqC (c : Cod α) (hu : X.A.units + c.n + 1 < cLine) : OpR X (compareOp .Eq) (fun x y H Q => ∃ a b, c.rp X.K H a x ∧ c.rp X.K H b y ∧ Q (.bl (decide (a = b))) H) := by
  intro pins s σ H x y v u Q I rx ry h
  obtain ⟨a, b, ha, hb, q⟩ := h
  exact c.rc ha hb X.prog X.w X.A s v u (by omega) I.hok I.kIn rx ry X.prog X.w X.xe _ ⟨.bl _, H, I, rfl, q⟩
/-- a list of such data -/
def LsOf (c : Cod α) (K : PySem.W.Frag) (H : Hp) (xs : List α) (v : V) : Prop := ∃ a us, v = .ref a ∧ SqL K H a us ∧ Paired (c.rp K H) xs us
theorem op_neL (c : Cod α) (hu : X.A.units + c.n + 1 < cLine) : OpR X (compareOp .NotEq) (fun x y H Q => ∃ xs ys, LsOf c X.K H xs x ∧ LsOf c X.K H ys y ∧ Q (.bl (!decide (xs = ys))) H) := by
  intro pins s σ H x y v u Q I rx ry h
  obtain ⟨xs, ys, ⟨a, us, rfl, ha, px⟩, ⟨b, vs, rfl, hb, py⟩, q⟩ := h
  exact (listRc ha hb px py).2 X.prog X.w X.A s v u (by omega) I.hok I.kIn rx ry X.prog X.w X.xe _ ⟨.bl _, H, I, rfl, q⟩
noncomputable def eqR (c : Cod α) (K : PySem.W.Frag) (H : Hp) (a : α) (u : Value) : Bool := @decide (∃ v, RelV v u ∧ c.rp K H a v) (Classical.propDecidable _)
theorem eqR_of {c : Cod α} {P : Program} {w : World} {K : PySem.W.Frag} {H : Hp} {h : Heap} {a z : α} {v : V} {u : Value} (hok : HOk P w H h) (kin : K.In h) (r : RelV v u) (q : c.rp K H z v) : eqR c K H a u = decide (z = a) := by
  unfold eqR
  by_cases e : z = a
  · subst e
    rw [decide_eq_true (show z = z from rfl)]
    exact @decide_eq_true _ (Classical.propDecidable _) ⟨v, r, q⟩
  · rw [decide_eq_false e]
    refine @decide_eq_false _ (Classical.propDecidable _) fun ⟨v', r', q'⟩ => e ?_
    have := r.inj r'
    subst this
    exact c.inj hok kin q q'
theorem any_eqR {c : Cod α} {P : Program} {w : World} {K : PySem.W.Frag} {H : Hp} {h : Heap} {a : α} (hok : HOk P w H h) (kin : K.In h) : ∀ {xs : List α} {us : List V} {its : List Value}, Paired (c.rp K H) xs us → Vals us its → its.any (eqR c K H a) = decide (a ∈ xs)
  | _, _, _, .nil, .nil => by simp
  | x :: xs, _, _, .cons p t, .cons r s => by
    rw [List.any_cons, eqR_of hok kin r p, any_eqR hok kin t s, Bool.eq_iff_iff]
    simp only [Bool.or_eq_true, decide_eq_true_eq, List.mem_cons]
    exact ⟨fun z => z.elim (fun e => .inl e.symm) .inr, fun z => z.elim (fun e => .inl e.symm) .inr⟩
theorem mem_eqR {c : Cod α} {P : Program} {w : World} {A : Around} {s : Shared} {K : PySem.W.Frag} {H : Hp} {a : α} {x : V} {v : Value} (hok : HOk P w H s.heap) (kin : K.In s.heap) (hA : A.units + c.n < cLine) (rx : RelV x v) (qx : c.rp K H a x) :
    ∀ {xs : List α} {us : List V} {its : List Value}, Paired (c.rp K H) xs us → Vals us its → ∀ u ∈ its, SeqAt.EqAt A s u v (eqR c K H a u)
  | _, _, _, .nil, .nil => fun u hu => by cases hu
  | _, _, _, .cons p t, .cons r q => fun u' hu => by
    rcases List.mem_cons.mp hu with rfl | hu
    · rw [eqR_of hok kin r p]
      exact c.eq p qx P w A s _ v hA hok kin r rx
    · exact mem_eqR hok kin hA rx qx t q u' hu
def rInC (c : Cod α) (K : PySem.W.Frag) : R2 := fun x y H Q => ∃ a p us xs, c.rp K H a x ∧ y = .ref p ∧ (SqL K H p us ∨ SqT K H p us) ∧ Paired (c.rp K H) xs us ∧ Q (.bl (decide (a ∈ xs))) H
def rNinC (c : Cod α) (K : PySem.W.Frag) : R2 := fun x y H Q => ∃ a p us xs, c.rp K H a x ∧ y = .ref p ∧ (SqL K H p us ∨ SqT K H p us) ∧ Paired (c.rp K H) xs us ∧ Q (.bl (!decide (a ∈ xs))) H
theorem op_inC (c : Cod α) (hu : X.A.units + c.n + 1 < cLine) : OpR X (compareOp .In) (rInC c X.K) := by
  intro pins s σ H x y v u Q I rx ry h
  obtain ⟨a, p, us, xs, ha, rfl, hq, px, q⟩ := h
  cases ry
  rcases hq with hq | hq
  · obtain ⟨its, r, pl, hz⟩ := I.list hq
    refine SeqAt.in_listAt (eqR c X.K H a) pl.isList (fun w hw => mem_eqR I.hok I.kIn (by show X.A.units + 1 + c.n < cLine; omega) rx ha px r w (by simpa using hw)) ⟨.bl _, H, I, rfl, ?_⟩
    rw [show its.toArray.any (eqR c X.K H a) = its.any (eqR c X.K H a) by simp, any_eqR I.hok I.kIn px r]
    exact q
  · obtain ⟨its, r, pl, hz⟩ := I.tuple hq
    refine SeqAt.in_tupleAt (eqR c X.K H a) pl (fun w hw => mem_eqR I.hok I.kIn (by show X.A.units + 1 + c.n < cLine; omega) rx ha px r w (by simpa using hw)) ⟨.bl _, H, I, rfl, ?_⟩
    rw [show its.toArray.any (eqR c X.K H a) = its.any (eqR c X.K H a) by simp, any_eqR I.hok I.kIn px r]
    exact q
theorem op_notinC (c : Cod α) (hu : X.A.units + c.n + 1 < cLine) : OpR X (compareOp .NotIn) (rNinC c X.K) := by
  intro pins s σ H x y v u Q I rx ry h
  obtain ⟨a, p, us, xs, ha, rfl, hq, px, q⟩ := h
  cases ry
  rcases hq with hq | hq
  · obtain ⟨its, r, pl, hz⟩ := I.list hq
    refine SeqAt.notIn_listAt (eqR c X.K H a) pl.isList (fun w hw => mem_eqR I.hok I.kIn (by show X.A.units + 1 + c.n < cLine; omega) rx ha px r w (by simpa using hw)) ⟨.bl _, H, I, rfl, ?_⟩
    rw [show its.toArray.any (eqR c X.K H a) = its.any (eqR c X.K H a) by simp, any_eqR I.hok I.kIn px r]
    exact q
  · obtain ⟨its, r, pl, hz⟩ := I.tuple hq
    refine SeqAt.notIn_tupleAt (eqR c X.K H a) pl (fun w hw => mem_eqR I.hok I.kIn (by show X.A.units + 1 + c.n < cLine; omega) rx ha px r w (by simpa using hw)) ⟨.bl _, H, I, rfl, ?_⟩
    rw [show its.toArray.any (eqR c X.K H a) = its.any (eqR c X.K H a) by simp, any_eqR I.hok I.kIn px r]
    exact q
end
end L2

/-! a list made by walking, with several names told at each turn -/
namespace L2
open PySem PySem.Spec PyProof.Rows
structure BlkS (N : List Str) (sc scope : Scope) (mm : Nat) (N' : List Str) (fv : List Nat) : Prop where
  nocell : ∀ y ∈ scope.names, y.2 ≠ .cell
  kind : scope.kind = .function
  names : ∀ y ∈ scope.names, y.2 = .local → scope.names.lookup y.1 = some .local
  free : ∀ y ∈ scope.names, y.2 = .free → sc.names.lookup y.1 = some .cell ∨ sc.names.lookup y.1 = some .free
  nd : N'.Nodup
  len : N'.length = fv.length + mm
  at_ : ∀ j, j < fv.length → (N'[j + mm]?).isSome = true ∧ N'[j + mm]? = (fv[j]?).bind (fun i => N[i]?) ∧ (N'[j + mm]?).bind (fun y => scope.names.lookup y) = some .free
def bv (mm : Nat) (fv : List Nat) (σ : St) : St := List.replicate mm none ++ blkVals fv σ
def Ext (σ σ' : St) : Prop := σ.length = σ'.length ∧ ∀ (j : Nat) v, σ[j]? = some (some v) → σ'[j]? = some (some v)
section
variable {prog : Program} {w : World} {A : Around} {R : Result → Shared → Prop} {s : Shared}
end
section
variable {X : Cx} {N' : List Str} {scope : Scope} {mm : Nat} {fv : List Nat}
end
/-- name = [.. for ..] -/
def tSetLCM (j mm : Nat) (g : TG) (wi : TI) (fv : List Nat) (tt : TT) (te : TE) : TS := fun D σ H => wi σ H fun J H1 => ∃ (W : Nat → List V → Hp → Prop) (n : Nat), W 0 [] H1 ∧ n ≤ sizeLine ∧ ∀ i ys H, W i ys H →
  (J.stop i H ∧ ∀ p, H p = none → D.nx (σ.set j (some (.ref p))) (upd H p (.lst ys))) ∨
  (J.go i H ∧ i < n ∧ ∀ x H', J.yld i H x H' → g x (bv mm fv σ) H' fun σ' H'' => Ext (bv mm fv σ) σ' ∧ tt σ' H'' fun c H2 => if c = true then te σ' H2 fun y H3 => W (i + 1) (ys ++ [y]) H3 else W (i + 1) ys H2)
def tLCM (mm : Nat) (g : TG) (wi : TI) (fv : List Nat) (tt : TT) (te : TE) : TE := fun σ H Q => wi σ H fun J H1 => ∃ (W : Nat → List V → Hp → Prop) (n : Nat), W 0 [] H1 ∧ n ≤ sizeLine ∧ ∀ i ys H, W i ys H →
  (J.stop i H ∧ ∀ p, H p = none → Q (.ref p) (upd H p (.lst ys))) ∨
  (J.go i H ∧ i < n ∧ ∀ x H', J.yld i H x H' → g x (bv mm fv σ) H' fun σ' H'' => Ext (bv mm fv σ) σ' ∧ tt σ' H'' fun c H2 => if c = true then te σ' H2 fun y H3 => W (i + 1) (ys ++ [y]) H3 else W (i + 1) ys H2)
/-- two names, told by a tuple -/
def gPair (K : PySem.W.Frag) : TG := fun v σ H Q => ∃ a x y, v = .ref a ∧ SqT K H a [x, y] ∧ Q ((σ.set 0 (some x)).set 1 (some y)) H
end L2

namespace L2
open PySem PySem.Spec PyProof.Rows
section
variable {X : Cx}
/-! ### sorted, of two texts -/
/-! ### a table of the module: texts to numbers or texts -/
def datL : KTD.Dat → Value → Bool
  | .flat d, v => KTD.flatLooks d v
  | _, _ => false
def TabK (K : PySem.W.Frag) (a : Addr) (D : List (Str × KTD.Dat)) : Prop := KTD.tabLook datL (fun b => K.lookup b) a D = true
end
/-! in a walking's block the part of the heap is named: the readings may not hang on the block's own context -/
section
variable {X : Cx} {α : Type} [DecidableEq α]
theorem pfK (K : PySem.W.Frag) (i : Nat) {x f : Str} {px pos : Pos} (hK : X.K = K := by rfl) (hN : X.N[i]? = some x := by rfl) (hv : Vis X.env.scope x := by first | exact Or.inl rfl | exact Or.inr (Or.inl rfl) | exact Or.inr (Or.inr rfl)) (hd : (x == ("__debug__" : Str)) = false := by decide)
    (hcd : (x == ("__classdict__" : Str)) = false := by decide) (hb : attributeBase (.Name x px) f X.env (eval (.Name x px) X.env) = eval (.Name x px) X.env := by rfl) : PE X (.Attribute (.Name x px) f pos) (tFld K (tVar i) f) := by
  subst hK
  exact pe_fld (pe_var hN hv hd hcd) hb
theorem op_eqCK (K : PySem.W.Frag) (c : Cod α) (hu : X.A.units + c.n + 1 < cLine) (hK : X.K = K := by rfl) : OpR X (compareOp .Eq) (fun x y H Q => ∃ a b, c.rp K H a x ∧ c.rp K H b y ∧ Q (.bl (decide (a = b))) H) := by
  subst hK
  exact op_eqC c hu
end
/-! ### functions and methods, bundled -/
structure GF (P : Program) (w : World) (K : PySem.W.Frag) (mg : Str → Option Value) (base : Heap) (CX : CXT) (k : Nat) (x : Str) (ps : List Str) (sp : Sp) where
  f : Addr
  fd : FuncData
  ok : FnOk P w K mg base CX k f fd ps sp
  bd : Binds K fd ps []
  kp : PySem.W.keepIn K (.ref f) = true
  mgx : mg x = some (.ref f)
structure GM (P : Program) (w : World) (K : PySem.W.Frag) (mg : Str → Option Value) (base : Heap) (CX : CXT) (k : Nat) (C : Addr) (m : Str) (ps : List Str) (sp : Sp) where
  f : Addr
  fd : FuncData
  ok : FnOk P w K mg base CX k f fd ps sp
  bd : Binds K fd ps []
  me : Meth K C m f
section
variable {X : Cx} {CX : CXT} {j k : Nat} {x m : Str} {ps : List Str} {sp : Sp} {E : XK} {p pos apos : Pos} {e o : Expr} {es : List Expr} {t : TA} {ta : TE} {C : Addr}
theorem pc (G : GF X.prog X.w X.K X.mg X.base CX j x ps sp) (hr : Room k X.A) (ha : PA X (e :: es) t) (hx : Passes CX X E := by exact pass0) (hk : j ≤ k := by decide) (hg : Gl X x := by rfl)
    (hdb : (x == ("__debug__" : Str)) = false := by decide) (he : starEach (e :: es) X.env = (false, eval e X.env) :: starEach es X.env := by rfl) (hpl : (backTo pos (starEach es X.env)).any (·.1) = false := by rfl) :
    PE X (.Call (.Name x p) (e :: es) [] pos) (tCall sp [] E t) := pe_call G.ok (hr.mono hk) hg G.mgx G.kp G.bd .nil hx ha hdb he hpl
theorem pm {pl : Sem Bool} (G : GM X.prog X.w X.K X.mg X.base CX j C m ps sp) (ho : PE X o ta) (cl : Cls X.K C) (hr : Room k X.A) (ha : PA X (e :: es) t) (hx : Passes CX X E := by exact pass0) (hk : j ≤ k := by decide)
    (hst : starEach (e :: es) X.env = (false, eval e X.env) :: starEach es X.env := by rfl) (hpl : (backTo pos (starEach es X.env)).any (·.1) = false := by rfl)
    (ht : eval (.Call (.Attribute o m apos) (e :: es) [] pos) X.env = (do
      let ov ← eval o X.env
      standAt apos.atName
      let (f, first) ← holding [ov] (getMethod ov m pl)
      callWith pos f first (backTo pos (starEach (e :: es) X.env)) (backToKw pos (keywordEach [] X.env))) := by rfl) :
    PE X (.Call (.Attribute o m apos) (e :: es) [] pos) (tMeth C m sp [] E ta t) := pe_meth ho cl G.me G.ok (hr.mono hk) G.bd .nil hx ha hst hpl ht
theorem pm0 {pl : Sem Bool} (G : GM X.prog X.w X.K X.mg X.base CX j C m ps sp) (ho : PE X o ta) (cl : Cls X.K C) (hr : Room k X.A) (hx : Passes CX X E := by exact pass0) (hk : j ≤ k := by decide)
    (ht : eval (.Call (.Attribute o m apos) [] [] pos) X.env = (do
      let ov ← eval o X.env
      standAt apos.atName
      let (f, first) ← holding [ov] (getMethod ov m pl)
      callWith pos f first (backTo pos (starEach [] X.env)) (backToKw pos (keywordEach [] X.env))) := by rfl) :
    PE X (.Call (.Attribute o m apos) [] [] pos) (tMeth C m sp [] E ta tNil) := pe_meth0 ho cl G.me G.ok (hr.mono hk) G.bd .nil hx ht
end
end L2

set_option maxHeartbeats 1000000
namespace L2
open PySem PySem.Spec PyProof.Rows
/-! ### walking lists, by an invariant -/
section
variable {K : PySem.W.Frag} {a : Addr} {xs : List V} {tt : TT} {te : TE} {bl : St} {Fin : List V → Hp → Prop} {H : Hp}
theorem lc_list (Pv : Nat → List V → Hp → Prop) (h0 : Pv 0 [] H) (hn : xs.length ≤ sizeLine) (hl : ∀ i ys H, i ≤ xs.length → Pv i ys H → SqL K H a xs)
    (hs : ∀ i x ys H, xs[i]? = some x → Pv i ys H → tt (some x :: bl) H fun c H2 => if c = true then te (some x :: bl) H2 fun y H3 => Pv (i + 1) (ys ++ [y]) H3 else Pv (i + 1) ys H2)
    (hd : ∀ ys H, Pv xs.length ys H → Fin ys H) :
    ∃ (W : Nat → List V → Hp → Prop) (n : Nat), W 0 [] H ∧ n ≤ sizeLine ∧ ∀ i ys H, W i ys H → ((Itl K a).stop i H ∧ Fin ys H) ∨
      ((Itl K a).go i H ∧ i < n ∧ ∀ x H', (Itl K a).yld i H x H' → tt (some x :: bl) H' fun c H2 => if c = true then te (some x :: bl) H2 fun y H3 => W (i + 1) (ys ++ [y]) H3 else W (i + 1) ys H2) := by
  refine ⟨fun i ys H => i ≤ xs.length ∧ Pv i ys H, xs.length, ⟨Nat.zero_le _, h0⟩, hn, ?_⟩
  rintro i ys H ⟨hi, p⟩
  have q := hl i ys H hi p
  by_cases hlt : i < xs.length
  · refine .inr ⟨⟨xs, xs[i], q, by simp [hlt]⟩, hlt, fun x H' y => ?_⟩
    obtain ⟨e, y⟩ := y
    subst e
    have z := hs i x ys _ (y xs q) p
    have e1 : (fun (c : Bool) (H2 : Hp) => if c = true then te (some x :: bl) H2 fun y H3 => i + 1 ≤ xs.length ∧ Pv (i + 1) (ys ++ [y]) H3 else i + 1 ≤ xs.length ∧ Pv (i + 1) ys H2) = fun c H2 => if c = true then te (some x :: bl) H2 fun y H3 => Pv (i + 1) (ys ++ [y]) H3 else Pv (i + 1) ys H2 := by
      have e2 : (i + 1 ≤ xs.length) = True := eq_true hlt
      funext c H2
      simp only [e2, true_and]
    show tt _ _ _
    rw [e1]
    exact z
  · have e : i = xs.length := by omega
    subst e
    exact .inl ⟨⟨xs, q, Nat.le_refl _⟩, hd ys H p⟩
theorem tAllT {σ : St} {A B : Hp → Prop} (h : A H) : tAll σ H (fun c H2 => if c = true then A H2 else B H2) := by
  show if true = true then A H else B H
  exact @iteT (A H) (B H) h
theorem lc_tup (Pv : Nat → List V → Hp → Prop) (h0 : Pv 0 [] H) (hn : xs.length ≤ sizeLine) (hl : ∀ i ys H, i ≤ xs.length → Pv i ys H → SqT K H a xs)
    (hs : ∀ i x ys H, xs[i]? = some x → Pv i ys H → tt (some x :: bl) H fun c H2 => if c = true then te (some x :: bl) H2 fun y H3 => Pv (i + 1) (ys ++ [y]) H3 else Pv (i + 1) ys H2)
    (hd : ∀ ys H, Pv xs.length ys H → Fin ys H) :
    ∃ (W : Nat → List V → Hp → Prop) (n : Nat), W 0 [] H ∧ n ≤ sizeLine ∧ ∀ i ys H, W i ys H → ((Itt K a).stop i H ∧ Fin ys H) ∨
      ((Itt K a).go i H ∧ i < n ∧ ∀ x H', (Itt K a).yld i H x H' → tt (some x :: bl) H' fun c H2 => if c = true then te (some x :: bl) H2 fun y H3 => W (i + 1) (ys ++ [y]) H3 else W (i + 1) ys H2) := by
  refine ⟨fun i ys H => i ≤ xs.length ∧ Pv i ys H, xs.length, ⟨Nat.zero_le _, h0⟩, hn, ?_⟩
  rintro i ys H ⟨hi, p⟩
  have q := hl i ys H hi p
  by_cases hlt : i < xs.length
  · refine .inr ⟨⟨xs, xs[i], q, by simp [hlt]⟩, hlt, fun x H' y => ?_⟩
    obtain ⟨e, y⟩ := y
    subst e
    have z := hs i x ys _ (y xs q) p
    have e1 : (fun (c : Bool) (H2 : Hp) => if c = true then te (some x :: bl) H2 fun y H3 => i + 1 ≤ xs.length ∧ Pv (i + 1) (ys ++ [y]) H3 else i + 1 ≤ xs.length ∧ Pv (i + 1) ys H2) = fun c H2 => if c = true then te (some x :: bl) H2 fun y H3 => Pv (i + 1) (ys ++ [y]) H3 else Pv (i + 1) ys H2 := by
      have e2 : (i + 1 ≤ xs.length) = True := eq_true hlt
      funext c H2
      simp only [e2, true_and]
    show tt _ _ _
    rw [e1]
    exact z
  · have e : i = xs.length := by omega
    subst e
    exact .inl ⟨⟨xs, q, Nat.le_refl _⟩, hd ys H p⟩
end
end L2
/-! ### locks, as data -/
namespace Lo
open PySem L2
inductive Kd where
  | read | mean | change
  deriving DecidableEq
def kdS : Kd → Str
  | .read => "read"
  | .mean => "mean"
  | .change => "change"
theorem s_rm : ¬ (("read" : Str) = "mean") := by decide +kernel
theorem s_rc : ¬ (("read" : Str) = "change") := by decide +kernel
theorem s_mc : ¬ (("mean" : Str) = "change") := by decide +kernel
theorem kdS_inj : ∀ x y, kdS x = kdS y → x = y
  | .read, .read, _ => rfl
  | .mean, .mean, _ => rfl
  | .change, .change, _ => rfl
  | .read, .mean, h => absurd h s_rm
  | .read, .change, h => absurd h s_rc
  | .mean, .change, h => absurd h s_mc
  | .mean, .read, h => absurd h.symm s_rm
  | .change, .read, h => absurd h.symm s_rc
  | .change, .mean, h => absurd h.symm s_mc
def rank : Kd → Int
  | .read => 0
  | .mean => 1
  | .change => 2
def kdOf (i : Int) : Kd := if i = 0 then .read else if i = 1 then .mean else .change
abbrev Lk := Kd × Int × Int
abbrev Pa := Int × Int
abbrev Pr := Pa × Lk
def share : Kd → Kd → Bool
  | .read, .read => true
  | .read, .mean => true
  | .mean, .read => true
  | _, _ => false
def besideB (a b : Lk) : Bool := (decide (a.2.2 < b.2.1) || decide (b.2.2 < a.2.1)) || share a.1 b.1
def coversB (a b : Lk) : Bool := (decide (a.2.1 ≤ b.2.1) && decide (b.2.2 ≤ a.2.2)) && decide (rank b.1 ≤ rank a.1)
def toldT (k : Lk) : Str × Int × Int := (kdS k.1, k.2)
theorem toldT_inj : ∀ x y, toldT x = toldT y → x = y := fun x y h => by
  obtain ⟨a, b⟩ := x
  obtain ⟨c, d⟩ := y
  have h1 := congrArg Prod.fst h
  have h2 := congrArg Prod.snd h
  exact Prod.ext (kdS_inj _ _ h1) h2
def cLk : Cod Lk := cVia toldT toldT_inj (cT3 cStr cInt cInt)
def cPa : Cod Pa := cT2 cInt cInt
def cPr : Cod Pr := cT2 cPa cLk
theorem cPa_mk {K : PySem.W.Frag} {H : Hp} {a : Addr} {k : Pa} (h : H a = some (.tup [.int k.1, .int k.2])) : cPa.rp K H k (.ref a) := ⟨a, _, _, rfl, .inl h, rfl, rfl⟩
/-! ### what stays -/
def Fix (CL : Addr) : HO → Prop
  | .tup _ => True
  | .ins C _ _ => C ≠ CL
  | _ => False
def FSame (CL : Addr) (H H' : Hp) : Prop := ∀ b o, H b = some o → Fix CL o → H' b = some o
theorem same_new {H : Hp} {p : Addr} {o : HO} (h : H p = none) : Same H (upd H p o) := fun b u e => by
  rw [upd_ne (ne_of_none e h)]
  exact e
/-- all but p stays -/
def Kp (p : Addr) (H H' : Hp) : Prop := ∀ b o, b ≠ p → H b = some o → H' b = some o
theorem Kp.of {p : Addr} {H H' : Hp} (h : Same H H') : Kp p H H' := fun b o _ e => h b o e
theorem Kp.trans {p : Addr} {H H1 H2 : Hp} (a : Kp p H H1) (b : Kp p H1 H2) : Kp p H H2 := fun c o n e => b c o n (a c o n e)
theorem kp_upd {p : Addr} {H : Hp} {o : HO} : Kp p H (upd H p o) := fun b u n e => by
  rw [upd_ne n]
  exact e
/-! ### a lock's object -/
def lf (f l : Int) : List (Str × V) := putF "last" (.int l) (putF "first" (.int f) [])
def LkO (C : Kd → Addr) (H : Hp) (k : Lk) (v : V) : Prop := ∃ a dx, v = .ref a ∧ H a = some (.ins (C k.1) dx (lf k.2.1 k.2.2))
def PrO (C : Kd → Addr) (K : PySem.W.Frag) (H : Hp) (x : Pr) (v : V) : Prop := ∃ a u l, v = .ref a ∧ SqU K H a [u, l] ∧ cPa.rp K H x.1 u ∧ LkO C H x.2 l
/-! ### a house's locks -/
def LS (C : Kd → Addr) (CL : Addr) (K : PySem.W.Frag) (H : Hp) (l p : Addr) (ps : List Pr) : Prop :=
  ∃ dx vs, H l = some (.ins CL dx [("pairs", .ref p)]) ∧ H p = some (.lst vs) ∧ Paired (PrO C K H) ps vs
theorem pp {F : α → β → Prop} {G : α → β → Prop} {xs : List α} {ys : List β} (h : Paired F xs ys) (f : ∀ a b, F a b → G a b) : Paired G xs ys := Paired.mapP h f
/-! ### what waits, what is held -/
def hb (ps : List Pr) (k j : Nat) : Bool := match ps[j]?, ps[k]? with
  | some a, some b => !decide (a.1 = b.1) && !besideB a.2 b.2
  | _, _ => false
def hind (ps : List Pr) (k : Nat) : Option Nat := (List.range k).find? (hb ps k)
def optV : Option Nat → V
  | none => .non
  | some j => .int j
def pick {α : Type} (xs : List α) (ix : List Nat) : List α := ix.filterMap (xs[·]?)
def heldIx (ps : List Pr) : List Nat := (List.range ps.length).filter fun k => (hind ps k).isNone
def waitIx (ps : List Pr) : List Nat := (List.range ps.length).filter fun k => (hind ps k).isSome
def heldL (ps : List Pr) : List Pr := pick ps (heldIx ps)
def waitL (ps : List Pr) : List Pr := pick ps (waitIx ps)
def wpl (ps : List Pr) (p : Pa) (k : Nat) : Bool := match ps[k]? with
  | some a => decide (a.1 = p) && (hind ps k).isSome
  | none => false
def wplace (ps : List Pr) (p : Pa) : Option Nat := (List.range ps.length).find? (wpl ps p)
def covered (ps : List Pr) (p : Pa) (k : Lk) : Bool := ps.any fun x => decide (x.1 = p) && coversB x.2 k
def askPs (ps : List Pr) (p : Pa) (k : Lk) : List Pr := if covered ps p k = true then ps else ps ++ [(p, k)]
def askR (ps : List Pr) (p : Pa) (k : Lk) : Bool := covered ps p k || (hind (ps ++ [(p, k)]) ps.length).isNone
def freePs (ps : List Pr) (p : Pa) : List Pr := ps.filter fun x => !decide (x.1 = p)
def freeR (ps : List Pr) (p : Pa) : List Pa := ((waitL ps).filter fun x => !decide (x.1 = p) && !decide (x.1 ∈ (waitL (freePs ps p)).map (·.1))).map (·.1)
def standsB (ps : List Pr) (p : Pa) (k : Lk) : Bool := (heldL ps).all fun x => decide (x.1 = p) || besideB x.2 k
def behindO (ps : List Pr) (p : Pa) : Option Pa := (wplace ps p).bind fun k => (hind ps k).bind fun j => (ps[j]?).map (·.1)
end Lo

set_option maxHeartbeats 1000000
/-! what the functions about locks do, and what of the top they ask -/
namespace Lo
open PySem L2
/-- a tuple of the module -/
def ModT (K : PySem.W.Frag) (a : Addr) (xs : List V) : Prop := ∃ (o : Obj) (its : Array Value) (n : Nat), K.lookup a = some o ∧ o.cls = .type "tuple" ∧ o.data = .seq its n ∧ its.size ≤ sizeLine ∧ Vals xs its.toList
/-- built-in names that the program leaves alone -/
structure TxB (mg : Str → Option Value) : Prop where
  isi : mg "isinstance" = none
  int : mg "int" = none
  bool : mg "bool" = none
  str : mg "str" = none
  len : mg "len" = none
  range : mg "range" = none
  tuple : mg "tuple" = none
  list : mg "list" = none
  any : mg "any" = none
  all : mg "all" = none
  max : mg "max" = none
  sorted : mg "sorted" = none
structure TxK (K : PySem.W.Frag) (C : Kd → Addr) : Prop where
  cl : ∀ k, Cls K (C k)
  nF : ∀ k, NoAttr K (C k) "first"
  nL : ∀ k, NoAttr K (C k) "last"
def ranksD : List (Str × PyProof.Rows.KTD.Dat) := [("read", .flat (.int 0)), ("mean", .flat (.int 1)), ("change", .flat (.int 2))]
structure TxS (K : PySem.W.Frag) (mg : Str → Option Value) : Prop where
  sh : ∃ aS a0 a1 a2, mg "SHARING" = some (.ref aS) ∧ ModT K aS [.ref a0, .ref a1, .ref a2] ∧ ModT K a0 [.str "read", .str "read"] ∧ ModT K a1 [.str "read", .str "mean"] ∧ ModT K a2 [.str "mean", .str "read"]
structure TxR (K : PySem.W.Frag) (mg : Str → Option Value) : Prop where
  rk : ∃ aR, mg "RANKS" = some (.ref aR) ∧ TabK K aR ranksD
structure TxL (K : PySem.W.Frag) (C : Kd → Addr) (CL : Addr) : Prop where
  cl : Cls K CL
  nP : NoAttr K CL "pairs"
  ne : ∀ k, C k ≠ CL
def kdN : Kd → Str
  | .read => "Read"
  | .mean => "Mean"
  | .change => "Change"
/-! ### promises -/
def spKind (k : Kd) : Sp := fun vs H Q _ => ∃ v, vs = [v] ∧ Q (.str (kdS k)) H
def spLInit (C : Kd → Addr) : Sp := fun vs H Q _ => ∃ a dx k f l, vs = [.ref a, .int f, .int l] ∧ H a = some (.ins (C k) dx []) ∧ Q .non (upd (upd H a (.ins (C k) dx (putF "first" (.int f) []))) a (.ins (C k) dx (lf f l)))
def spTold (C : Kd → Addr) : Sp := fun vs H Q _ => ∃ v k, vs = [v] ∧ LkO C H k v ∧ ∀ a, H a = none → Q (.ref a) (upd H a (.tup [.str (kdS k.1), .int k.2.1, .int k.2.2]))
def spBeside (C : Kd → Addr) : Sp := fun vs H Q _ => ∃ v u k j, vs = [v, u] ∧ LkO C H k v ∧ LkO C H j u ∧ ∀ H', Same H H' → Q (.bl (besideB k j)) H'
def spCovers (C : Kd → Addr) : Sp := fun vs H Q _ => ∃ v u k j, vs = [v, u] ∧ LkO C H k v ∧ LkO C H j u ∧ ∀ H', Same H H' → Q (.bl (coversB k j)) H'
def spLockOf (C : Kd → Addr) (K : PySem.W.Frag) : Sp := fun vs H Q _ => ∃ v k, vs = [v] ∧ cLk.rp K H k v ∧ ∀ u H', Same H H' → LkO C H' k u → Q u H'
section
variable (C : Kd → Addr) (CL : Addr) (K : PySem.W.Frag)
def spLsInit : Sp := fun vs H Q _ => ∃ l dx, vs = [.ref l] ∧ H l = some (.ins CL dx []) ∧ ∀ p H', H p = none → H' p = some (.lst []) → H' l = some (.ins CL dx [("pairs", .ref p)]) → Kp l H H' → Q .non H'
def spHind : Sp := fun vs H Q _ => ∃ l p ps k, vs = [.ref l, .int (k : Nat)] ∧ LS C CL K H l p ps ∧ k < ps.length ∧ ps.length ≤ 1000 ∧ ∀ H', Same H H' → Q (optV (hind ps k)) H'
def spPairs (f : List Pr → List Pr) : Sp := fun vs H Q _ => ∃ l p ps, vs = [.ref l] ∧ LS C CL K H l p ps ∧ ps.length ≤ 1000 ∧ ∀ q H' us, Same H H' → H q = none → H' q = some (.lst us) → Paired (PrO C K H') (f ps) us → Q (.ref q) H'
def spTolds (f : List Pr → List Pr) : Sp := fun vs H Q _ => ∃ l p ps, vs = [.ref l] ∧ LS C CL K H l p ps ∧ ps.length ≤ 1000 ∧ ∀ q H' us, Same H H' → H q = none → H' q = some (.lst us) → Paired (cPr.rp K H') (f ps) us → Q (.ref q) H'
def spWPlace : Sp := fun vs H Q _ => ∃ l p ps v x, vs = [.ref l, v] ∧ LS C CL K H l p ps ∧ ps.length ≤ 1000 ∧ cPa.rp K H x v ∧ ∀ H', Same H H' → Q (optV (wplace ps x)) H'
def spAsk : Sp := fun vs H Q _ => ∃ l p ps v x u k, vs = [.ref l, v, u] ∧ LS C CL K H l p ps ∧ ps.length < 1000 ∧ cPa.rp K H x v ∧ LkO C H k u ∧ wplace ps x = none ∧ ∀ H', LS C CL K H' l p (askPs ps x k) → Kp p H H' → Q (.bl (askR ps x k)) H'
def spFree : Sp := fun vs H Q _ => ∃ l p ps v x, vs = [.ref l, v] ∧ LS C CL K H l p ps ∧ ps.length ≤ 1000 ∧ cPa.rp K H x v ∧ ∀ q p' H' us, LS C CL K H' l p' (freePs ps x) → H p' = none → Kp l H H' → H q = none → H' q = some (.lst us) → Paired (cPa.rp K H') (freeR ps x) us → Q (.ref q) H'
def spStands : Sp := fun vs H Q _ => ∃ l p ps v x u k, vs = [.ref l, v, u] ∧ LS C CL K H l p ps ∧ ps.length ≤ 1000 ∧ cPa.rp K H x v ∧ LkO C H k u ∧ ∀ H', Same H H' → Q (.bl (standsB ps x k)) H'
def spBehind : Sp := fun vs H Q _ => ∃ l p ps v x, vs = [.ref l, v] ∧ LS C CL K H l p ps ∧ ps.length ≤ 1000 ∧ cPa.rp K H x v ∧
  ((behindO ps x = none ∧ ∀ H', Same H H' → Q .non H') ∨ ∃ y, behindO ps x = some y ∧ ∀ u H', Same H H' → cPa.rp K H' y u → Q u H')
end
theorem small {n : Nat} (h : n ≤ 1000) : n ≤ sizeLine := Nat.le_of_lt (small1000 h)
/-! ### the laws' own -/
def cellAt (ns : List Int) (k : Nat) : Int := (ns[k]?).getD 0
def spCell (K : PySem.W.Frag) : Sp := fun vs H Q _ => ∃ a ns k, vs = [.ref a, .int (k : Nat)] ∧ SqL K H a ((ns : List Int).map V.int) ∧ Q (.int (cellAt ns k)) H
def namesL (c : Int) : List Pa := [(c % 5, c / 5 % 17), (c % 5, c / 5 % 17 + 1), ((c % 5 + 1) % 5, c / 5 % 17), ((c % 5 + 3) % 5, c / 5 % 17 + 2)]
def spNames (K : PySem.W.Frag) : Sp := fun vs H Q _ => ∃ c, vs = [.int c] ∧ ∀ q H' us, Same H H' → H q = none → H' q = some (.lst us) → Paired (cPa.rp K H') (namesL c) us → Q (.ref q) H'
def toldL (c b : Int) : Lk := (kdOf (c % 3), b + c / 3 % 9, b + c / 3 % 9 + c / 27 % 10)
def spLTold (K : PySem.W.Frag) : Sp := fun vs H Q _ => ∃ c b, vs = [.int c, .int b] ∧ ∀ v H', Same H H' → cLk.rp K H' (toldL c b) v → Q v H'
def spLBeside (K : PySem.W.Frag) : Sp := fun vs H Q _ => ∃ v u k j, vs = [v, u] ∧ cLk.rp K H k v ∧ cLk.rp K H j u ∧ ∀ H', Same H H' → Q (.bl (besideB k j)) H'
def spLCovers (K : PySem.W.Frag) : Sp := fun vs H Q _ => ∃ v u k j, vs = [v, u] ∧ cLk.rp K H k v ∧ cLk.rp K H j u ∧ ∀ H', Same H H' → Q (.bl (coversB k j)) H'
def rkN : Kd → Nat
  | .read => 0
  | .mean => 1
  | .change => 2
def srt (a b : Str) : List Str := if b.cps.toList < a.cps.toList then [b, a] else [a, b]
end Lo
namespace Lo
open PySem L2
end Lo
namespace Lo
open PySem L2
section
variable {K : PySem.W.Frag}
theorem kit_ii : PySem.W.kitOne K (.type "int") (.type "int") = some true := rfl
theorem kit_ss : PySem.W.kitOne K (.type "str") (.type "str") = some true := rfl
theorem kit_tt : PySem.W.kitOne K (.type "tuple") (.type "tuple") = some true := rfl
theorem kit_ll : PySem.W.kitOne K (.type "list") (.type "list") = some true := rfl
theorem kit_ib : PySem.W.kitOne K (.type "int") (.type "bool") = some false := by kernel_rfl
end
def spWhole : Sp := fun vs H Q _ => ∃ i, vs = [.int i] ∧ Q (.bl true) H
def spNum : Sp := fun vs H Q _ => ∃ c, vs = [.int c] ∧ ∀ i, Q (.int i) H
def spIs : Sp := fun vs H Q _ => ∃ a b, vs = [.bl a, .bl b] ∧ Q (.bl (decide (a = b))) H
structure TxI (K : PySem.W.Frag) (mg : Str → Option Value) (C : Kd → Addr) (CB : Addr) : Prop where
  mgB : mg "Lock" = some (.ref CB)
  ha : ∀ k, PySem.W.findIn K (.ref (C k)) "__class__" = some (some (.builtin "object.__class__"))
  hn : PySem.W.specialIn K (.builtin "object.__class__") "__get__" = some (some (.builtin "getset_descriptor.__get__"))
  htk : PySem.W.takesIn K (.builtin "object.__class__") = some true
  hm : ∀ k, PySem.W.mroIn K (C k) (.type "object") = some true
  isB : ∀ k, PySem.W.kitOne K (.ref (C k)) (.ref CB) = some true
structure TxJ (K : PySem.W.Frag) (C : Kd → Addr) : Prop where
  isK : ∀ k j, PySem.W.kitOne K (.ref (C k)) (.ref (C j)) = some (decide (k = j))
def spLaw (K : PySem.W.Frag) : Sp := fun vs H Q _ => ∃ a ns, vs = [.ref a] ∧ SqL K H a ((ns : List Int).map V.int) ∧ ns.length ≤ 63 ∧ ∀ H', Q (.bl true) H'
end Lo
namespace Lo
open PySem L2
theorem pss_weak {X : Cx} {st : List Stmt} {t : TS} (u : TS) (h : PSs X st t) (hw : ∀ D σ H, u D σ H → t D σ H) : PSs X st u := fun pins s σ H D I q => h pins s σ H D I (hw D σ H q)
end Lo

set_option maxHeartbeats 1000000
namespace Lo
open PySem L2
section
variable {K : PySem.W.Frag} {a : Addr} {tt : TT} {te : TE} {bl : St} {Fin : List V → Hp → Prop} {H : Hp}
end
/-! ### one pact alone -/
end Lo
namespace Lo
open PySem L2
end Lo
namespace Lo
open PySem L2
theorem int_at {cs : List Int} {i : Nat} {x : V} (h : (cs.map V.int)[i]? = some x) : ∃ c, x = .int c := by
  rw [List.getElem?_map] at h
  cases e : cs[i]? with
  | none => rw [e] at h; cases h
  | some c => rw [e] at h; exact ⟨c, (Option.some.inj h).symm⟩
end Lo

set_option maxHeartbeats 1000000
/-! the list of pairs, by what stands ahead -/
namespace Lo
open PySem L2
def clear (pre : List Pr) (x : Pr) : Bool := pre.all fun a => decide (a.1 = x.1) || besideB a.2 x.2
def heldR : List Pr → List Pr → List Pr
  | _, [] => []
  | pre, x :: r => if clear pre x = true then x :: heldR (pre ++ [x]) r else heldR (pre ++ [x]) r
def waitR : List Pr → List Pr → List Pr
  | _, [] => []
  | pre, x :: r => if clear pre x = true then waitR (pre ++ [x]) r else x :: waitR (pre ++ [x]) r
def Ok2 (a b : Pr) : Prop := a.1 = b.1 ∨ besideB a.2 b.2 = true
/-! ### tuples that are told -/
section
variable {X : Cx}
theorem call_isinstT : CallR X (.builtin "isinstance") (fun xs H Q => ∃ a ys, xs = [.ref a, .ty "tuple"] ∧ SqT X.K H a ys ∧ Q (.bl true) H) := by
  intro pins s σ H xs us Q I r h
  obtain ⟨a, ys, rfl, hq, q⟩ := h
  obtain ⟨u, w', rfl, r1, r2⟩ := vals2 r
  cases r1
  cases r2
  obtain ⟨its, rv, ⟨o, ho, hc, n, hd⟩, hz⟩ := I.tuple hq
  exact PySem.W.kia_one PySem.W.kitx_tuple I.kIn ⟨_, ho, hc⟩ (kit_tt (K := X.K)) (fun z => nomatch z) fun tk => ⟨.bl true, H, I.tok tk, rfl, q⟩
end
end Lo

set_option maxHeartbeats 1000000
/-! a house's locks beside lists of the law's own -/
namespace Lo
open PySem L2
section
variable {C : Kd → Addr} {CL : Addr} {K : PySem.W.Frag} {H H' : Hp} {l pl pl' d : Addr} {ps ps' : List Pr} {own : List (Addr × List V)} {xs ys : List V}
def HS (C : Kd → Addr) (CL : Addr) (K : PySem.W.Frag) (l pl : Addr) (ps : List Pr) (own : List (Addr × List V)) (H : Hp) : Prop :=
  LS C CL K H l pl ps ∧ (∀ q ∈ own, H q.1 = some (.lst q.2)) ∧ (∀ q ∈ own, q.1 ≠ pl) ∧ (own.map (·.1)).Nodup
end
/-- names and base are told; n names more to come -/
def uN (n : Nat) (K : PySem.W.Frag) : TS := fun D σ H => ∃ a ns nl nus names b, σ = [some (.ref a), some (.ref nl), some (.int b)] ++ List.replicate n none ∧ SqL K H a ((ns : List Int).map V.int) ∧ ns.length ≤ 63 ∧ H nl = some (.lst nus) ∧ Paired (cPa.rp K H) names nus ∧ names.length = 4 ∧ ∀ H', D.rt (.bl true) H'
end Lo

set_option maxHeartbeats 1000000
/-! who is behind whom, by a cut of the list -/
namespace Lo
open PySem L2
/-- x waits, and the first that hinders it is y's -/
def Beh (ps : List Pr) (x y : Pa) : Prop := ∃ (pre1 pre2 post : List Pr) (h z : Pr), ps = (pre1 ++ h :: pre2) ++ z :: post ∧ z.1 = x ∧ h.1 = y ∧ y ≠ x ∧ besideB h.2 z.2 = false ∧ clear pre1 z = true ∧ x ∉ (waitL (pre1 ++ h :: pre2)).map (·.1)
/-! ### None or a pact -/
def orp (K : PySem.W.Frag) (H : Hp) : Option Pa → V → Prop
  | none, v => v = .non
  | some y, v => cPa.rp K H y v
section
variable {X : Cx}
end
end Lo

set_option maxHeartbeats 1000000
/-! cuts, numbers -/
namespace Lo
open PySem L2
/-- k-th to wait is x's -/
def wat (ps : List Pr) (x : Pa) (k : Nat) : Bool := ((waitL ps)[k]?).any fun z => decide (z.1 = x)
/-- whom a pact is behind stays, unless one of the two was freed -/
def Lasts (fo : Option Pa) (ps ps' : List Pr) : Prop := ∀ x y, behindO ps x = some y → fo ≠ some y → fo ≠ some x → behindO ps' x = some y
/-- what is known of whom the pacts were behind -/
def Kn (K : PySem.W.Frag) (H : Hp) (names : List Pa) (kus : List V) (i : Nat) (ps ps' : List Pr) : Prop :=
  kus.length = names.length ∧ ∀ j x u, names[j]? = some x → kus[j]? = some u → orp K H (if j < i then behindO ps' x else behindO ps x) u
def spBehindO (C : Kd → Addr) (CL : Addr) (K : PySem.W.Frag) : Sp := fun vs H Q _ => ∃ l p ps v x, vs = [.ref l, v] ∧ LS C CL K H l p ps ∧ ps.length ≤ 1000 ∧ cPa.rp K H x v ∧ ∀ u H', Same H H' → orp K H' (behindO ps x) u → Q u H'
def _root_.L2.GM.imp {P : Program} {w : World} {K : PySem.W.Frag} {mg : Str → Option Value} {base : Heap} {CX : CXT} {k : Nat} {C : Addr} {m : Str} {ps : List Str} {sp sp' : Sp} (G : GM P w K mg base CX k C m ps sp) (h : ∀ vs H Q E, sp' vs H Q E → sp vs H Q E) : GM P w K mg base CX k C m ps sp' := ⟨G.f, G.fd, G.ok.imp h, G.bd, G.me⟩
end Lo

set_option maxHeartbeats 1000000
/-! what a freeing lets in -/
namespace Lo
open PySem L2
/-! ### two lists of the law's own that change -/
section
variable {C : Kd → Addr} {CL : Addr} {K : PySem.W.Frag} {H H' : Hp} {l pl : Addr} {ps : List Pr} {own : List (Addr × List V)}
def Kq (a b : Addr) (H H' : Hp) : Prop := ∀ c o, c ≠ a → c ≠ b → H c = some o → H' c = some o
end
/-- the pairs that wait behind a freeing -/
def goneB (ps : List Pr) (p : Pa) (x : Pr) : Bool := decide (x.1 ∈ (waitL (freePs ps p)).map (·.1))
def notP (p : Pa) (x : Pr) : Bool := !decide (x.1 = p)
end Lo

set_option maxHeartbeats 1000000
namespace L2
open PySem PySem.Spec PyProof.Rows
/-! ### lists of pairs as tables -/
section
variable {κ : Type} [DecidableEq κ]
def valV (kvs : List (κ × V)) (k : κ) : Option V := (kvs.find? fun kv => decide (kv.1 = k)).map (·.2)
/-- in its place, or at the end -/
def putK (kvs : List (κ × V)) (k : κ) (v : V) : List (κ × V) :=
  if (kvs.any fun kv => decide (kv.1 = k)) = true then kvs.map (fun kv => if kv.1 = k then (kv.1, v) else kv) else kvs ++ [(k, v)]
def dropK (kvs : List (κ × V)) (k : κ) : List (κ × V) := kvs.filter fun kv => decide (kv.1 ≠ k)

theorem valV_pos {p : κ × V} {r : List (κ × V)} {k : κ} (e : p.1 = k) : valV (p :: r) k = some p.2 := by simp [valV, List.find?_cons, e]
theorem valV_neg {p : κ × V} {r : List (κ × V)} {k : κ} (e : ¬ p.1 = k) : valV (p :: r) k = valV r k := by simp [valV, List.find?_cons, e]
theorem valV_any (k : κ) : ∀ kvs : List (κ × V), (kvs.any fun kv => decide (kv.1 = k)) = (valV kvs k).isSome
  | [] => rfl
  | p :: r => by
    rw [List.any_cons]
    by_cases e : p.1 = k
    · simp only [valV_pos e, decide_eq_true e, Bool.true_or, Option.isSome_some]
    · rw [valV_neg e, decide_eq_false e, Bool.false_or]; exact valV_any k r
theorem length_putK (kvs : List (κ × V)) (k : κ) (v : V) : (putK kvs k v).length ≤ kvs.length + 1 := by
  unfold putK
  split
  · rw [List.length_map]; omega
  · rw [List.length_append, List.length_cons, List.length_nil]; omega
theorem putK_new {kvs : List (κ × V)} {k : κ} (v : V) (h : valV kvs k = none) : putK kvs k v = kvs ++ [(k, v)] := by
  unfold putK
  rw [valV_any, h]
  exact if_neg (by decide)

theorem RelO.isSome_eq {o : Option V} {u : Option Value} (r : RelO o u) : o.isSome = u.isSome := by
  cases o with
  | none => cases u with
    | none => rfl
    | some _ => exact (show False from r).elim
  | some _ => cases u with
    | none => exact (show False from r).elim
    | some _ => rfl
/-- raw tables of the same keys -/
theorem KV.val {kvs : List (κ × V)} {vs : List (κ × Value)} (r : KV kvs vs) (k : κ) : RelO (valV kvs k) (valueAt vs k) := by
  unfold KV at r
  induction r with
  | nil => exact True.intro
  | @cons p q ps qs h t ih =>
    obtain ⟨h1, h2⟩ := h
    by_cases e : p.1 = k
    · have e' : q.1 = k := h1.symm.trans e
      have b : valueAt (q :: qs) k = some q.2 := by simp [valueAt, List.find?_cons, e']
      rw [valV_pos e, b]; exact h2
    · have e' : ¬ q.1 = k := fun z => e (h1.trans z)
      have b : valueAt (q :: qs) k = valueAt qs k := by simp [valueAt, List.find?_cons, e']
      rw [valV_neg e, b]; exact ih
theorem KV.any {kvs : List (κ × V)} {vs : List (κ × Value)} (r : KV kvs vs) (k : κ) : (kvs.any fun kv => decide (kv.1 = k)) = vs.any fun kv => decide (kv.1 = k) := by
  unfold KV at r
  induction r with
  | nil => rfl
  | cons h t ih => rw [List.any_cons, List.any_cons, ih, h.1]
theorem KV.repl {kvs : List (κ × V)} {vs : List (κ × Value)} (r : KV kvs vs) (k : κ) {y : V} {u : Value} (ry : RelV y u) :
    KV (kvs.map fun kv => if kv.1 = k then (kv.1, y) else kv) (vs.map fun kv => if kv.1 = k then (kv.1, u) else kv) := by
  unfold KV at r ⊢
  induction r with
  | nil => exact .nil
  | @cons p q ps qs h t ih =>
    rw [List.map_cons, List.map_cons]
    refine .cons ?_ ih
    obtain ⟨h1, h2⟩ := h
    by_cases e : p.1 = k
    · rw [if_pos e, if_pos (h1.symm.trans e)]; exact ⟨h1, ry⟩
    · rw [if_neg e, if_neg (fun z => e (h1.trans z))]; exact ⟨h1, h2⟩
theorem KV.put {kvs : List (κ × V)} {vs : List (κ × Value)} (r : KV kvs vs) (k : κ) {y : V} {u : Value} (ry : RelV y u) : KV (putK kvs k y) (stored vs k u) := by
  unfold putK stored
  rw [r.any k]
  by_cases e : (vs.any fun kv => decide (kv.1 = k)) = true
  · rw [if_pos e, if_pos e]; exact r.repl k ry
  · rw [if_neg e, if_neg e]; exact Paired.snoc r ⟨rfl, ry⟩
theorem KV.length {kvs : List (κ × V)} {vs : List (κ × Value)} (r : KV kvs vs) : kvs.length = vs.length := Paired.length r
end


/-! ### a tracked dict, its keys ints and texts or tuples of these -/
theorem kV_is {P : Program} {w : World} {k : Key} {u : Value} (r : RelV (kV k) u) : (mixKind P w).is k u = true := by
  cases k with
  | inl i => obtain ⟨t, e⟩ := (show ∃ t, u = Value.int i t from r); subst e; exact mixKind_int P w i t
  | inr x => obtain ⟨t, e⟩ := (show ∃ t, u = Value.str x t from r); subst e; exact mixKind_str P w x t
theorem items_are {P : Program} {w : World} : ∀ {ks : List Key} {us : List Value}, Vals (ks.map kV) us → ItemsAre (mixKind P w) ks us
  | [], _, r => by rw [List.map_nil] at r; cases r; exact .nil
  | k :: ks, _, r => by
    rw [List.map_cons] at r
    cases r with
    | cons h t => exact .cons (kV_is h) (items_are t)

/-- raw entries of a dict with tuple keys -/
abbrev KT (H : Hp) : List (List Key × V) → List (List Key × Addr × Value) → Prop := Paired fun p q => p.1 = q.1 ∧ H q.2.1 = some (.tup (p.1.map kV)) ∧ RelV p.2 q.2.2
theorem KT.val {H : Hp} {kvs : List (List Key × V)} {xs : List (List Key × Addr × Value)} (r : KT H kvs xs) (k : List Key) : RelO (valV kvs k) ((atKey xs k).map (·.2)) := by
  induction r with
  | nil => exact True.intro
  | @cons p q ps qs h t ih =>
    obtain ⟨h1, _, h2⟩ := h
    by_cases e : p.1 = k
    · have e' : q.1 = k := h1.symm.trans e
      have b : atKey (q :: qs) k = some q.2 := by simp [atKey, List.find?_cons, e']
      rw [valV_pos e, b]; exact h2
    · have e' : ¬ q.1 = k := fun z => e (h1.trans z)
      have b : atKey (q :: qs) k = atKey qs k := by simp [atKey, List.find?_cons, e']
      rw [valV_neg e, b]; exact ih
theorem KT.repl {H : Hp} {kvs : List (List Key × V)} {xs : List (List Key × Addr × Value)} (r : KT H kvs xs) (k : List Key) {y : V} {u : Value} (ry : RelV y u) :
    KT H (kvs.map fun kv => if kv.1 = k then (kv.1, y) else kv) (xs.map (putAt k u)) := by
  induction r with
  | nil => exact .nil
  | @cons p q ps qs h t ih =>
    rw [List.map_cons, List.map_cons]
    refine .cons ?_ ih
    obtain ⟨h1, h2, h3⟩ := h
    unfold putAt
    by_cases e : p.1 = k
    · rw [if_pos e, if_pos (h1.symm.trans e)]; exact ⟨h1, h2, ry⟩
    · rw [if_neg e, if_neg (fun z => e (h1.trans z))]; exact ⟨h1, h2, h3⟩
theorem KT.put {H : Hp} {kvs : List (List Key × V)} {xs : List (List Key × Addr × Value)} (r : KT H kvs xs) (k : List Key) {b : Addr} {y : V} {u : Value} (hb : H b = some (.tup (k.map kV))) (ry : RelV y u) :
    KT H (putK kvs k y) (storedH xs k b u) := by
  have e : (kvs.any fun kv => decide (kv.1 = k)) = (atKey xs k).isSome := by
    rw [valV_any, (r.val k).isSome_eq, Option.isSome_map]
  unfold putK storedH
  rw [e]
  by_cases q : (atKey xs k).isSome = true
  · rw [if_pos q, if_pos q]; exact r.repl k ry
  · rw [if_neg q, if_neg q]; exact Paired.snoc r ⟨rfl, hb, ry⟩
theorem KT.keeps {H H' : Hp} {kvs : List (List Key × V)} {xs : List (List Key × Addr × Value)} (r : KT H kvs xs) (ht : ∀ b ys, H b = some (.tup ys) → H' b = some (.tup ys)) : KT H' kvs xs :=
  Paired.mapP r fun _ _ z => ⟨z.1, ht _ _ z.2.1, z.2.2⟩

section
variable {P : Program} {w : World} {H : Hp} {h : Heap} {a : Addr}
theorem rd_of {u : HO} (ok : HOk P w H h) (e : Rd H a u) : ObjOk P w H h a u := e.ok ok
theorem dk_rd {kvs : List (Key × V)} (ok : HOk P w H h) (e : Rd H a (.dK kvs)) : kvs.length ≤ sizeLine ∧ (a == sysModules) = false ∧ ∃ vs, KV kvs vs ∧ h.DictOf (mixKind P w) a vs :=
  show ObjOk P w H h a (.dK kvs) from rd_of ok e
theorem dk_of {kvs : List (Key × V)} (ok : HOk P w H h) (e : H a = some (.dK kvs)) : kvs.length ≤ sizeLine ∧ (a == sysModules) = false ∧ ∃ vs, KV kvs vs ∧ h.DictOf (mixKind P w) a vs := dk_rd ok (.inl e)
/-- a tracked tuple of ints and texts is a key -/
theorem key_of {ks : List Key} (ok : HOk P w H h) (e : H a = some (.tup (ks.map kV))) : (tupleKind (mixKind P w)).is h ks a := by
  obtain ⟨_, its, r, o, h1, h2, n, h3⟩ := (show ObjOk P w H h a (.tup (ks.map kV)) from ok a _ e)
  exact ⟨o, its.toArray, n, h1, h2, h3, by simpa using items_are r⟩
theorem dt_rd {kvs : List (List Key × V)} (ok : HOk P w H h) (e : Rd H a (.dT kvs)) : kvs.length ≤ sizeLine ∧ (a == sysModules) = false ∧
    ∃ xs, KT H kvs xs ∧ h.DictOfH (tupleKind (mixKind P w)) a xs := by
  obtain ⟨z, y, xs, r, o, es, ep, h1, h2, h3, h4, h5⟩ := (show ObjOk P w H h a (.dT kvs) from rd_of ok e)
  refine ⟨z, y, xs, r, o, es, ep, h1, h2, h3, h4, fun x hx => ?_, h5⟩
  have all : ∀ {l : List (List Key × V)} {m : List (List Key × Addr × Value)}, KT H l m → ∀ x ∈ m, (tupleKind (mixKind P w)).is h x.1 x.2.1 := by
    intro l m q
    induction q with
    | nil => intro x hx; exact nomatch hx
    | @cons p q ps qs hq t ih =>
      intro x hx
      rcases List.mem_cons.mp hx with e | hx
      · subst e
        exact key_of ok (by rw [← hq.1]; exact hq.2.1)
      · exact ih x hx
  exact all r x hx
theorem dt_of {kvs : List (List Key × V)} (ok : HOk P w H h) (e : H a = some (.dT kvs)) : kvs.length ≤ sizeLine ∧ (a == sysModules) = false ∧
    ∃ xs, KT H kvs xs ∧ h.DictOfH (tupleKind (mixKind P w)) a xs := dt_rd ok (.inl e)
end

/-- what the dict at a holds at the key y -/
def DGet (H : Hp) (a : Addr) (y : V) (r : Option V) : Prop :=
  (∃ kvs k, Rd H a (.dK kvs) ∧ y = kV k ∧ r = valV kvs k) ∨ ∃ kvs k b, Rd H a (.dT kvs) ∧ y = .ref b ∧ H b = some (.tup (k.map kV)) ∧ r = valV kvs k
/-- the heap behind a[y] = v -/
def DPut (H : Hp) (a : Addr) (y v : V) (H' : Hp) : Prop :=
  (∃ kvs k, H a = some (.dK kvs) ∧ y = kV k ∧ kvs.length < sizeLine ∧ H' = upd H a (.dK (putK kvs k v))) ∨
  ∃ kvs k b, H a = some (.dT kvs) ∧ y = .ref b ∧ H b = some (.tup (k.map kV)) ∧ kvs.length < sizeLine ∧ H' = upd H a (.dT (putK kvs k v))
theorem DGet.t {H : Hp} {a b : Addr} {kvs : List (List Key × V)} {k : List Key} (e : H a = some (.dT kvs)) (eb : H b = some (.tup (k.map kV))) : DGet H a (.ref b) (valV kvs k) := .inr ⟨kvs, k, b, .inl e, rfl, eb, rfl⟩
theorem DPut.t {H : Hp} {a b : Addr} {kvs : List (List Key × V)} {k : List Key} {v : V} (e : H a = some (.dT kvs)) (eb : H b = some (.tup (k.map kV))) (hl : kvs.length < sizeLine) :
    DPut H a (.ref b) v (upd H a (.dT (putK kvs k v))) := .inr ⟨kvs, k, b, e, rfl, eb, hl, rfl⟩


section
variable {X : Cx} {pins : List (Addr × Obj)} {σ : St} {H : Hp} {s : Shared} {a : Addr} {y v : V} {u r : Value} {o : Option V} {A : Around} {E : Value → Shared → Prop}

theorem Inv.big (I : Inv X pins σ H s) : sysModules < s.heap.objs.size := by
  have h : mainGlobals < s.heap.objs.size := (I.mod.glob.keeps I.bk).lt
  exact Nat.lt_trans (by decide) h

/-- d[y], there -/
theorem d_getItem {Q : Value → Shared → Prop} (hu : A.units + 1 < cLine) (I : Inv X pins σ H s) (g : DGet H a y (some v)) (ry : RelV y u) (h : ∀ w' s', Inv X pins σ H s' → RelV v w' → Q w' s') :
    wpAny (model X.prog X.w) A (getItem (.ref a) u) Q E s := by
  rcases g with ⟨kvs, k, e, ey, l⟩ | ⟨kvs, k, b, e, ey, eb, l⟩
  · subst ey
    obtain ⟨z, hd, vs, rel, dd⟩ := dk_rd I.hok e
    obtain ⟨w', hw, rw'⟩ := RelO.some_of (v := v) (o := valueAt vs k) (by rw [l]; exact rel.val k)
    exact wpAny_getItem_of (kV_is ry) dd.mapOf hw (h w' _ (I.tok _) rw')
  · subst ey
    cases (show u = Value.ref b from ry)
    obtain ⟨z, hd, xs, rel, dd⟩ := dt_rd I.hok e
    obtain ⟨w', hw, rw'⟩ := RelO.some_of (v := v) (o := (atKey xs k).map (·.2)) (by rw [l]; exact rel.val k)
    obtain ⟨p, hp, hp2⟩ := Option.map_eq_some_iff.mp hw
    refine wpAny_getItem_heap (tupleKind_room_in1 hu) (key_of I.hok eb) dd hp ?_
    rw [hp2]
    exact h w' _ (I.tok _) rw'
/-- y in d -/
theorem d_in {Q : Value → Shared → Prop} (hu : A.units + 1 < cLine) (I : Inv X pins σ H s) (g : DGet H a y o) (ry : RelV y u) (h : ∀ s', Inv X pins σ H s' → Q (.bool o.isSome) s') :
    wpAny (model X.prog X.w) A (compareOp .In u (.ref a)) Q E s := by
  rcases g with ⟨kvs, k, e, ey, l⟩ | ⟨kvs, k, b, e, ey, eb, l⟩
  · subst ey
    obtain ⟨z, hd, vs, rel, dd⟩ := dk_rd I.hok e
    refine wpAny_in_of (kV_is ry) hd dd.mapOf ?_
    rw [← (rel.val k).isSome_eq, ← l]
    exact h _ (I.tok _)
  · subst ey
    cases (show u = Value.ref b from ry)
    obtain ⟨z, hd, xs, rel, dd⟩ := dt_rd I.hok e
    refine wpAny_in_heap (tupleKind_room_in1 hu) (key_of I.hok eb) hd dd ?_
    have q := (rel.val k).isSome_eq
    rw [Option.isSome_map] at q
    rw [← q, ← l]
    exact h _ (I.tok _)
theorem d_notIn {Q : Value → Shared → Prop} (hu : A.units + 1 < cLine) (I : Inv X pins σ H s) (g : DGet H a y o) (ry : RelV y u) (h : ∀ s', Inv X pins σ H s' → Q (.bool (!o.isSome)) s') :
    wpAny (model X.prog X.w) A (compareOp .NotIn u (.ref a)) Q E s := by
  rcases g with ⟨kvs, k, e, ey, l⟩ | ⟨kvs, k, b, e, ey, eb, l⟩
  · subst ey
    obtain ⟨z, hd, vs, rel, dd⟩ := dk_rd I.hok e
    refine wpAny_notIn_of (kV_is ry) hd dd.mapOf ?_
    rw [← (rel.val k).isSome_eq, ← l]
    exact h _ (I.tok _)
  · subst ey
    cases (show u = Value.ref b from ry)
    obtain ⟨z, hd, xs, rel, dd⟩ := dt_rd I.hok e
    refine wpAny_notIn_heap (tupleKind_room_in1 hu) (key_of I.hok eb) hd dd ?_
    have q := (rel.val k).isSome_eq
    rw [Option.isSome_map] at q
    rw [← q, ← l]
    exact h _ (I.tok _)
/-- a dict's object is replaced -/
theorem d_write {h' : Heap} {t' : Nat} {ob : HO} (I : Inv X pins σ H s) (mu : Mut (H a)) (hs : Heap.SameBut a s.heap h') (he : ∃ q, h'.get? a = some q) (new : ObjOk X.prog X.w (upd H a ob) h' a ob) :
    Inv X pins σ (upd H a ob) { s with heap := h', toks := t' } :=
  I.write (x := a) (e := a) mu (.inl rfl) (fun b q hb z => (hs.2 b hb).trans z) he new
theorem dk_new {P : Program} {w : World} {H' : Hp} {h' : Heap} {kvs : List (Key × V)} {vs : List (Key × Value)} (z : kvs.length ≤ sizeLine) (hd : (a == sysModules) = false) (rel : KV kvs vs) (dd : h'.DictOf (mixKind P w) a vs) :
    ObjOk P w H' h' a (.dK kvs) := ⟨z, hd, vs, rel, dd⟩
/-- d[y] = v -/
theorem d_setItem {H' : Hp} {Q : Unit → Shared → Prop} (hu : A.units + 1 < cLine) (I : Inv X pins σ H s) (g : DPut H a y v H') (ry : RelV y u) (rv : RelV v r) (h : ∀ s', Inv X pins σ H' s' → Q () s') :
    wpAny (model X.prog X.w) A (setItem (.ref a) u r) Q E s := by
  rcases g with ⟨kvs, k, e, ey, l, eH⟩ | ⟨kvs, k, b, e, ey, eb, l, eH⟩
  · subst ey eH
    obtain ⟨z, hd, vs, rel, dd⟩ := dk_of I.hok e
    have hz : vs.length ≤ sizeLine := by rw [← rel.length]; exact z
    have hl : (putK kvs k v).length ≤ sizeLine := by have := length_putK kvs k v; omega
    refine wpAny_setItem_pairs (hsz := hz) (kV_is ry) dd fun h' dd' hs => h _ ?_
    have he : ∃ q, h'.get? a = some q := let ⟨q, _, _, hq, _⟩ := dd'; ⟨q, hq⟩
    exact d_write I (by rw [e]; exact True.intro) hs he (dk_new hl hd (rel.put k rv) dd')
  · subst ey eH
    cases (show u = Value.ref b from ry)
    obtain ⟨z, hd, xs, rel, dd⟩ := dt_of I.hok e
    have hz : xs.length ≤ sizeLine := by rw [← Paired.length rel]; exact z
    have hl : (putK kvs k v).length ≤ sizeLine := by have := length_putK kvs k v; omega
    refine wpAny_setItem_heap (hsz := hz) (tupleKind_room_in1 hu) (key_of I.hok eb) dd fun h' dd' hs => h _ ?_
    obtain ⟨q, es, ep, hq, h2, h3, h4, _, h5⟩ := dd'
    refine d_write I (by rw [e]; exact True.intro) hs ⟨q, hq⟩ ⟨hl, hd, _, (rel.put k eb rv).keeps fun c ys ec => ?_, q, es, ep, hq, h2, h3, h4, h5⟩
    rw [upd_ne (ne_of ec e (fun z => nomatch z))]
    exact ec
end

section
variable {X : Cx} {pins : List (Addr × Obj)} {σ : St} {H : Hp} {s : Shared} {a : Addr} {kvs : List (Key × V)} {k : Key} {u : Value} {A : Around} {E : Value → Shared → Prop}
end


/-! ### readings and rules -/
/-- the element of a subscription, not a slice -/
def NoSl (i : Expr) : Prop := ∀ ov iv, subscripted i false ov iv = operate [ov, iv] (getItem ov iv)
theorem subD_of {prog : Program} {w : World} {A : Around} {E : Value → Shared → Prop} {s : Shared} {env : Env} {value slice : Expr} {pos : Pos} {T id : String} {Q : Value → Shared → Prop}
    (hl : typeLookup (.type T) "__getitem__" = pure (some (.builtin id))) (hs : NoSl slice)
    (h : wpAny (model prog w) A (eval value env) (fun o s₁ => wpAny (model prog w) A (eval slice env) (fun i s₂ => s₂.TypeIs o T ∧ wpAny (model prog w) A (getItem o i) Q E s₂) E s₁) E s) :
    wpAny (model prog w) A (eval (.Subscript value slice pos) env) Q E s := by
  refine Subscript_ (wpAny_mono h (fun o s₁ h₁ => wpAny_mono h₁ (fun i s₂ h₂ => ?_) fun _ _ x => x) fun _ _ x => x)
  obtain ⟨hT, h₂⟩ := h₂
  unfold subscriptTail
  refine wpAny_bind ?_
  rw [getitemInPython_of_ne hT.not_modules]
  refine wpAny_bind (wpAny_specialOf hT hl ?_)
  have fin : wpAny (model prog w) A (subscripted slice false o i) (fun r s₃ => wpAny (model prog w) A (letTemporaryGo value o r >>= fun _ => pure r) Q E s₃) E s₂ := by
    rw [hs o i]
    exact wpAny_operating (wpAny_mono h₂ (fun r s₃ h₃ => wpAny_bind (wpAny_letTemporaryGo (wpAny_pure h₃))) fun _ _ x => x)
  first
    | exact wpAny_pure (wpAny_bind fin)
    | exact wpAny_bind (wpAny_pure (wpAny_bind fin))
    | exact wpAny_bind fin

theorem dict_typeIs {X : Cx} {pins : List (Addr × Obj)} {σ : St} {H : Hp} {s : Shared} {a : Addr} {y : V} {o : Option V} (I : Inv X pins σ H s) (g : DGet H a y o) : s.TypeIs (.ref a) "dict" := by
  rcases g with ⟨kvs, k, e, _, _⟩ | ⟨kvs, k, b, e, _, _, _⟩
  · obtain ⟨_, _, vs, _, dd⟩ := dk_rd I.hok e
    exact dd.typeIs
  · obtain ⟨_, _, xs, _, dd⟩ := dt_rd I.hok e
    exact dd.typeIs
/-- d[y] -/
def tDGet (td ty : TE) : TE := fun σ H Q => td σ H fun x H1 => ty σ H1 fun y H2 => ∃ a v, x = .ref a ∧ DGet H2 a y (some v) ∧ Q v H2
/-- y in d, y not in d -/
def tDIn (ty td : TE) : TE := fun σ H Q => ty σ H fun y H1 => td σ H1 fun x H2 => ∃ a o, x = .ref a ∧ DGet H2 a y o ∧ Q (.bl o.isSome) H2
def tDNotIn (ty td : TE) : TE := fun σ H Q => ty σ H fun y H1 => td σ H1 fun x H2 => ∃ a o, x = .ref a ∧ DGet H2 a y o ∧ Q (.bl (!o.isSome)) H2
/-- d[y] = v -/
def sDPut (td ty tv : TE) : TS := fun D σ H => tv σ H fun v H1 => td σ H1 fun x H2 => ty σ H2 fun y H3 => ∃ a H4, x = .ref a ∧ DPut H3 a y v H4 ∧ D.nx σ H4
/-- d[y] op= v -/
def sDAug (td ty tv : TE) (rd : V → V → Hp → VK → Prop) : TS := fun D σ H => td σ H fun x H1 => ty σ H1 fun y H2 => ∃ a v, x = .ref a ∧ DGet H2 a y (some v) ∧
  tv σ H2 fun y2 H3 => rd v y2 H3 fun z H4 => ∃ H5, DPut H4 a y z H5 ∧ D.nx σ H5
/-- del d[y] -/
def sDDel (td ty : TE) : TS := fun D σ H => td σ H fun x H1 => ty σ H1 fun y H2 => ∃ a kvs k, x = .ref a ∧ H2 a = some (.dK kvs) ∧ y = kV k ∧ (valV kvs k).isSome = true ∧ D.nx σ (upd H2 a (.dK (dropK kvs k)))

section
variable {X : Cx} {o i e value : Expr} {pos pos' tpos : Pos} {td ty tv : TE}
theorem pe_dget (hu : X.A.units + 1 < cLine) (ho : PE X o td) (hi : PE X i ty) (hs : NoSl i) : PE X (.Subscript o i pos) (tDGet td ty) := by
  intro pins s σ H Q I h
  refine subD_of PySem.F.slot_dict_getitem.lookup hs (thn (ho pins s σ H _ I h) fun u s1 ⟨x, H1, I1, rx, q1⟩ => thn (hi pins s1 σ H1 _ I1 q1) fun iv s2 ⟨y, H2, I2, ry, a, v, ex, g, q2⟩ => ?_)
  subst ex
  obtain rfl : u = Value.ref a := rx
  exact ⟨dict_typeIs I2 g, d_getItem hu I2 g ry fun w' s3 I3 rw' => ⟨v, H2, I3, rw', q2⟩⟩
theorem pc_din (hu : X.A.units + 1 < cLine) (hi : PE X i ty) (ho : PE X o td) : PC X .In i o (tDIn ty td) := by
  intro pins s σ H Q I h
  refine thn (hi pins s σ H _ I h) fun iv s1 ⟨y, H1, I1, ry, q1⟩ => thn (ho pins s1 σ H1 _ I1 q1) fun u s2 ⟨x, H2, I2, rx, a, ov, ex, g, q2⟩ => ?_
  subst ex
  obtain rfl : u = Value.ref a := rx
  exact d_in hu I2 g ry fun s3 I3 => ⟨.bl ov.isSome, H2, I3, rfl, q2⟩
theorem pc_dnotin (hu : X.A.units + 1 < cLine) (hi : PE X i ty) (ho : PE X o td) : PC X .NotIn i o (tDNotIn ty td) := by
  intro pins s σ H Q I h
  refine thn (hi pins s σ H _ I h) fun iv s1 ⟨y, H1, I1, ry, q1⟩ => thn (ho pins s1 σ H1 _ I1 q1) fun u s2 ⟨x, H2, I2, rx, a, ov, ex, g, q2⟩ => ?_
  subst ex
  obtain rfl : u = Value.ref a := rx
  exact d_notIn hu I2 g ry fun s3 I3 => ⟨.bl (!ov.isSome), H2, I3, rfl, q2⟩
theorem ps_dput (hu : X.A.units + 1 < cLine) (ho : PE X o td) (hi : PE X i ty) (hv : PE X value tv) (hs : swapsWith value (some (.Subscript o i pos')) pos.line X.env = pure false) :
    PS X (.Assign [.Subscript o i pos'] value pos) (sDPut td ty tv) := by
  intro pins s σ H D I h
  refine wpAny_Assign_Subscript (thn (hv pins s σ H _ I h) fun r s1 ⟨v, H1, I1, rv, q1⟩ => thn (ho pins s1 σ H1 _ I1 q1) fun u s2 ⟨x, H2, I2, rx, q2⟩ => thn (hi pins s2 σ H2 _ I2 q2) fun iv s3 ⟨y, H3, I3, ry, a, H4, ex, g, q3⟩ => ?_) hs
  subst ex
  obtain rfl : u = Value.ref a := rx
  exact d_setItem hu I3 g ry rv fun s4 I4 => ⟨σ, H4, I4, q3⟩
end


/-! ### displays -/
theorem dt_empty {P : Program} {w : World} {H : Hp} (h : Heap) (hb : sysModules < h.objs.size) : ObjOk P w H (h.push { cls := .type "dict", data := .dict #[] }) h.objs.size (.dT []) :=
  ⟨Nat.zero_le _, beq_eq_false_iff_ne.mpr (Ne.symm (Nat.ne_of_lt hb)), [], .nil, _, #[], 0, Heap.get?_push_size _ rfl, ⟨rfl, rfl, rfl⟩, rfl, rfl, List.nodup_nil⟩
/-- {}, to be a dict of the kind that is wanted -/
def tDNewK : TE := fun _ H Q => ∀ p, H p = none → Q (.ref p) (upd H p (.dK []))
def tDNewT : TE := fun _ H Q => ∀ p, H p = none → Q (.ref p) (upd H p (.dT []))
section
variable {X : Cx} {pos : Pos}
theorem pe_dnewT : PE X (.Dict [] [] pos) tDNewT := fun pins s σ H Q I h =>
  wpAny_Dict_empty ⟨.ref s.heap.objs.size, _, I.laid (a := s.heap.objs.size) (o := .dT []) (t' := s.toks) (fun _ _ q => Heap.get?_push_of_some _ q) (Nat.le_refl _) (dt_empty s.heap I.big), rfl, h _ (I.hok.fresh (Nat.le_refl _))⟩
end

/-- the pairs of a display, from the left -/
def tPairs : List (TE × TE) → St → Hp → (List (V × V) → Hp → Prop) → Prop
  | [], _, H, Q => Q [] H
  | (tk, tv) :: r, σ, H, Q => tk σ H fun x H1 => tv σ H1 fun y H2 => tPairs r σ H2 fun ps H3 => Q ((x, y) :: ps) H3
abbrev VV : List (V × V) → List (Value × Value) → Prop := Paired fun p q => RelV p.1 q.1 ∧ RelV p.2 q.2
def PPs (X : Cx) (pos : Pos) (keys : List (Option Expr)) (values : List Expr) (trs : List (TE × TE)) : Prop :=
  ∀ (pins : List (Addr × Obj)) (s : Shared) (σ : St) (H : Hp) (Q : List (V × V) → Hp → Prop), Inv X pins σ H s → tPairs trs σ H Q →
    wpAny (model X.prog X.w) X.A (evalPairs (pairTrees keys values X.env pos)) (fun vs s' => ∃ ps H', Inv X pins σ H' s' ∧ VV ps vs ∧ Q ps H') X.xe s
def mergeK (kvs more : List (Key × V)) : List (Key × V) := more.foldl (fun acc kv => putK acc kv.1 kv.2) kvs
/-- {k: v, ..} with keys ints and texts; the new dict stands empty while the pairs are made -/
def tDisp (trs : List (TE × TE)) : TE := fun σ H Q => ∀ p, H p = none → tPairs trs σ (upd H p (.dK [])) fun ps H2 => H2 p = some (.dK []) ∧ ∃ kvs : List (Key × V), ps = kvs.map (fun kv => (kV kv.1, kv.2)) ∧ kvs.length ≤ 15 ∧ Q (.ref p) (upd H2 p (.dK (mergeK [] kvs)))
/-! ### methods -/
/-- a method call o.m(e) of a built-in, with one argument: what must be seen of the text -/
structure M1 (X : Cx) (o : Expr) (m : Str) (apos : Pos) (e : Expr) (cpos : Pos) : Prop where
  base : attributeBase o m X.env (eval o X.env) = eval o X.env
  few : ((backTo cpos (starEach [e] X.env)).all (fun x => !x.1) && (backToKw cpos (keywordEach [] X.env)).all (fun x => x.1.isSome)
    && decide (([e] : List Expr).length + ([] : List Keyword).length + (if ([] : List Keyword).isEmpty then 0 else 1) < 30)) = true
  line : (apos.endLine == cpos.line) = true
  trees : backTo cpos (starEach [e] X.env) = [(false, eval e X.env)]
structure M2 (X : Cx) (o : Expr) (m : Str) (apos : Pos) (e f : Expr) (cpos : Pos) : Prop where
  base : attributeBase o m X.env (eval o X.env) = eval o X.env
  few : ((backTo cpos (starEach [e, f] X.env)).all (fun x => !x.1) && (backToKw cpos (keywordEach [] X.env)).all (fun x => x.1.isSome)
    && decide (([e, f] : List Expr).length + ([] : List Keyword).length + (if ([] : List Keyword).isEmpty then 0 else 1) < 30)) = true
  line : (apos.endLine == cpos.line) = true
  trees : backTo cpos (starEach [e, f] X.env) = [(false, eval e X.env), (false, eval f X.env)]

/-- a is a dict, whatever its keys -/
def IsD (H : Hp) (a : Addr) : Prop := (∃ kvs, Rd H a (.dK kvs)) ∨ ∃ kvs, Rd H a (.dT kvs)
theorem isD_at {X : Cx} {pins : List (Addr × Obj)} {σ : St} {H : Hp} {s : Shared} {a : Addr} (I : Inv X pins σ H s) (d : IsD H a) :
    s.TypeIs (.ref a) "dict" ∧ (∀ b, Value.ref a = .ref b → ∃ ob, s.heap.get? b = some ob ∧ ob.dict = none) ∧ (a == sysModules) = false := by
  rcases d with ⟨kvs, e⟩ | ⟨kvs, e⟩
  · obtain ⟨_, hd, vs, _, dd⟩ := dk_rd I.hok e
    refine ⟨dd.typeIs, fun b q => ?_, hd⟩
    cases q
    obtain ⟨ob, _, _, h1, h2, _⟩ := dd
    exact ⟨ob, h1, h2.2.1⟩
  · obtain ⟨_, hd, xs, _, dd⟩ := dt_rd I.hok e
    refine ⟨dd.typeIs, fun b q => ?_, hd⟩
    cases q
    obtain ⟨ob, _, _, h1, h2, _⟩ := dd
    exact ⟨ob, h1, h2.2.1⟩

section
variable {X : Cx} {pins : List (Addr × Obj)} {σ : St} {H : Hp} {s : Shared} {a : Addr} {y d : V} {u r : Value} {o : Option V} {A : Around} {E : Value → Shared → Prop}
end

def tDGet1 (td ty : TE) : TE := fun σ H Q => td σ H fun x H1 => ∃ a, x = .ref a ∧ IsD H1 a ∧ ty σ H1 fun y H2 => ∃ o, DGet H2 a y o ∧ Q (o.getD .non) H2
def tDGet2 (td ty tx : TE) : TE := fun σ H Q => td σ H fun x H1 => ∃ a, x = .ref a ∧ IsD H1 a ∧ ty σ H1 fun y H2 => tx σ H2 fun z H3 => ∃ o, DGet H3 a y o ∧ Q (o.getD z) H3
/-- d.pop(k): there; d.pop(k, x): there or not -/
def tDPop1 (td ty : TE) : TE := fun σ H Q => td σ H fun x H1 => ∃ a, x = .ref a ∧ IsD H1 a ∧ ty σ H1 fun y H2 => ∃ kvs k v, H2 a = some (.dK kvs) ∧ y = kV k ∧ valV kvs k = some v ∧ Q v (upd H2 a (.dK (dropK kvs k)))
def tDPop2 (td ty tx : TE) : TE := fun σ H Q => td σ H fun x H1 => ∃ a, x = .ref a ∧ IsD H1 a ∧ ty σ H1 fun y H2 => tx σ H2 fun z H3 => ∃ kvs k, H3 a = some (.dK kvs) ∧ y = kV k ∧
  (∀ v, valV kvs k = some v → Q v (upd H3 a (.dK (dropK kvs k)))) ∧ (valV kvs k = none → Q z H3)
section
variable {X : Cx} {o e f : Expr} {apos cpos : Pos} {td ty tx : TE}
end

end L2

set_option maxHeartbeats 1000000
/-! names that are keys, and what hinders -/
namespace Lo
open PySem L2
/-- a pact's name, made at run time -/
def sPa (_ : PySem.W.Frag) (H : Hp) (x : Pa) (v : V) : Prop := ∃ a, v = .ref a ∧ H a = some (.tup [.int x.1, .int x.2])
theorem sPa.c {K : PySem.W.Frag} {H : Hp} {x : Pa} {v : V} (h : sPa K H x v) : cPa.rp K H x v := by
  obtain ⟨a, rfl, e⟩ := h
  exact ⟨a, _, _, rfl, .inl e, rfl, rfl⟩
theorem sPa.keep {K : PySem.W.Frag} {H H' : Hp} {x : Pa} {v : V} (e : TSame H H') (h : sPa K H x v) : sPa K H' x v := by
  obtain ⟨a, rfl, q⟩ := h
  exact ⟨a, rfl, e _ _ q⟩
def sPr (K : PySem.W.Frag) (H : Hp) (x : Pr) (v : V) : Prop := ∃ a pu tu, v = .ref a ∧ SqU K H a [pu, tu] ∧ sPa K H x.1 pu ∧ cLk.rp K H x.2 tu
theorem sPr.c {K : PySem.W.Frag} {H : Hp} {x : Pr} {v : V} (h : sPr K H x v) : cPr.rp K H x v := by
  obtain ⟨a, pu, tu, rfl, e, p, t⟩ := h
  exact ⟨a, pu, tu, rfl, e, p.c, t⟩
theorem sPr.keep {K : PySem.W.Frag} {H H' : Hp} {x : Pr} {v : V} (e : TSame H H') (h : sPr K H x v) : sPr K H' x v := by
  obtain ⟨a, pu, tu, rfl, q, p, t⟩ := h
  exact ⟨a, pu, tu, rfl, q.keep e, p.keep e, cLk.keep e t⟩
def pk (x : Pa) : List Key := [.inl x.1, .inl x.2]
theorem pk_inj {x y : Pa} (h : pk x = pk y) : x = y := by
  unfold pk at h
  simp only [List.cons.injEq, Sum.inl.injEq, and_true] at h
  exact Prod.ext h.1 h.2
/-- those that hinder a lock, from the left -/
def hins (xs : List Pr) (p : Pa) (k : Lk) : List Pa := (xs.filter fun x => !decide (x.1 = p) && !besideB x.2 k).map (·.1)
def cSub {α : Type} [DecidableEq α] (c : Cod α) (R : PySem.W.Frag → Hp → α → V → Prop) (h : ∀ {K H x v}, R K H x v → c.rp K H x v) (keep : ∀ {K : PySem.W.Frag} {H H' : Hp} {x : α} {v : V}, TSame H H' → R K H x v → R K H' x v) : Cod α where
  n := c.n
  rp := R
  inj h1 h2 h3 h4 := c.inj h1 h2 (h h3) (h h4)
  eq h1 h2 := c.eq (h h1) (h h2)
  rc h1 h2 := c.rc (h h1) (h h2)
  ne h1 h2 := c.ne (h h1) (h h2)
  keep := keep
def cPrS : Cod Pr := cSub cPr sPr (fun h => h.c) (fun e h => h.keep e)
def cPaS : Cod Pa := cSub cPa sPa (fun h => h.c) (fun e h => h.keep e)
def uNS (n : Nat) (K : PySem.W.Frag) : TS := fun D σ H => ∃ a ns nl nus names b, σ = [some (.ref a), some (.ref nl), some (.int b)] ++ List.replicate n none ∧ SqL K H a ((ns : List Int).map V.int) ∧ ns.length ≤ 63 ∧ H nl = some (.lst nus) ∧ Paired (sPa K H) names nus ∧ names.length = 4 ∧ ∀ H', D.rt (.bl true) H'
/-! ### two houses -/
section
variable {C : Kd → Addr} {CL : Addr} {K : PySem.W.Frag} {H H' : Hp}
def Kr (l pl q : Addr) (H H' : Hp) : Prop := ∀ b o, b ≠ l → b ≠ pl → b ≠ q → H b = some o → H' b = some o
def Ho (C : Kd → Addr) (CL : Addr) (K : PySem.W.Frag) (H : Hp) (l pl q : Addr) (ps : List Pr) (us : List V) : Prop := LS C CL K H l pl ps ∧ H q = some (.lst us) ∧ Paired (sPr K H) ps us ∧ ((waitL ps).map (·.1)).Nodup
def W18 (C : Kd → Addr) (CL : Addr) (K : PySem.W.Frag) (l0 pl0 q0 : Addr) (ps0 : List Pr) (us0 : List V) (l1 pl1 q1 : Addr) (ps1 : List Pr) (us1 : List V) (own : List (Addr × List V)) (H : Hp) : Prop :=
  Ho C CL K H l0 pl0 q0 ps0 us0 ∧ Ho C CL K H l1 pl1 q1 ps1 us1 ∧ l0 ≠ l1 ∧ (∀ x ∈ own, H x.1 = some (.lst x.2)) ∧ (q0 ≠ pl0 ∧ q1 ≠ pl1 ∧ pl0 ≠ pl1 ∧ pl0 ≠ q1 ∧ q0 ≠ pl1 ∧ q0 ≠ q1) ∧ ∀ x ∈ own, x.1 ≠ pl0 ∧ x.1 ≠ q0 ∧ x.1 ≠ pl1 ∧ x.1 ≠ q1
variable {l0 pl0 q0 l1 pl1 q1 : Addr} {ps0 ps1 : List Pr} {us0 us1 : List V} {own : List (Addr × List V)}
end
section
variable {X : Cx}
end
end Lo

/-! dicts whose keys are tuples of a name and a number; setdefault where the keys lie in the heap -/
namespace L2
open PySem
theorem ik (P : Program) (w : World) (i : Int) (t : Tok) : (intKind P w).is i (.int i t) = true := by simp [intKind, Value.isInt]
/-- a name and a number -/
abbrev NKey := (Int × Int) × Int
def NestAt (h : Heap) (k : NKey) (a : Addr) : Prop := ∃ b t1 t2 t3, h.IsTuple a #[.ref b, .int k.2 t3] ∧ h.IsTuple b #[.int k.1.1 t1, .int k.1.2 t2]
theorem tupAt_inj {h : Heap} {a : Addr} {xs ys : Array Value} (p : h.IsTuple a xs) (q : h.IsTuple a ys) : xs = ys := by
  obtain ⟨o, e, _, n, d⟩ := p
  obtain ⟨o', e', _, n', d'⟩ := q
  cases e.symm.trans e'
  rw [d] at d'
  injection d'
theorem tupAt_stays {h h' : Heap} {a d : Addr} {xs : Array Value} {o : Obj} {es ep} (p : h.IsTuple a xs) (e : h.get? d = some o) (c : o.data = .dict es ep) (hs : Heap.SameBut d h h') : h'.IsTuple a xs := by
  obtain ⟨o', e', c', n, d'⟩ := p
  refine ⟨o', (hs.2 a ?_).trans e', c', n, d'⟩
  intro z
  subst z
  cases e'.symm.trans e
  rw [c] at d'
  cases d'
theorem nest_inj {h : Heap} {a : Addr} {x y : NKey} (p : NestAt h x a) (q : NestAt h y a) : x = y := by
  obtain ⟨b, t1, t2, t3, p1, p2⟩ := p
  obtain ⟨c, u1, u2, u3, q1, q2⟩ := q
  have e1 := tupAt_inj p1 q1
  simp only [Array.mk.injEq, List.cons.injEq, Value.ref.injEq, Value.int.injEq, and_true] at e1
  obtain ⟨e0, e1, _⟩ := e1
  subst e0
  have e2 := tupAt_inj p2 q2
  simp only [Array.mk.injEq, List.cons.injEq, Value.int.injEq, and_true] at e2
  exact Prod.ext (Prod.ext e2.1.1 e2.2.1) e1
variable {prog : Program} {w : World} {A : Around} {E : Value → Shared → Prop} {s : Shared}
theorem nameKey {h : Heap} {b : Addr} {i j : Int} {t u : Tok} (p : h.IsTuple b #[.int i t, .int j u]) : IsTupleKey (intKind prog w) h [i, j] b := by
  obtain ⟨o, e, c, n, d⟩ := p
  exact ⟨o, _, n, e, c, d, .cons (ik prog w i t) (.cons (ik prog w j u) .nil)⟩
def nestHash (k : NKey) : Int := reduceHash (Builtin.Tuple.tupleHashOf [reduceHash (Builtin.Tuple.tupleHashOf [hashInt k.1.1, hashInt k.1.2]), hashInt k.2])
theorem nest_hash {k : NKey} {a : Addr} {Q : Int → Shared → Prop} (hu : A.units + 1 < cLine) (x : NestAt s.heap k a) (q : Q (nestHash k) { s with toks := s.toks + 5 }) :
    wpAny (model prog w) A (pyHash (.ref a)) Q E s := by
  obtain ⟨b, t1, t2, t3, p1, p2⟩ := x
  have ty : s.TypeIs (.ref a) "tuple" := let ⟨o, e, c, _⟩ := p1; ⟨o, e, c⟩
  obtain ⟨o, e, _, n, d⟩ := p1
  unfold pyHash
  first | unfold pyHashByItsType | skip
  first | refine wpAny_bind (wpAny_cRoomFor_or (.inr (by omega)) ?_) | skip
  refine wpAny_bind (wpAny_specialOf ty F.slot_tuple_hash.lookup ?_)
  have hne : ¬ ((some (Value.builtin "tuple.__hash__") == some Value.none) = true) := by rw [beq_builtin_none]; decide
  rw [if_neg hne]
  refine wpAny_bind (wpAny_specialOf ty F.slot_tuple_hash.lookup ?_)
  refine wpAny_bind (wpAny_callSpecialIfBoundUnlessNone?_slot ty F.slot_tuple_hash (wpAny_call_entry F.slot_tuple_hash ty F.entry_tuple_hash ?_ (F.args_tuple_hash_1 _)))
  show wpAny _ _ (Builtin.Tuple.tupleItemsOf (.ref a) >>= fun _ => _) _ _ s
  refine wpAny_bind (wpAny_tupleItemsOf e d ?_)
  refine wpAny_bind ?_
  rw [← Array.forIn_toList]
  refine wpAny_forIn_list _
    (fun rest (c : Array Int) s' => (rest = [.ref b, .int k.2 t3] ∧ c = #[] ∧ s' = s) ∨ (rest = [.int k.2 t3] ∧ c = #[tupleKeyHash (intKind prog w) [k.1.1, k.1.2]] ∧ s' = { s with toks := s.toks + 3 }) ∨
      (rest = [] ∧ c = #[tupleKeyHash (intKind prog w) [k.1.1, k.1.2], (intKind prog w).hash k.2] ∧ s' = { s with toks := s.toks + 4 })) _ ?_ ?_ _ _ (.inl ⟨rfl, rfl, rfl⟩)
  · rintro y rest c s' (⟨e1, rfl, rfl⟩ | ⟨e1, rfl, rfl⟩ | ⟨e1, _⟩)
    · injection e1 with e1 e2
      subst e1 e2
      refine wpAny_bind (wpAny_pyHash_tuple (knd := intKind prog w) (ks := [k.1.1, k.1.2]) (by show A.units + 1 < cLine; exact hu) (nameKey p2) ?_)
      first
        | exact wpAny_pure (.inr (.inl ⟨rfl, rfl, rfl⟩))
        | exact wpAny_bind (wpAny_pure (wpAny_pure (.inr (.inl ⟨rfl, rfl, rfl⟩))))
    · injection e1 with e1 e2
      subst e1 e2
      refine wpAny_bind ((intKind prog w).pyHash (ik prog w k.2 t3) ?_)
      first
        | exact wpAny_pure (.inr (.inr ⟨rfl, rfl, rfl⟩))
        | exact wpAny_bind (wpAny_pure (wpAny_pure (.inr (.inr ⟨rfl, rfl, rfl⟩))))
    · cases e1
  · rintro c s' (⟨e1, _⟩ | ⟨e1, _⟩ | ⟨_, rfl, rfl⟩)
    · cases e1
    · cases e1
    show wpAny _ _ (retInt (Builtin.Tuple.tupleHashOf [tupleKeyHash (intKind prog w) [k.1.1, k.1.2], (intKind prog w).hash k.2])) _ _ _
    refine wpAny_ret_mkInt ?_
    have q : Q (reduceHash (Builtin.Tuple.tupleHashOf [tupleKeyHash (intKind prog w) [k.1.1, k.1.2], (intKind prog w).hash k.2])) { s with toks := s.toks + 5 } := q
    unfold reduceHash at q
    generalize Builtin.Tuple.tupleHashOf [tupleKeyHash (intKind prog w) [k.1.1, k.1.2], (intKind prog w).hash k.2] = H0 at q ⊢
    show wpAny _ _ (if (decide (-(2 : Int) ^ 63 ≤ H0) && decide (H0 < 2 ^ 63)) = true then _ else _) Q E _
    by_cases hr : (decide (-(2 : Int) ^ 63 ≤ H0) && decide (H0 < 2 ^ 63)) = true
    · rw [if_pos hr] at q ⊢
      exact wpAny_pure (by simpa [Nat.add_assoc] using q)
    · rw [if_neg hr] at q ⊢
      exact wpAny_bind (wpAny_rule (wpAny_pure (by simpa [Nat.add_assoc] using q)))
theorem quiet_tup {n : Nat} {a : Addr} {its : Array Value} {Q : Bool → Shared → Prop} (p : s.heap.IsTuple a its) (hi : ∀ v ∈ its.toList, ∀ R : Bool → Shared → Prop, R true s → wpAny (model prog w) A (eqIsQuiet n v) R E s) (q : Q true s) :
    wpAny (model prog w) A (eqIsQuiet (n + 1) (.ref a)) Q E s := by
  have ty : s.TypeIs (.ref a) "tuple" := let ⟨o, e, c, _⟩ := p; ⟨o, e, c⟩
  obtain ⟨o, e, _, m, d⟩ := p
  unfold eqIsQuiet
  refine wpAny_bind (wpAny_specialOf ty F.slot_tuple_eq.lookup ?_)
  refine wpAny_bind (wpAny_isInstance ty isSubtype_tuple_tuple ?_)
  simp only [Bool.not_true, Bool.false_eq_true, if_false]
  refine wpAny_bind (wpAny_seqItems e d ?_)
  refine wpAny_bind ?_
  show wpAny _ _ (forIn its _ _) _ _ s
  rw [← Array.forIn_toList]
  refine wpAny_forIn_list _ (fun rest r s' => r.1 = none ∧ s' = s ∧ ∀ v ∈ rest, v ∈ its.toList) _ ?_ ?_ _ _ ⟨rfl, rfl, fun _ h => h⟩
  · rintro v rest r s' ⟨hr, rfl, hall⟩
    refine wpAny_bind (hi v (hall v List.mem_cons_self) _ ?_)
    simp only [Bool.not_true, Bool.false_eq_true, if_false]
    exact wpAny_pure ⟨rfl, rfl, fun u hu' => hall u (List.mem_cons_of_mem _ hu')⟩
  · rintro ⟨r1, r2⟩ s' ⟨hr, rfl, _⟩
    simp only at hr
    subst hr
    exact wpAny_pure q
theorem quiet_val {n : Nat} {v : Value} {R : Bool → Shared → Prop} (h : carriedByValue v = true) (q : R true s) : wpAny (model prog w) A (eqIsQuiet n v) R E s := by
  rw [eqIsQuiet_byValue n h]
  exact wpAny_pure q
theorem nest_quiet {k : NKey} {a : Addr} {Q : Bool → Shared → Prop} (x : NestAt s.heap k a) (q : Q true s) : wpAny (model prog w) A (eqIsQuiet 8 (.ref a)) Q E s := by
  obtain ⟨b, t1, t2, t3, p1, p2⟩ := x
  refine quiet_tup (n := 7) p1 (fun v hv R hR => ?_) q
  have hv' : v ∈ [Value.ref b, .int k.2 t3] := hv
  rcases List.mem_cons.mp hv' with e | hv'
  · subst e
    refine quiet_tup (n := 6) p2 (fun v hv R hR => ?_) hR
    have hv' : v ∈ [Value.int k.1.1 t1, .int k.1.2 t2] := hv
    rcases List.mem_cons.mp hv' with e | hv'
    · subst e; exact quiet_val rfl hR
    · rcases List.mem_cons.mp hv' with e | hv'
      · subst e; exact quiet_val rfl hR
      · cases hv'
  · rcases List.mem_cons.mp hv' with e | hv'
    · subst e; exact quiet_val rfl hR
    · cases hv'
theorem two_at {α : Type} {a b : α} {j : Nat} (h : j < (#[a, b] : Array α).size) : (j = 0 ∧ (#[a, b] : Array α)[j] = a) ∨ (j = 1 ∧ (#[a, b] : Array α)[j] = b) := by
  have h' : j < 2 := h
  match j, h' with
  | 0, _ => exact .inl ⟨rfl, rfl⟩
  | 1, _ => exact .inr ⟨rfl, rfl⟩
theorem name_eqAt {b c : Addr} {i j i' j' : Int} {t u t' u' : Tok} (hu : A.units < cLine) (p : s.heap.IsTuple b #[.int i t, .int j u]) (q : s.heap.IsTuple c #[.int i' t', .int j' u']) :
    SeqAt.EqAt A s (.ref b) (.ref c) (decide (i = i') && decide (j = j')) := by
  by_cases e : b = c
  · subst e
    have e2 := tupAt_inj p q
    simp only [Array.mk.injEq, List.cons.injEq, Value.int.injEq, and_true] at e2
    rw [decide_eq_true e2.1.1, decide_eq_true e2.2.1]
    exact SeqAt.EqAt.same _
  · refine SeqAt.EqAt.of_refs e ?_
    have z := SeqAt.RcAt.tuples (A := A) (s := s) (e := fun n => if n = 0 then decide (i = i') else decide (j = j')) p q hu (fun n h1 h2 => by
      rcases two_at h1 with ⟨n0, e1⟩ | ⟨n0, e1⟩ <;> rcases two_at h2 with ⟨m0, e2⟩ | ⟨m0, e2⟩ <;> first | (exfalso; omega) | skip
      · rw [e1, e2]; subst n0; show SeqAt.EqAt _ _ _ _ (decide (i = i')); rw [← Bool.beq_eq_decide_eq]; exact SeqAt.EqAt.int_int _ t _ t'
      · rw [e1, e2]; subst n0; show SeqAt.EqAt _ _ _ _ (decide (j = j')); rw [← Bool.beq_eq_decide_eq]; exact SeqAt.EqAt.int_int _ u _ u')
    have ez : ((List.range (min (#[Value.int i t, .int j u] : Array Value).size (#[Value.int i' t', .int j' u'] : Array Value).size)).all (fun n => if n = 0 then decide (i = i') else decide (j = j')) && (#[Value.int i t, .int j u] : Array Value).size == (#[Value.int i' t', .int j' u'] : Array Value).size) = (decide (i = i') && decide (j = j')) := by
      show ((decide (i = i') && (decide (j = j') && true)) && true) = _
      rw [Bool.and_true, Bool.and_true]
    rw [ez] at z
    exact z
theorem nest_eqAt {x y : NKey} {a c : Addr} (hu : A.units + 1 < cLine) (p : NestAt s.heap x a) (q : NestAt s.heap y c) : SeqAt.EqAt A s (.ref a) (.ref c) (decide (x = y)) := by
  by_cases e : a = c
  · subst e
    rw [decide_eq_true (nest_inj p q)]
    exact SeqAt.EqAt.same _
  · refine SeqAt.EqAt.of_refs e ?_
    obtain ⟨b, t1, t2, t3, p1, p2⟩ := p
    obtain ⟨d, u1, u2, u3, q1, q2⟩ := q
    have z := SeqAt.RcAt.tuples (A := A) (s := s) (e := fun n => if n = 0 then (decide (x.1.1 = y.1.1) && decide (x.1.2 = y.1.2)) else decide (x.2 = y.2)) p1 q1 (by omega) (fun n h1 h2 => by
      rcases two_at h1 with ⟨n0, e1⟩ | ⟨n0, e1⟩ <;> rcases two_at h2 with ⟨m0, e2⟩ | ⟨m0, e2⟩ <;> first | (exfalso; omega) | skip
      · rw [e1, e2]; subst n0; exact name_eqAt (by show A.units + 1 < cLine; exact hu) p2 q2
      · rw [e1, e2]; subst n0; show SeqAt.EqAt _ _ _ _ (decide (x.2 = y.2)); rw [← Bool.beq_eq_decide_eq]; exact SeqAt.EqAt.int_int _ t3 _ u3)
    have ez : ((List.range (min (#[Value.ref b, .int x.2 t3] : Array Value).size (#[Value.ref d, .int y.2 u3] : Array Value).size)).all (fun n => if n = 0 then (decide (x.1.1 = y.1.1) && decide (x.1.2 = y.1.2)) else decide (x.2 = y.2)) && (#[Value.ref b, .int x.2 t3] : Array Value).size == (#[Value.ref d, .int y.2 u3] : Array Value).size) = decide (x = y) := by
      show (((decide (x.1.1 = y.1.1) && decide (x.1.2 = y.1.2)) && (decide (x.2 = y.2) && true)) && true) = _
      rw [Bool.and_true, Bool.and_true, ← Bool.decide_and, ← Bool.decide_and]
      exact decide_eq_decide.mpr ⟨fun z => Prod.ext (Prod.ext z.1.1 z.1.2) z.2, fun z => by rw [z]; exact ⟨⟨rfl, rfl⟩, rfl⟩⟩
    rw [ez] at z
    exact z
def nestKind (prog : Program) (w : World) : HeapKind prog w NKey where
  is := NestAt
  hash := nestHash
  draws := fun _ => 5
  room := fun A => A.units + 1 < cLine
  inj := fun hx hy => nest_inj hx hy
  keeps := fun x e c hs => let ⟨b, t1, t2, t3, p1, p2⟩ := x; ⟨b, t1, t2, t3, tupAt_stays p1 e c hs, tupAt_stays p2 e c hs⟩
  pyHash := fun hu hk h => nest_hash hu hk h
  eqBool := fun hu hx hy h => nest_eqAt hu hx hy _ _ _ _ h
  quiet := fun hk h => nest_quiet hk h
/-! ### setdefault -/
section
variable {κ : Type} [DecidableEq κ] {knd : HeapKind prog w κ} {d a : Addr}
theorem dictSetDefault_heap {xs : List (κ × Addr × Value)} {k : κ} {v : Value} {Q : Value → Shared → Prop} (hu : knd.room A) (hkey : knd.is s.heap k a) (hm : s.heap.DictOfH knd d xs)
    (h1 : ∀ p, atKey xs k = some p → Q p.2 { s with toks := s.toks + knd.draws k })
    (h2 : atKey xs k = none → ∀ h', h'.DictOfH knd d (xs ++ [(k, a, v)]) → Heap.SameBut d s.heap h' → Q v { s with heap := h', toks := s.toks + knd.draws k }) (hsz : xs.length ≤ sizeLine) :
    wpAny (model prog w) A (dictSetDefault d (.ref a) v) Q E s := by
  obtain ⟨o, es, ep, ho, hc, hd, he, his, hn⟩ := hm
  unfold dictSetDefault
  try with_reducible refine wpAny_holding ?_
  refine wpAny_bind (knd.pyHash hu hkey ?_)
  refine wpAny_bind (wpAny_dictFind_heap (s := { s with toks := s.toks + knd.draws k }) hu hkey ho hd he his hn (fun hno => ?_) (fun j p hj => ?_))
  · have e0 := atKey_none_of_get hno
    have nk : k ∉ xs.map (·.1) := not_mem_keys_of_get hno
    refine wpAny_bind (wpAny_rule (wpAny_bind (wpAny_updateDictKeys (hz := by have e := size_of_entries he; omega) (s := { s with toks := s.toks + knd.draws k }) ho hd (wpAny_pure (h2 e0 _ ⟨_, _, ep + 1, Heap.get?_update_self _ ho (Obj.isFreed_of_dict (Obj.data_mapDictKeys hd _)),
      hc.mapDictKeys _, Obj.data_mapDictKeys hd _, ?_, fun x hx => ?_, ?_⟩ (Heap.SameBut.update ..))))))
    · simp [he, entryOfKey]
    · rcases List.mem_append.mp hx with hx | hx
      · exact knd.keeps (his x hx) ho hd (Heap.SameBut.update ..)
      · have e1 := List.mem_singleton.mp hx
        subst e1
        exact knd.keeps hkey ho hd (Heap.SameBut.update ..)
    · rw [List.map_append, List.nodup_append]
      refine ⟨hn, by simp, fun x hx y hy e1 => ?_⟩
      have hy' : y = k := by simpa using hy
      exact nk (hy' ▸ e1 ▸ hx)
  · refine wpAny_bind (wpAny_dictEntries (s := { s with toks := s.toks + knd.draws k }) ho hd ?_)
    rw [entry_at he j, hj]
    exact wpAny_bind (wpAny_rule (wpAny_pure (h1 p (atKey_of_get hn hj))))
theorem meetsH_setdefault (knd : HeapKind prog w κ) (d a : Addr) (hd : (d == sysModules) = false) (v : Value) :
    MeetsIn prog w (Builtin.«dict.setdefault» ⟨[.ref d, .ref a, v], []⟩) (fun A R s => knd.room A.in1 ∧ ∃ k xs, knd.is s.heap k a ∧ s.heap.DictOfH knd d xs ∧ xs.length ≤ sizeLine ∧
      (∀ p, atKey xs k = some p → R (.ok (.ret p.2)) { s with toks := s.toks + knd.draws k }) ∧
      (atKey xs k = none → ∀ h', h'.DictOfH knd d (xs ++ [(k, a, v)]) → Heap.SameBut d s.heap h' → R (.ok (.ret v)) { s with heap := h', toks := s.toks + knd.draws k })) :=
  .of_wp fun A R s ⟨hu, k, xs, hkey, hm, hz, h1, h2⟩ => by
    unfold Builtin.«dict.setdefault»
    refine wpAny_bind ?_
    unfold Builtin.Dict.keyAndDefault
    refine wpAny_bind (wpAny_notOrdered_dict hm.typeIs ?_)
    show wpAny _ _ (pure (d, Value.ref a, some v)) _ _ s
    refine wpAny_pure ?_
    show wpAny _ _ (if (d == sysModules) = true then _ else (dictSetDefault d (.ref a) v >>= fun _ => _)) _ _ s
    have hne : ¬ ((d == sysModules) = true) := by rw [hd]; decide
    rw [if_neg hne]
    exact wpAny_bind (dictSetDefault_heap hu hkey hm (fun p hp => wpAny_pure ⟨_, rfl, h1 p hp⟩) (fun e0 h' hm' hs' => wpAny_pure ⟨_, rfl, h2 e0 h' hm' hs'⟩) hz)
end
end L2

set_option maxHeartbeats 1000000
/-! enumerate; dicts of names and numbers; setdefault -/
namespace L2
open PySem PySem.Spec PyProof.Rows
/-- the list at a with its places, a new pair at each turn -/
def Ite (K : PySem.W.Frag) (a : Addr) : It :=
  ⟨fun i H => ∃ xs x, SqL K H a xs ∧ xs[i]? = some x, fun i H x H' => ∃ t y, x = .ref t ∧ H t = none ∧ H' = upd H t (.tup [.int (i : Nat), y]) ∧ ∀ xs, SqL K H a xs → xs[i]? = some y, fun i H => ∃ xs, SqL K H a xs ∧ xs.length ≤ i⟩
theorem turn_enum {P : Program} {w : World} {K : PySem.W.Frag} {elts : List Expr} {kk : Nat} {pos : Pos} (a it en : Addr) (hei : en ≠ it) :
    Turn P w K (.Tuple elts kk pos) (Ite K a) [en, it] en (fun i h => (∃ old, IsEnum h en it (i : Nat) old) ∧ h.IsListIter it a i) where
  mem := by simp
  obj := fun i h st b hb => by
    obtain ⟨⟨old, e1⟩, o, e2, c, d⟩ := st
    rcases List.mem_cons.mp hb with z | hb
    · subst z
      exact ⟨_, e1, fun v z => by have z' : Data.fields _ = Data.cell v := z; cases z'⟩
    · have z : b = it := by simpa using hb
      subst z
      exact ⟨o, e2, fun v z => by rw [d] at z; cases z⟩
  keep := fun i h h' st k => by
    obtain ⟨⟨old, e1⟩, e2⟩ := st
    exact ⟨⟨old, k en (by simp) _ e1⟩, e2.at fun o e => k it (by simp) o e⟩
  item := by
    intro X hP hw hK hc i pins s σ H E I hf st hg
    subst hP hw hK
    obtain ⟨⟨old, he⟩, hit⟩ := st
    obtain ⟨xs, x, hq, hx⟩ := hg
    obtain ⟨its, rv, p, hz⟩ := I.list hq
    obtain ⟨u, hu, ru⟩ := rv.get hx
    obtain ⟨f0, f1, f2, f3, f4, f5⟩ := hf en (by simp)
    obtain ⟨g0, g1, g2, g3, g4, g5⟩ := hf it (by simp)
    refine wpAny_pyNext_enum_item he hit p.isList (x := u) (by simpa using hu) hei fun h1 ho hit1 hT hsz hk => ⟨_, rfl, ?_⟩
    refine wpAny_letOwnedTupleGo_enum ho fun h2 he2 hs2 => ?_
    have hn : H s.heap.objs.size = none := I.hok.fresh (Nat.le_refl _)
    have helt : en < s.heap.objs.size := Heap.lt_size he
    have hilt : it < s.heap.objs.size := by obtain ⟨_, z, _⟩ := id hit; exact Heap.lt_size z
    have kp : ∀ b o, b ≠ en → b ≠ it → s.heap.get? b = some o → h2.get? b = some o := fun b o n1 n2 e => (hs2.2 b n1).trans (hk b o n1 n2 e)
    have hT2 : h2.get? s.heap.objs.size = some { cls := .type "tuple", data := .seq #[.int (i : Nat) s.toks, u] } := (hs2.2 _ (Nat.ne_of_gt helt)).trans hT
    have nb : ∀ b o, H b = some o → b ≠ en ∧ b ≠ it := fun b o e => ⟨(fun z => by rw [z, f0] at e; cases e), (fun z => by rw [z, g0] at e; cases e)⟩
    refine ⟨.ref s.heap.objs.size, upd H s.heap.objs.size (.tup [.int (i : Nat), x]), ?_, rfl, ⟨_, x, rfl, hn, rfl, fun ys hy => by rw [I.list_inj hy hq]; exact hx⟩, ⟨⟨_, by simpa using he2⟩, hit1.at fun o e => (hs2.2 it (Ne.symm hei)).trans e⟩, fun b hb => ?_⟩
    · show Inv X pins σ (upd H s.heap.objs.size (.tup [.int (i : Nat), x])) { s with heap := h2, gens := s.gens, drawn := s.drawn, toks := s.toks + 1 }
      refine I.step (h' := h2) (g' := s.gens) (d' := s.drawn) (t' := s.toks + 1) (ch := [en, it]) (fun b hb => ?_) (fun b o _ _ hc e _ => ?_) (fun b o _ _ hc e _ => ⟨o.slots, ?_⟩) (fun b o hc e n => ?_)
        (fun b o hc e => ⟨o, ?_⟩) (fun b ys e => ?_) (fun b o v e => ?_) (fun b ps e => ⟨#[], ?_⟩) (fun m hm => ?_) (fun b v e => ?_) I.bare
      · rcases List.mem_cons.mp hb with z | hb
        · subst z; exact ⟨f3, f1, f4, f5⟩
        · have z : b = it := by simpa using hb
          subst z; exact ⟨g3, g1, g4, g5⟩
      · exact kp b o (fun z => hc (by simp [z])) (fun z => hc (by simp [z])) e
      · exact kp b o (fun z => hc (by simp [z])) (fun z => hc (by simp [z])) e
      · rw [upd_ne (Nat.ne_of_lt (Heap.lt_size e))]; exact n
      · exact kp b o (fun z => hc (by simp [z])) (fun z => hc (by simp [z])) e
      · rw [upd_ne (ne_of_none e hn)]; exact e
      · rw [upd_ne (ne_of_none e hn)]; exact e
      · rw [upd_ne (ne_of_none e hn), e]; simp
      · obtain ⟨o, es, ep, ho', r⟩ := hm
        exact ⟨o, es, ep, kp _ o (Ne.symm f1) (Ne.symm g1) ho', r⟩
      · by_cases hb : b = s.heap.objs.size
        · subst hb
          rw [upd_same] at e
          cases e
          exact ⟨by show 2 ≤ sizeLine; decide, [.int (i : Nat) s.toks, u], .cons ⟨_, rfl⟩ (.cons ru .nil), _, hT2, rfl, _, rfl⟩
        · rw [upd_ne hb] at e
          refine (I.hok b v e).stay (fun c o hc q => ?_) (fun c q => ?_) fun c ys q => ?_
          · rcases hc with z | z
            · subst z; exact kp _ o (nb _ _ e).1 (nb _ _ e).2 q
            · exact kp _ o (nb _ _ z).1 (nb _ _ z).2 q
          · rw [upd_ne (ne_of_none q hn)]; exact q
          · rw [upd_ne (ne_of_none q hn)]; exact q
    · have hb' : b < s.heap.objs.size := by
        rcases List.mem_cons.mp hb with z | hb
        · rw [z]; exact helt
        · have z : b = it := by simpa using hb
          rw [z]; exact hilt
      rw [upd_ne (Nat.ne_of_lt hb')]
      exact (hf b hb).1
  done := by
    intro X hP hw hK hc i pins s σ H E I hf st hg
    subst hP hw hK
    obtain ⟨⟨old, he⟩, hit⟩ := st
    obtain ⟨xs, hq, hx⟩ := hg
    obtain ⟨its, rv, p, hz⟩ := I.list hq
    obtain ⟨f0, f1, f2, f3, f4, f5⟩ := hf it (by simp)
    have hl := rv.length
    exact wpAny_pyNext_enum_end (I.ok.hd hc) he hit p.isList (by simp; omega) fun h' eb => ⟨rfl, I.turned (t' := s.toks) (fun b o hb e => eb b o hb e) f0 f1 f3 f4 f5⟩
  self := fun _ _ _ _ _ st h => by
    obtain ⟨⟨old, he⟩, _⟩ := st
    exact wpAny_pyIter_enum he h
def iEnum (K : PySem.W.Frag) (ta : TA) : TI := fun σ H R => ta σ H fun vs H1 => ∃ a, vs = [.ref a] ∧ (∃ xs, SqL K H1 a xs) ∧ R (Ite K a) H1
theorem pi_enum {X : Cx} {elts : List Expr} {kk : Nat} {tpos : Pos} {a : Expr} {ta : TA} {p pos : Pos} (hg : Gl X "enumerate") (hm : X.mg "enumerate" = none) (ha : PA X [a] ta) (hs : starEach [a] X.env = [(false, eval a X.env)] := by rfl) :
    PI X (.Tuple elts kk tpos) (.Call (.Name "enumerate" p) [a] [] pos) (iEnum X.K ta) := by
  intro pins s σ H R I h
  refine Call_ (ld_blt I hg hm boot_enumerate (PyProof.Rows.callWith_type1 (thn (ha pos pins s σ H _ I h) fun us s1 ⟨vs, H1, I1, r1, q1⟩ => ?_) hs rfl))
  obtain ⟨l, e, ⟨xs, hq⟩, q⟩ := q1
  subst e
  obtain ⟨u, rfl, ru⟩ := vals1 r1
  cases (show u = Value.ref l from ru)
  obtain ⟨its, rv, pl, hz⟩ := I1.list hq
  refine call_enumerate_list pl.isList fun h' he hit hz' hk => wpAny_pyIter_enum he ?_
  refine ⟨s1.heap.objs.size + 1, [s1.heap.objs.size + 1, s1.heap.objs.size], _, Ite X.K l, H1, rfl, I1.kept (t' := s1.toks) hk, turn_enum l _ _ (Nat.succ_ne_self _), ⟨⟨_, he⟩, hit⟩, fun b hb => ?_, q⟩
  have hb' : s1.heap.objs.size ≤ b := by
    rcases List.mem_cons.mp hb with z | hb
    · rw [z]; exact Nat.le_succ _
    · have z : b = s1.heap.objs.size := by simpa using hb
      rw [z]; exact Nat.le_refl _
  exact I1.fpOk hb' (I1.hok.fresh hb')
theorem for_enum {K : PySem.W.Frag} {a : Addr} {xs : List V} {g : TG} {tb : TS} {D : Ends} {σ : St} {H : Hp} (Pv : Nat → St → Hp → Prop) (h0 : Pv 0 σ H) (hl : ∀ i σ H, i ≤ xs.length → Pv i σ H → SqL K H a xs)
    (hs : ∀ i x t σ H, xs[i]? = some x → Pv i σ H → H t = none → g (.ref t) σ (upd H t (.tup [.int (i : Nat), x])) fun σ2 H2 => tb { D with nx := Pv (i + 1), ct := Pv (i + 1), bk := D.nx } σ2 H2) (hd : ∀ σ H, Pv xs.length σ H → D.nx σ H) :
    ∃ W : Nat → Nat → St → Hp → Prop, (∃ m, W 0 m σ H) ∧ ∀ i m σ H, W i m σ H →
      ((Ite K a).stop i H ∧ D.nx σ H) ∨ ((Ite K a).go i H ∧ ∃ N : St → Hp → Prop, (∀ σ' H', N σ' H' → ∃ m', m' < m ∧ W (i + 1) m' σ' H') ∧ ∀ x H', (Ite K a).yld i H x H' → g x σ H' fun σ2 H2 => tb { D with nx := N, ct := N, bk := D.nx } σ2 H2) := by
  refine ⟨fun i m σ H => m = xs.length - i ∧ i ≤ xs.length ∧ Pv i σ H, ⟨xs.length, by simp, Nat.zero_le _, h0⟩, ?_⟩
  rintro i m σ H ⟨rfl, hi, p⟩
  have q := hl i σ H hi p
  by_cases hlt : i < xs.length
  · refine .inr ⟨⟨xs, xs[i], q, by simp [hlt]⟩, Pv (i + 1), fun σ' H' p' => ⟨xs.length - (i + 1), by omega, rfl, hlt, p'⟩, fun x H' y => ?_⟩
    obtain ⟨t, z, e1, e2, e3, y⟩ := y
    subst e1 e3
    exact hs i z t σ _ (y xs q) p e2
  · have e : i = xs.length := by omega
    subst e
    exact .inl ⟨⟨xs, q, Nat.le_refl _⟩, hd σ H p⟩
/-! ### a dict of names and numbers -/
/-- the key k lies at b -/
def NKeyAt (H : Hp) (k : NKey) (b : Addr) : Prop := ∃ c, H b = some (.tup [.ref c, .int k.2]) ∧ H c = some (.tup [.int k.1.1, .int k.1.2])
theorem NKeyAt.keep {H H' : Hp} {k : NKey} {b : Addr} (e : TSame H H') (h : NKeyAt H k b) : NKeyAt H' k b := by
  obtain ⟨c, h1, h2⟩ := h
  exact ⟨c, e _ _ h1, e _ _ h2⟩
theorem NKeyAt.at {P : Program} {w : World} {H : Hp} {h : Heap} {k : NKey} {b : Addr} (ok : HOk P w H h) (q : NKeyAt H k b) : NestAt h k b := by
  obtain ⟨c, h1, h2⟩ := q
  obtain ⟨_, its, r, p⟩ := (show ObjOk P w H h b (.tup [.ref c, .int k.2]) from ok b _ h1)
  obtain ⟨_, its', r', p'⟩ := (show ObjOk P w H h c (.tup [.int k.1.1, .int k.1.2]) from ok c _ h2)
  obtain ⟨u1, u2, rfl, e1, e2⟩ := r.two
  obtain ⟨v1, v2, rfl, e3, e4⟩ := r'.two
  cases (show u1 = Value.ref c from e1)
  obtain ⟨t, rfl⟩ := e2
  obtain ⟨t1, rfl⟩ := e3
  obtain ⟨t2, rfl⟩ := e4
  exact ⟨c, t1, t2, t, p, p'⟩
abbrev NEnt := NKey × Addr × Addr
def nraw (xs : List NEnt) : List (NKey × Addr × Value) := xs.map fun x => (x.1, x.2.1, Value.ref x.2.2)
def ndOf (a : Addr) (xs : List NEnt) (h : Heap) : Prop := (a == sysModules) = false ∧ ∃ o es ep, h.get? a = some o ∧ o.ExactDict ∧ o.data = .dict es ep ∧ es.toList = (nraw xs).map fun x => ⟨nestHash x.1, .ref x.2.1, x.2.2⟩
/-- the dict at a -/
def NDt (a : Addr) (xs : List NEnt) : HO := .ext (ndOf a xs)
def NOk (H : Hp) (xs : List NEnt) : Prop := (∀ x ∈ xs, NKeyAt H x.1 x.2.1) ∧ (xs.map (·.1)).Nodup
theorem NOk.keep {H H' : Hp} {xs : List NEnt} (e : TSame H H') (h : NOk H xs) : NOk H' xs := ⟨fun x hx => (h.1 x hx).keep e, h.2⟩
def nget (xs : List NEnt) (k : NKey) : Option Addr := (xs.find? fun x => decide (x.1 = k)).map (·.2.2)
def nput (xs : List NEnt) (k : NKey) (b r : Addr) : List NEnt := if (nget xs k).isSome = true then xs.map (fun x => if x.1 = k then (x.1, x.2.1, r) else x) else xs ++ [(k, b, r)]
theorem nget_raw (xs : List NEnt) (k : NKey) : (atKey (nraw xs) k).map (·.2) = (nget xs k).map Value.ref := by
  unfold atKey nraw nget
  rw [List.find?_map]
  cases e : List.find? ((fun x : NKey × Addr × Value => decide (x.1 = k)) ∘ fun x : NEnt => (x.1, x.2.1, Value.ref x.2.2)) xs with
  | none =>
    have e' : List.find? (fun x : NEnt => decide (x.1 = k)) xs = none := e
    rw [e']; rfl
  | some y =>
    have e' : List.find? (fun x : NEnt => decide (x.1 = k)) xs = some y := e
    rw [e']; rfl
theorem nput_raw (xs : List NEnt) (k : NKey) (b r : Addr) : nraw (nput xs k b r) = storedH (nraw xs) k b (.ref r) := by
  have e : (atKey (nraw xs) k).isSome = (nget xs k).isSome := by
    have := congrArg Option.isSome (nget_raw xs k)
    rw [Option.isSome_map, Option.isSome_map] at this
    exact this
  unfold nput storedH
  rw [e]
  by_cases h : (nget xs k).isSome = true
  · rw [if_pos h, if_pos h]
    unfold nraw
    rw [List.map_map, List.map_map]
    refine List.map_congr_left fun x _ => ?_
    show (fun x : NEnt => (x.1, x.2.1, Value.ref x.2.2)) (if x.1 = k then (x.1, x.2.1, r) else x) = putAt k (.ref r) (x.1, x.2.1, Value.ref x.2.2)
    unfold putAt
    by_cases hx : x.1 = k
    · rw [if_pos hx, if_pos hx]
    · rw [if_neg hx, if_neg hx]
  · rw [if_neg h, if_neg h]
    unfold nraw
    rw [List.map_append]
    rfl
theorem nput_len (xs : List NEnt) (k : NKey) (b r : Addr) : (nput xs k b r).length ≤ xs.length + 1 := by
  unfold nput
  split
  · rw [List.length_map]; omega
  · rw [List.length_append]; exact Nat.le_refl _
theorem NOk.put {H : Hp} {xs : List NEnt} {k : NKey} {b : Addr} (r : Addr) (h : NOk H xs) (hb : NKeyAt H k b) : NOk H (nput xs k b r) := by
  unfold nput
  by_cases c : (nget xs k).isSome = true
  · rw [if_pos c]
    refine ⟨fun x hx => ?_, ?_⟩
    · obtain ⟨y, hy, e⟩ := List.mem_map.mp hx
      subst e
      by_cases hk : y.1 = k
      · rw [if_pos hk]; exact h.1 y hy
      · rw [if_neg hk]; exact h.1 y hy
    · rw [List.map_map]
      have : ((fun x : NEnt => x.1) ∘ fun x : NEnt => if x.1 = k then (x.1, x.2.1, r) else x) = fun x => x.1 := by
        funext x
        show (if x.1 = k then (x.1, x.2.1, r) else x).1 = x.1
        split <;> rfl
      rw [this]
      exact h.2
  · rw [if_neg c]
    refine ⟨fun x hx => ?_, ?_⟩
    · rcases List.mem_append.mp hx with hx | hx
      · exact h.1 x hx
      · have := List.mem_singleton.mp hx
        subst this
        exact hb
    · rw [List.map_append, List.nodup_append]
      refine ⟨h.2, by simp, fun x hx y hy e => c ?_⟩
      have hy' : y = k := by simpa using hy
      subst hy'
      subst e
      obtain ⟨z, hz, e⟩ := List.mem_map.mp hx
      unfold nget
      rw [Option.isSome_map, List.find?_isSome]
      exact ⟨z, hz, decide_eq_true e⟩
section
variable {X : Cx} {pins : List (Addr × Obj)} {σ : St} {H : Hp} {s : Shared} {a b r : Addr} {xs : List NEnt} {k : NKey} {A : Around} {E : Value → Shared → Prop}
theorem nd_of (I : Inv X pins σ H s) (e : H a = some (NDt a xs)) (ok : NOk H xs) : (a == sysModules) = false ∧ s.heap.DictOfH (nestKind X.prog X.w) a (nraw xs) := by
  obtain ⟨⟨h0, o, es, ep, h1, h2, h3, h4⟩, _⟩ := (show ObjOk X.prog X.w H s.heap a (NDt a xs) from I.hok a _ e)
  refine ⟨h0, o, es, ep, h1, h2, h3, h4, fun x hx => ?_, ?_⟩
  · unfold nraw at hx
    obtain ⟨y, hy, rfl⟩ := List.mem_map.mp hx
    exact (ok.1 y hy).at I.hok
  · unfold nraw
    rw [List.map_map]
    exact ok.2
theorem nd_stay {a : Addr} {xs : List NEnt} : ∀ h1 h2 : Heap, ndOf a xs h1 → (∀ o, h1.get? a = some o → h2.get? a = some o) → ndOf a xs h2 := fun h1 h2 q k => by
  obtain ⟨h0, o, es, ep, e, r⟩ := q
  exact ⟨h0, o, es, ep, k _ e, r⟩
theorem nd_set {Q : Unit → Shared → Prop} (hu : A.units + 2 < cLine) (I : Inv X pins σ H s) (e : H a = some (NDt a xs)) (ok : NOk H xs) (hb : NKeyAt H k b) (hl : xs.length ≤ sizeLine) (q : ∀ s', Inv X pins σ (upd H a (NDt a (nput xs k b r))) s' → Q () s') :
    wpAny (model X.prog X.w) A (setItem (.ref a) (.ref b) (.ref r)) Q E s := by
  obtain ⟨h0, dd⟩ := nd_of I e ok
  refine wpAny_setItem_heap (knd := nestKind X.prog X.w) (k := k) (hsz := by unfold nraw; rw [List.length_map]; exact hl) (by show A.units + 1 + 1 < cLine; exact hu) (hb.at I.hok) dd fun h' dd' hs => q _ ?_
  obtain ⟨o, es, ep, h1, h2, h3, h4, _, _⟩ := dd'
  refine d_write I (by rw [e]; exact True.intro) hs ⟨o, h1⟩ ⟨⟨h0, o, es, ep, h1, h2, h3, ?_⟩, ⟨o, h1⟩, nd_stay⟩
  rw [h4, nput_raw]
  rfl
end
def tDNewN : TE := fun _ H Q => ∀ p, H p = none → Q (.ref p) (upd H p (NDt p []))
def ov : Option Addr → V
  | none => .non
  | some r => .ref r
def tNGet (td ty : TE) : TE := fun σ H Q => td σ H fun x H1 => ∃ a xs, x = .ref a ∧ H1 a = some (NDt a xs) ∧ ty σ H1 fun y H2 => ∃ b k, y = .ref b ∧ H2 a = some (NDt a xs) ∧ NOk H2 xs ∧ NKeyAt H2 k b ∧ Q (ov (nget xs k)) H2
def sNPut (td ty tv : TE) : TS := fun D σ H => tv σ H fun v H1 => td σ H1 fun x H2 => ty σ H2 fun y H3 => ∃ a b r xs k, v = .ref r ∧ x = .ref a ∧ y = .ref b ∧ H3 a = some (NDt a xs) ∧ NOk H3 xs ∧ NKeyAt H3 k b ∧ xs.length ≤ sizeLine ∧ D.nx σ (upd H3 a (NDt a (nput xs k b r)))
/-- d.setdefault(k, v), its keys tuples -/
def tDDef (td ty tx : TE) : TE := fun σ H Q => td σ H fun x H1 => ∃ a, x = .ref a ∧ IsD H1 a ∧ ty σ H1 fun y H2 => tx σ H2 fun z H3 => ∃ kvs k b, H3 a = some (.dT kvs) ∧ y = .ref b ∧ H3 b = some (.tup (k.map kV)) ∧ kvs.length < sizeLine ∧
  (∀ v, valV kvs k = some v → Q v H3) ∧ (valV kvs k = none → Q z (upd H3 a (.dT (kvs ++ [(k, z)]))))
section
variable {X : Cx} {o e f i value : Expr} {apos cpos pos pos' : Pos} {td ty tx tv : TE}
theorem pe_dnewN : PE X (.Dict [] [] pos) tDNewN := fun pins s σ H Q I h =>
  wpAny_Dict_empty ⟨.ref s.heap.objs.size, _, I.laid (a := s.heap.objs.size) (o := NDt s.heap.objs.size []) (t' := s.toks) (fun _ _ q => Heap.get?_push_of_some _ q) (Nat.le_refl _)
    ⟨⟨beq_eq_false_iff_ne.mpr (Ne.symm (Nat.ne_of_lt I.big)), _, #[], 0, Heap.get?_push_size _ rfl, ⟨rfl, rfl, rfl⟩, rfl, rfl⟩, ⟨_, Heap.get?_push_size _ rfl⟩, nd_stay⟩, rfl, h _ (I.hok.fresh (Nat.le_refl _))⟩
theorem ps_nput (hu : X.A.units + 2 < cLine) (ho : PE X o td) (hi : PE X i ty) (hv : PE X value tv) (hs : swapsWith value (some (.Subscript o i pos')) pos.line X.env = pure false) :
    PS X (.Assign [.Subscript o i pos'] value pos) (sNPut td ty tv) := by
  intro pins s σ H D I h
  refine wpAny_Assign_Subscript (thn (hv pins s σ H _ I h) fun r s1 ⟨v, H1, I1, rv, q1⟩ => thn (ho pins s1 σ H1 _ I1 q1) fun u s2 ⟨x, H2, I2, rx, q2⟩ => thn (hi pins s2 σ H2 _ I2 q2) fun iv s3 ⟨y, H3, I3, ry, a, b, r', xs, k, ev, ex, ey, g1, g2, g3, g4, q3⟩ => ?_) hs
  subst ev ex ey
  obtain rfl : u = Value.ref a := rx
  obtain rfl : iv = Value.ref b := ry
  obtain rfl : r = Value.ref r' := rv
  exact nd_set hu I3 g1 g2 g3 g4 fun s4 I4 => ⟨σ, _, I4, q3⟩
theorem pe_ddef (hu : X.A.units + 1 < cLine) (ho : PE X o td) (he : PE X e ty) (hf : PE X f tx) (m : M2 X o "setdefault" apos e f cpos) : PE X (.Call (.Attribute o "setdefault" apos) [e, f] [] cpos) (tDDef td ty tx) := by
  intro pins s σ H Q I h
  refine wpAny_Call_method m.base m.few m.line PySem.F.plainAttrs_dict PySem.F.slot_dict_setdefault PySem.F.type_dict_setdefault (thn (ho pins s σ H _ I h) fun u s1 ⟨x, H1, I1, rx, a, ex, d, q1⟩ => ?_)
  subst ex
  obtain rfl : u = Value.ref a := rx
  obtain ⟨t1, t2, _⟩ := isD_at I1 d
  refine ⟨t1, t2, ?_⟩
  rw [m.trees]
  refine Calls.callWith_builtin rfl (Calls.evalArgs_plain (Calls.spliced_cons (thn (he pins s1 σ H1 _ I1 q1) fun iv s2 ⟨y, H2, I2, ry, q2⟩ =>
    Calls.spliced_cons (thn (hf pins s2 σ H2 _ I2 q2) fun fv s3 ⟨z, H3, I3, rz, kvs, k, b, ea, ey, eb, hl, q3, q4⟩ => Calls.spliced_nil ?_))))
  subst ey
  obtain rfl : iv = Value.ref b := ry
  obtain ⟨hz, hd, xs, rel, dd⟩ := dt_of I3.hok ea
  have hz' : xs.length ≤ sizeLine := by rw [← Paired.length rel]; exact hz
  refine call_meetsIn PySem.F.slot_dict_setdefault dd.typeIs PySem.F.entry_dict_setdefault (PySem.F.args_dict_setdefault_3 _ _ _) (meetsH_setdefault (tupleKind (mixKind X.prog X.w)) a b hd fv) ⟨tupleKind_room_in1 hu, k, xs, key_of I3.hok eb, dd, hz', fun p hp => ?_, fun hn h' dd' hs => ?_⟩
  · have rv := rel.val k
    rw [hp] at rv
    cases l : valV kvs k with
    | none => rw [l] at rv; exact (show False from rv).elim
    | some v =>
      rw [l] at rv
      exact ⟨v, H3, I3.tok _, rv, q3 v l⟩
  · have rv := rel.val k
    rw [hn] at rv
    have l : valV kvs k = none := by
      cases l : valV kvs k with
      | none => rfl
      | some v => rw [l] at rv; exact (show False from rv).elim
    refine ⟨z, _, ?_, rz, q4 l⟩
    obtain ⟨q, es, ep, hq, h2, h3, h4, _, h5⟩ := dd'
    have rel' : KT H3 (kvs ++ [(k, z)]) (xs ++ [(k, b, fv)]) := Paired.snoc rel ⟨rfl, eb, rz⟩
    refine d_write I3 (by rw [ea]; exact True.intro) hs ⟨q, hq⟩ ⟨by rw [List.length_append]; exact hl, hd, _, rel'.keeps fun c ys ec => ?_, q, es, ep, hq, h2, h3, h4, h5⟩
    rw [upd_ne (ne_of ec ea (fun z => nomatch z))]
    exact ec
end
section
variable {X : Cx}
/-- a list and an empty one -/
theorem op_neNil (hu : X.A.units < cLine) : OpR X (compareOp .NotEq) (fun x y H Q => ∃ a b us, x = .ref a ∧ y = .ref b ∧ SqL X.K H a us ∧ SqL X.K H b [] ∧ Q (.bl (!decide (us = []))) H) := by
  intro pins s σ H x y v u Q I rx ry h
  obtain ⟨a, b, us, rfl, rfl, ha, hb, q⟩ := h
  cases rx
  cases ry
  obtain ⟨i1, v1, p1, _⟩ := I.list ha
  obtain ⟨i2, v2, p2, _⟩ := I.list hb
  cases v2
  have l1 := v1.length
  by_cases e : us = []
  · subst e
    cases v1
    have z := SeqAt.RcNeAt.lists (A := X.A) (s := s) (e := fun _ => true) p1.isList p2.isList rfl hu (fun j h1 h2 => by cases h1)
    rw [decide_eq_true rfl] at q
    exact z X.prog X.w X.xe _ ⟨.bl false, H, I, rfl, q⟩
  · have hsz : (i1.toArray.size != ([] : List Value).toArray.size) = true := by
      have : i1.length ≠ 0 := fun z => e (List.length_eq_zero_iff.mp (by rw [l1]; exact z))
      simpa using this
    rw [decide_eq_false e] at q
    exact SeqAt.RcNeAt.lists_lengths p1.isList p2.isList hsz hu X.prog X.w X.xe _ ⟨.bl true, H, I, rfl, q⟩
end
end L2

set_option maxHeartbeats 1000000
/-! what stands, as data -/
namespace Lo
open PySem L2
/-- a list of changes: a tuple of pairs -/
def ChAt (K : PySem.W.Frag) (H : Hp) (ch : List Pa) (v : V) : Prop := ∃ d us, v = .ref d ∧ SqU K H d us ∧ Paired (cPa.rp K H) ch us
theorem ChAt.keep {K : PySem.W.Frag} {H H' : Hp} {ch : List Pa} {v : V} (e : TSame H H') (h : ChAt K H ch v) : ChAt K H' ch v := by
  obtain ⟨d, us, rfl, h1, h2⟩ := h
  exact ⟨d, us, rfl, h1.keep e, pp h2 fun _ _ z => cPa.keep e z⟩
/-- a row -/
inductive Rw where
  | beg (p : Pa) (t : Str) | work (p : Pa) | ready (p : Pa) (ch : List Pa) | fin (p : Pa) (o : Str) | over (p : Pa)
  | walk (p : Pa) (i : Int) (ch : List Pa) | undo (p : Pa) (i : Int) (ch : List Pa) | void (p : Pa) (i : Int)
def Rw.nm : Rw → Pa
  | .beg p _ => p
  | .work p => p
  | .ready p _ => p
  | .fin p _ => p
  | .over p => p
  | .walk p _ _ => p
  | .undo p _ _ => p
  | .void p _ => p
def Rw.wd : Rw → Str
  | .beg _ _ => "begin"
  | .work _ => "work"
  | .ready _ _ => "ready"
  | .fin _ _ => "end"
  | .over _ => "over"
  | .walk _ _ _ => "walked"
  | .undo _ _ _ => "undone"
  | .void _ _ => "void"
/-- what lies behind the word and the name -/
def Rw.more (K : PySem.W.Frag) (H : Hp) : Rw → List V → Prop
  | .beg _ t, us => us = [.str t]
  | .work _, us => us = []
  | .ready _ ch, us => ∃ a b d, us = [a, b, d] ∧ ChAt K H ch d
  | .fin _ o, us => ∃ a, us = [.str o, a]
  | .over _, us => us = []
  | .walk _ i ch, us => ∃ c h, us = [.int i, c, h] ∧ ChAt K H ch c
  | .undo _ i ch, us => ∃ c, us = [.int i, c] ∧ ChAt K H ch c
  | .void _ i, us => us = [.int i]
def RwAt (K : PySem.W.Frag) (H : Hp) (w : Rw) (r : Addr) : Prop := ∃ pv us, H r = some (.tup (.str w.wd :: pv :: us)) ∧ sPa K H w.nm pv ∧ w.more K H us
theorem RwAt.keep {K : PySem.W.Frag} {H H' : Hp} {w : Rw} {r : Addr} (e : TSame H H') (h : RwAt K H w r) : RwAt K H' w r := by
  obtain ⟨pv, us, h1, h2, h3⟩ := h
  refine ⟨pv, us, e _ _ h1, h2.keep e, ?_⟩
  cases w with
  | beg p t => exact h3
  | work p => exact h3
  | ready p ch => obtain ⟨a, b, d, e1, e2⟩ := h3; exact ⟨a, b, d, e1, e2.keep e⟩
  | fin p o => exact h3
  | over p => exact h3
  | walk p i ch => obtain ⟨a, b, e1, e2⟩ := h3; exact ⟨a, b, e1, e2.keep e⟩
  | undo p i ch => obtain ⟨a, e1, e2⟩ := h3; exact ⟨a, e1, e2.keep e⟩
  | void p i => exact h3
/-- what the rows so far tell -/
structure Sd where
  cells : List Int
  begins : List (Pa × Str)
  worked : List Pa
  ready : List (Pa × Addr × List Pa)
  ends : List (Pa × Str)
  walks : List NEnt
  overs : List Pa
def Sd.new (cs : List Int) : Sd := ⟨cs, [], [], [], [], [], []⟩
def dW (ps : List Pa) : List (List Key × V) := ps.map fun p => (pk p, V.bl true)
def dR (rs : List (Pa × Addr × List Pa)) : List (List Key × V) := rs.map fun x => (pk x.1, V.ref x.2.1)
def dE (es : List (Pa × Str)) : List (List Key × V) := es.map fun x => (pk x.1, V.str x.2)
theorem val_map {α : Type} (xs : List α) (k : α → Pa) (f : α → V) (p : Pa) : valV (xs.map fun x => (pk (k x), f x)) (pk p) = (xs.find? fun x => decide (k x = p)).map f := by
  induction xs with
  | nil => rfl
  | cons x r ih =>
    rw [List.map_cons]
    by_cases h : k x = p
    · rw [valV_pos (by rw [h]), List.find?_cons, decide_eq_true h]
      rfl
    · rw [valV_neg (fun z => h (pk_inj z)), ih, List.find?_cons, decide_eq_false h]
def addP (ps : List Pa) (p : Pa) : List Pa := if p ∈ ps then ps else ps ++ [p]
theorem find_mem (ps : List Pa) (p : Pa) : (ps.find? fun x => decide (x = p)) = if p ∈ ps then some p else none := by
  by_cases h : p ∈ ps
  · rw [if_pos h]
    cases e : ps.find? fun x => decide (x = p) with
    | none => exact absurd (decide_eq_true rfl) (List.find?_eq_none.mp e p h)
    | some y =>
      have : y = p := by simpa using List.find?_some e
      rw [this]
  · rw [if_neg h, List.find?_eq_none]
    intro x hx c
    exact h ((of_decide_eq_true c) ▸ hx)
theorem val_dW (ps : List Pa) (p : Pa) : valV (dW ps) (pk p) = if p ∈ ps then some (.bl true) else none := by
  unfold dW
  rw [val_map ps (fun p => p) (fun _ => V.bl true) p, find_mem]
  split <;> rfl
theorem put_dW (ps : List Pa) (p : Pa) : putK (dW ps) (pk p) (.bl true) = dW (addP ps p) := by
  unfold addP
  by_cases h : p ∈ ps
  · rw [if_pos h]
    unfold putK
    rw [valV_any, val_dW, if_pos h, if_pos (show (some (V.bl true)).isSome = true from rfl)]
    unfold dW
    rw [List.map_map]
    refine List.map_congr_left fun x _ => ?_
    show (if pk x = pk p then (pk x, V.bl true) else (pk x, V.bl true)) = _
    rw [ite_self]
  · rw [if_neg h, putK_new _ (by rw [val_dW, if_neg h])]
    unfold dW
    rw [List.map_append]
    rfl
def rdOf (rs : List (Pa × Addr × List Pa)) (p : Pa) : Option (Pa × Addr × List Pa) := rs.find? fun x => decide (x.1 = p)
theorem val_dR (rs : List (Pa × Addr × List Pa)) (p : Pa) : valV (dR rs) (pk p) = (rdOf rs p).map fun x => V.ref x.2.1 := val_map rs (fun x => x.1) (fun x => V.ref x.2.1) p
theorem put_dR (rs : List (Pa × Addr × List Pa)) (p : Pa) (r : Addr) (ch : List Pa) (h : rdOf rs p = none) : putK (dR rs) (pk p) (.ref r) = dR (rs ++ [(p, r, ch)]) := by
  rw [putK_new _ (by rw [val_dR, h]; rfl)]
  unfold dR
  rw [List.map_append]
  rfl
def endOf (es : List (Pa × Str)) (p : Pa) : Option Str := (es.find? fun x => decide (x.1 = p)).map (·.2)
theorem val_dE (es : List (Pa × Str)) (p : Pa) : valV (dE es) (pk p) = (endOf es p).map V.str := by
  unfold dE endOf
  rw [val_map es (fun x => x.1) (fun x => V.str x.2) p, Option.map_map]
  rfl
def setE (es : List (Pa × Str)) (p : Pa) (o : Str) : List (Pa × Str) := if (endOf es p).isSome = true then es else es ++ [(p, o)]
/-- the cells behind changes -/
def apply (cs : List Int) (ch : List Pa) : List Int := ch.foldl (fun cs c => cs.set c.1.toNat c.2) cs
theorem apply_len (ch : List Pa) : ∀ cs : List Int, (apply cs ch).length = cs.length := by
  induction ch with
  | nil => intro cs; rfl
  | cons c r ih =>
    intro cs
    show (apply (cs.set c.1.toNat c.2) r).length = cs.length
    rw [ih, List.length_set]
theorem apply_snoc (cs : List Int) (ch : List Pa) (c : Pa) : apply cs (ch ++ [c]) = (apply cs ch).set c.1.toNat c.2 := by
  unfold apply
  rw [List.foldl_append]
  rfl
/-- the changes of a row -/
def Sd.chs (d : Sd) : Rw → List Pa
  | .fin p o => if o = "done" then ((rdOf d.ready p).map fun x => x.2.2).getD [] else []
  | .walk _ _ ch => ch
  | .undo _ _ ch => ch
  | _ => []
def Sd.keep (d : Sd) (r b : Addr) (w : Rw) : Sd :=
  let cs := apply d.cells (d.chs w)
  match w with
  | .beg p t => { d with cells := cs, begins := d.begins ++ [(p, t)] }
  | .work p => { d with cells := cs, worked := addP d.worked p }
  | .ready p ch => { d with cells := cs, ready := d.ready ++ [(p, r, ch)] }
  | .fin p o => { d with cells := cs, ends := setE d.ends p o }
  | .over p => { d with cells := cs, overs := addP d.overs p }
  | .walk p i _ => { d with cells := cs, walks := nput d.walks (p, i) b r }
  | .undo p i _ => { d with cells := cs, walks := nput d.walks (p, i) b r }
  | .void p i => { d with cells := cs, walks := nput d.walks (p, i) b r }
/-- the row may be kept -/
def Sd.fits (d : Sd) (w : Rw) : Prop := (∀ c ∈ d.chs w, 0 ≤ c.1 ∧ c.1 < d.cells.length) ∧ ∀ p ch, w = .ready p ch → rdOf d.ready p = none
/-- all is small -/
structure Sd.Small (d : Sd) (n : Nat) : Prop where
  bg : d.begins.length ≤ n
  wk : d.worked.length ≤ n
  rd : d.ready.length ≤ n
  en : d.ends.length ≤ n
  wa : d.walks.length ≤ n
  ov : d.overs.length ≤ n
theorem addP_len (ps : List Pa) (p : Pa) : (addP ps p).length ≤ ps.length + 1 := by
  unfold addP
  split
  · omega
  · rw [List.length_append]; exact Nat.le_refl _
theorem setE_len (ps : List (Pa × Str)) (p : Pa) (o : Str) : (setE ps p o).length ≤ ps.length + 1 := by
  unfold setE
  split
  · omega
  · rw [List.length_append]; exact Nat.le_refl _
theorem Sd.Small.keep {d : Sd} {n : Nat} (r b : Addr) (w : Rw) (h : d.Small n) : (d.keep r b w).Small (n + 1) := by
  obtain ⟨h1, h2, h3, h4, h5, h6⟩ := h
  have a1 := fun p => addP_len d.worked p
  have a2 := fun p => addP_len d.overs p
  have a3 := fun p o => setE_len d.ends p o
  have a4 := fun k => nput_len d.walks k b r
  cases w with
  | beg p t => exact ⟨by show (d.begins ++ [(p, t)]).length ≤ n + 1; rw [List.length_append]; show d.begins.length + 1 ≤ n + 1; omega, Nat.le_succ_of_le h2, Nat.le_succ_of_le h3, Nat.le_succ_of_le h4, Nat.le_succ_of_le h5, Nat.le_succ_of_le h6⟩
  | work p => exact ⟨Nat.le_succ_of_le h1, Nat.le_trans (a1 p) (by omega), Nat.le_succ_of_le h3, Nat.le_succ_of_le h4, Nat.le_succ_of_le h5, Nat.le_succ_of_le h6⟩
  | ready p ch => exact ⟨Nat.le_succ_of_le h1, Nat.le_succ_of_le h2, by show (d.ready ++ [(p, r, ch)]).length ≤ n + 1; rw [List.length_append]; show d.ready.length + 1 ≤ n + 1; omega, Nat.le_succ_of_le h4, Nat.le_succ_of_le h5, Nat.le_succ_of_le h6⟩
  | fin p o => exact ⟨Nat.le_succ_of_le h1, Nat.le_succ_of_le h2, Nat.le_succ_of_le h3, Nat.le_trans (a3 p o) (by omega), Nat.le_succ_of_le h5, Nat.le_succ_of_le h6⟩
  | over p => exact ⟨Nat.le_succ_of_le h1, Nat.le_succ_of_le h2, Nat.le_succ_of_le h3, Nat.le_succ_of_le h4, Nat.le_succ_of_le h5, Nat.le_trans (a2 p) (by omega)⟩
  | walk p i ch => exact ⟨Nat.le_succ_of_le h1, Nat.le_succ_of_le h2, Nat.le_succ_of_le h3, Nat.le_succ_of_le h4, Nat.le_trans (a4 (p, i)) (by omega), Nat.le_succ_of_le h6⟩
  | undo p i ch => exact ⟨Nat.le_succ_of_le h1, Nat.le_succ_of_le h2, Nat.le_succ_of_le h3, Nat.le_succ_of_le h4, Nat.le_trans (a4 (p, i)) (by omega), Nat.le_succ_of_le h6⟩
  | void p i => exact ⟨Nat.le_succ_of_le h1, Nat.le_succ_of_le h2, Nat.le_succ_of_le h3, Nat.le_succ_of_le h4, Nat.le_trans (a4 (p, i)) (by omega), Nat.le_succ_of_le h6⟩
theorem keep_cells (d : Sd) (r b : Addr) (w : Rw) : (d.keep r b w).cells = apply d.cells (d.chs w) := by cases w <;> rfl
/-! ### in the heap -/
/-- where the parts lie -/
structure Ad where
  (l dx cl bg wk rd en wa ov : Addr)
def Ad.own (A : Ad) : List Addr := [A.cl, A.bg, A.wk, A.rd, A.en, A.wa, A.ov]
def sf (A : Ad) : List (Str × V) := putF "overs" (.ref A.ov) (putF "walks" (.ref A.wa) (putF "ends" (.ref A.en) (putF "readies" (.ref A.rd) (putF "worked" (.ref A.wk) (putF "begins" (.ref A.bg) (putF "cells" (.ref A.cl) []))))))
theorem sf_ov (A : Ad) : (sf A).lookup ("overs" : Str) = some (.ref A.ov) := by
  unfold sf
  rw [lookup_putF, if_pos rfl]
theorem sf_wa (A : Ad) : (sf A).lookup ("walks" : Str) = some (.ref A.wa) := by
  unfold sf
  rw [lookup_putF, if_neg (by decide +kernel), lookup_putF, if_pos rfl]
theorem sf_en (A : Ad) : (sf A).lookup ("ends" : Str) = some (.ref A.en) := by
  unfold sf
  rw [lookup_putF, if_neg (by decide +kernel), lookup_putF, if_neg (by decide +kernel), lookup_putF, if_pos rfl]
theorem sf_rd (A : Ad) : (sf A).lookup ("readies" : Str) = some (.ref A.rd) := by
  unfold sf
  rw [lookup_putF, if_neg (by decide +kernel), lookup_putF, if_neg (by decide +kernel), lookup_putF, if_neg (by decide +kernel), lookup_putF, if_pos rfl]
theorem sf_wk (A : Ad) : (sf A).lookup ("worked" : Str) = some (.ref A.wk) := by
  unfold sf
  rw [lookup_putF, if_neg (by decide +kernel), lookup_putF, if_neg (by decide +kernel), lookup_putF, if_neg (by decide +kernel), lookup_putF, if_neg (by decide +kernel), lookup_putF, if_pos rfl]
theorem sf_bg (A : Ad) : (sf A).lookup ("begins" : Str) = some (.ref A.bg) := by
  unfold sf
  rw [lookup_putF, if_neg (by decide +kernel), lookup_putF, if_neg (by decide +kernel), lookup_putF, if_neg (by decide +kernel), lookup_putF, if_neg (by decide +kernel), lookup_putF, if_neg (by decide +kernel), lookup_putF, if_pos rfl]
theorem sf_cl (A : Ad) : (sf A).lookup ("cells" : Str) = some (.ref A.cl) := by
  unfold sf
  rw [lookup_putF, if_neg (by decide +kernel), lookup_putF, if_neg (by decide +kernel), lookup_putF, if_neg (by decide +kernel), lookup_putF, if_neg (by decide +kernel), lookup_putF, if_neg (by decide +kernel), lookup_putF, if_neg (by decide +kernel), lookup_putF, if_pos rfl]
theorem sf_no {A : Ad} {m : Str} (h : decide (m ∈ (["overs", "walks", "ends", "readies", "worked", "begins", "cells"] : List Str)) = false) : (sf A).lookup m = none := by
  have h' : m ∉ (["overs", "walks", "ends", "readies", "worked", "begins", "cells"] : List Str) := of_decide_eq_false h
  simp only [List.mem_cons, List.not_mem_nil, or_false, not_or] at h'
  obtain ⟨h1, h2, h3, h4, h5, h6, h7⟩ := h'
  unfold sf
  rw [lookup_putF, if_neg h1, lookup_putF, if_neg h2, lookup_putF, if_neg h3, lookup_putF, if_neg h4, lookup_putF, if_neg h5, lookup_putF, if_neg h6, lookup_putF, if_neg h7]
  rfl
def cPS : Cod (Pa × Str) := cT2 cPa cStr
/-- a pair of a name and a text, made at run time -/
def sPB (_ : PySem.W.Frag) (H : Hp) (x : Pa × Str) (v : V) : Prop := ∃ a b, v = .ref a ∧ H a = some (.tup [.ref b, .str x.2]) ∧ H b = some (.tup [.int x.1.1, .int x.1.2])
theorem sPB.keep {K : PySem.W.Frag} {H H' : Hp} {x : Pa × Str} {v : V} (e : TSame H H') (h : sPB K H x v) : sPB K H' x v := by
  obtain ⟨a, b, rfl, h1, h2⟩ := h
  exact ⟨a, b, rfl, e _ _ h1, e _ _ h2⟩
theorem sPB.c {K : PySem.W.Frag} {H : Hp} {x : Pa × Str} {v : V} (h : sPB K H x v) : cPS.rp K H x v := by
  obtain ⟨a, b, rfl, h1, h2⟩ := h
  exact ⟨a, _, _, rfl, .inl h1, cPa_mk (k := x.1) h2, rfl⟩
def conts (A : Ad) (us : List V) (d : Sd) : List (Addr × HO) := [(A.cl, .lst (d.cells.map V.int)), (A.bg, .lst us), (A.wk, .dT (dW d.worked)), (A.rd, .dT (dR d.ready)), (A.en, .dT (dE d.ends)), (A.wa, NDt A.wa d.walks), (A.ov, .dT (dW d.overs))]
structure StU (CS : Addr) (K : PySem.W.Frag) (H : Hp) (A : Ad) (d : Sd) (us : List V) : Prop where
  ins : H A.l = some (.ins CS A.dx (sf A))
  co : ∀ x ∈ conts A us d, H x.1 = some x.2
  bg : Paired (sPB K H) d.begins us
  rd : ∀ x ∈ d.ready, RwAt K H (.ready x.1 x.2.2) x.2.1
  wa : NOk H d.walks
  nd : A.own.Nodup
def St (CS : Addr) (K : PySem.W.Frag) (H : Hp) (A : Ad) (d : Sd) : Prop := ∃ us, StU CS K H A d us
def KpS (A : Ad) (H H' : Hp) : Prop := ∀ b o, b ∉ A.own → H b = some o → H' b = some o
theorem KpS.of {A : Ad} {H H' : Hp} (h : Same H H') : KpS A H H' := fun b o _ e => h b o e
theorem KpS.trans {A : Ad} {H H1 H2 : Hp} (a : KpS A H H1) (b : KpS A H1 H2) : KpS A H H2 := fun c o n e => b c o n (a c o n e)
theorem kps_upd {A : Ad} {H : Hp} {a : Addr} {o : HO} (h : a ∈ A.own) : KpS A H (upd H a o) := fun b u n e => by
  rw [upd_ne (fun (z : b = a) => n (by rw [z]; exact h))]
  exact e
section
variable {CS : Addr} {K : PySem.W.Frag} {H H' : Hp} {A : Ad} {d : Sd} {us : List V}
theorem StU.cl (h : StU CS K H A d us) : H A.cl = some (.lst (d.cells.map V.int)) := h.co (A.cl, _) (by simp [conts])
theorem StU.bgl (h : StU CS K H A d us) : H A.bg = some (.lst us) := h.co (A.bg, _) (by simp [conts])
theorem StU.wk (h : StU CS K H A d us) : H A.wk = some (.dT (dW d.worked)) := h.co (A.wk, _) (by simp [conts])
theorem StU.rdd (h : StU CS K H A d us) : H A.rd = some (.dT (dR d.ready)) := h.co (A.rd, _) (by simp [conts])
theorem StU.en (h : StU CS K H A d us) : H A.en = some (.dT (dE d.ends)) := h.co (A.en, _) (by simp [conts])
theorem StU.wad (h : StU CS K H A d us) : H A.wa = some (NDt A.wa d.walks) := h.co (A.wa, NDt A.wa d.walks) (by unfold conts; exact List.mem_cons_of_mem _ (List.mem_cons_of_mem _ (List.mem_cons_of_mem _ (List.mem_cons_of_mem _ (List.mem_cons_of_mem _ List.mem_cons_self)))))
theorem StU.ov (h : StU CS K H A d us) : H A.ov = some (.dT (dW d.overs)) := h.co (A.ov, _) (by simp [conts])
theorem StU.own (h : StU CS K H A d us) {b : Addr} (hb : b ∈ A.own) : ∃ o, H b = some o ∧ (∀ xs, o ≠ .tup xs) ∧ (∀ C dx fs, o ≠ .ins C dx fs) := by
  have hb' : b ∈ (conts A us d).map (·.1) := hb
  obtain ⟨x, hx, rfl⟩ := List.mem_map.mp hb'
  refine ⟨_, h.co x hx, fun xs => ?_, fun C dx fs => ?_⟩
  · simp only [conts, List.mem_cons, List.not_mem_nil, or_false] at hx
    rcases hx with e | e | e | e | e | e | e <;> subst e <;> exact fun z => nomatch z
  · simp only [conts, List.mem_cons, List.not_mem_nil, or_false] at hx
    rcases hx with e | e | e | e | e | e | e <;> subst e <;> exact fun z => nomatch z
theorem StU.ts (h : StU CS K H A d us) (k : KpS A H H') : TSame H H' := fun b xs e => k b _ (fun hb => by
  obtain ⟨o, e1, n, _⟩ := h.own hb
  rw [e] at e1
  exact n xs (Option.some.inj e1).symm) e
theorem StU.nl (h : StU CS K H A d us) : A.l ∉ A.own := fun hb => by
  obtain ⟨o, e1, _, n⟩ := h.own hb
  rw [h.ins] at e1
  exact n _ _ _ (Option.some.inj e1).symm
theorem StU.keep (h : StU CS K H A d us) (e : Same H H') : StU CS K H' A d us :=
  ⟨e _ _ h.ins, fun x hx => e _ _ (h.co x hx), pp h.bg fun _ _ z => z.keep e.ts, fun x hx => (h.rd x hx).keep e.ts, h.wa.keep e.ts, h.nd⟩
theorem St.keep (h : St CS K H A d) (e : Same H H') : St CS K H' A d := let ⟨us, q⟩ := h; ⟨us, q.keep e⟩
theorem St.ts (h : St CS K H A d) (k : KpS A H H') : TSame H H' := let ⟨_, q⟩ := h; q.ts k
theorem St.ins (h : St CS K H A d) : H A.l = some (.ins CS A.dx (sf A)) := let ⟨_, q⟩ := h; q.ins
theorem own_set {own : List (Addr × HO)} (nd : (own.map (·.1)).Nodup) (h : ∀ x ∈ own, H x.1 = some x.2) {i : Nat} {a : Addr} {o o' : HO} (hi : own[i]? = some (a, o)) : ∀ x ∈ own.set i (a, o'), upd H a o' x.1 = some x.2 := by
  intro x hx
  obtain ⟨j, hj⟩ := List.mem_iff_getElem?.mp hx
  rw [List.getElem?_set] at hj
  by_cases e : i = j
  · rw [if_pos e] at hj
    split at hj
    · cases hj
      exact upd_same
    · cases hj
  · rw [if_neg e] at hj
    have hm := List.mem_of_getElem? hj
    have ne : x.1 ≠ a := fun z => e (by
      have e1 : (own.map (·.1))[i]? = some a := by rw [List.getElem?_map, hi]; rfl
      have e2 : (own.map (·.1))[j]? = some a := by rw [List.getElem?_map, hj]; show some x.1 = some a; rw [z]
      exact (List.getElem?_inj (List.getElem?_eq_some_iff.mp e1).1 nd).mp (e1.trans e2.symm))
    rw [upd_ne ne]
    exact h x hm
theorem StU.put (h : StU CS K H A d us) (i : Nat) {a : Addr} {o o' : HO} {d' : Sd} {us' : List V} (hi : (conts A us d)[i]? = some (a, o)) (hc : (conts A us d).set i (a, o') = conts A us' d') (hb : Paired (sPB K H) d'.begins us')
    (hr : ∀ x ∈ d'.ready, RwAt K H (.ready x.1 x.2.2) x.2.1) (hw : NOk H d'.walks) : StU CS K (upd H a o') A d' us' ∧ KpS A H (upd H a o') := by
  have ha : a ∈ A.own := by
    have : a ∈ (conts A us d).map (·.1) := List.mem_map.mpr ⟨_, List.mem_of_getElem? hi, rfl⟩
    exact this
  have k : KpS A H (upd H a o') := kps_upd ha
  have t := h.ts k
  refine ⟨⟨k _ _ h.nl h.ins, ?_, pp hb fun _ _ z => z.keep t, fun x hx => (hr x hx).keep t, hw.keep t, h.nd⟩, k⟩
  rw [← hc]
  exact own_set (own := conts A us d) h.nd h.co hi
end
/-- what the top gives of the class -/
structure TxD (K : PySem.W.Frag) (CS : Addr) : Prop where
  cl : Cls K CS
  nc : NoAttr K CS "cells"
  nb : NoAttr K CS "begins"
  nw : NoAttr K CS "worked"
  nr : NoAttr K CS "readies"
  ne : NoAttr K CS "ends"
  na : NoAttr K CS "walks"
  no : NoAttr K CS "overs"
section
variable (CS : Addr) (K : PySem.W.Frag)
def spSInit : Sp := fun vs H Q _ => ∃ l dx c cs, vs = [.ref l, .ref c] ∧ H l = some (.ins CS dx []) ∧ H c = some (.lst ((cs : List Int).map V.int)) ∧ cs.length ≤ 1000 ∧
  ∀ A H', A.l = l → St CS K H' A (Sd.new cs) → (∀ b ∈ A.own, H b = none) → Kp l H H' → Q .non H'
def spChg : Sp := fun vs H Q _ => ∃ A d r w, vs = [.ref A.l, .ref r] ∧ St CS K H A d ∧ RwAt K H w r ∧ ∀ v H', Same H H' → ChAt K H' (d.chs w) v → Q v H'
def spKeep : Sp := fun vs H Q _ => ∃ A d r w, vs = [.ref A.l, .ref r] ∧ St CS K H A d ∧ RwAt K H w r ∧ d.Small 900 ∧ d.cells.length ≤ 900 ∧ d.fits w ∧
  ∀ b H', St CS K H' A (d.keep r b w) → KpS A H H' → Q .non H'
def spCellAt : Sp := fun vs H Q _ => ∃ A d j c, vs = [.ref A.l, .int (j : Nat)] ∧ St CS K H A d ∧ d.cells[j]? = some c ∧ Q (.int c) H
def spCells : Sp := fun vs H Q _ => ∃ A d, vs = [.ref A.l] ∧ St CS K H A d ∧ ∀ p H', Same H H' → H p = none → H' p = some (.lst (d.cells.map V.int)) → Q (.ref p) H'
def spWAt : Sp := fun vs H Q _ => ∃ A d v p i, vs = [.ref A.l, v, .int i] ∧ St CS K H A d ∧ sPa K H p v ∧ ∀ H', Same H H' → Q (ov (nget d.walks (p, i))) H'
def spOver : Sp := fun vs H Q _ => ∃ A d v p, vs = [.ref A.l, v] ∧ St CS K H A d ∧ sPa K H p v ∧ ∀ H', Same H H' → Q (.bl (decide (p ∈ d.overs))) H'
end
theorem Sd.Small.mono {d : Sd} {n m : Nat} (h : d.Small n) (le : n ≤ m) : d.Small m := ⟨Nat.le_trans h.bg le, Nat.le_trans h.wk le, Nat.le_trans h.rd le, Nat.le_trans h.en le, Nat.le_trans h.wa le, Nat.le_trans h.ov le⟩
theorem St.kp {CS q : Addr} {K : PySem.W.Frag} {H H' : Hp} {A : Ad} {d : Sd} (h : St CS K H A d) (k : Kp q H H') (n : q ∉ A.own) (t : TSame H H') (nl : A.l ≠ q) : St CS K H' A d := by
  obtain ⟨us, h⟩ := h
  refine ⟨us, k _ _ nl h.ins, fun x hx => k _ _ (fun z => n ?_) (h.co x hx), pp h.bg fun _ _ z => z.keep t, fun x hx => (h.rd x hx).keep t, h.wa.keep t, h.nd⟩
  rw [← z]
  exact List.mem_map.mpr ⟨x, hx, rfl⟩
/-- the script's list, apart from N -/
def Scr (K : PySem.W.Frag) (H : Hp) (a : Addr) (xs : List V) (N : List Addr) : Prop := (∀ H', SqL K H' a xs) ∨ ∃ o, H a = some o ∧ a ∉ N ∧ ∀ H', H' a = some o → SqL K H' a xs
section
variable {K : PySem.W.Frag} {H H' : Hp} {a q : Addr} {xs : List V} {N : List Addr}
end
theorem fewF {f : Str} {v : V} {fs : List (Str × V)} {n : Nat} (h : fs.length < n) : (putF f v fs).length < n + 1 := by
  have := length_putF f v fs
  omega
theorem fld_new {H : Hp} {l p dx C : Addr} {fs fs' : List (Str × V)} {o : HO} (hl : H l = some (.ins C dx fs)) (hp : H p = none) :
    (upd H p o) l = some (.ins C dx fs) ∧ (upd (upd H p o) l (.ins C dx fs')) l = some (.ins C dx fs') ∧ (upd (upd H p o) l (.ins C dx fs')) p = some o ∧ Kp l H (upd (upd H p o) l (.ins C dx fs')) := by
  have n : l ≠ p := ne_of_none hl hp
  exact ⟨by rw [upd_ne n]; exact hl, upd_same, by rw [upd_ne (Ne.symm n), upd_same], fun b u hb e => by rw [upd_ne hb, upd_ne (ne_of_none e hp)]; exact e⟩
theorem none_back {H H' : Hp} {l b : Addr} {o : HO} (k : Kp l H H') (hl : H' l = some o) (hb : H' b = none) : H b = none := by
  cases e : H b with
  | none => rfl
  | some u =>
    have n : b ≠ l := fun z => by rw [z, hl] at hb; cases hb
    rw [k b u n e] at hb
    cases hb
theorem hun1 {k : Nat} {A : Around} (hr : Room k A) : A.units + 1 < cLine := hun (c := 0) hr
theorem hun2 {k : Nat} {A : Around} (hr : Room k A) : A.units + 2 < cLine := hun (c := 1) hr
theorem ixN_in {n : Nat} {i : Int} (h0 : 0 ≤ i) (h1 : i < n) : ixN n i = some i.toNat := by
  unfold ixN
  rw [if_pos h0, if_pos h1]
theorem at0 {x : V} {us : List V} : atI (x :: us) (0 : Int) = some x := atI_nat (j := 0) rfl
theorem at1 {x y : V} {us : List V} : atI (x :: y :: us) (1 : Int) = some y := atI_nat (j := 1) rfl
theorem at2 {x y z : V} {us : List V} : atI (x :: y :: z :: us) (2 : Int) = some z := atI_nat (j := 2) rfl
theorem str_no {a b : Str} (h : ¬ a = b) : decide (V.str a = V.str b) = false := decide_eq_false fun z => h (V.str.inj z)
end Lo

/-! a list made by walking, stored at once in a local name -/
namespace L2
open PySem PySem.Spec PyProof.Rows
set_option maxHeartbeats 1600000 in
theorem ps_lcset {X : Cx} {iy : Nat} {y : Str} {py spos : Pos} {elt iter : Expr} {x : Str} {px : Pos} {ifs : List Expr} {scope : Scope} {pos : Pos} {N' : List Str} {fv : List Nat} {wi : TI} {tt : TT} {te : TE}
    (S : BlkScope X.N X.env.scope scope x N' fv) (hc : X.calm = true) (hi : PI X (.Name x px) iter wi)
    (ht : ∀ C fp s H, PTs (X.blk N' scope C fp s H) ifs tt) (he : ∀ C fp s H, PE (X.blk N' scope C fp s H) elt te)
    (hN : X.N.Nodup) (hiy : X.N[iy]? = some y) (hxl : Loc X.env.scope y) (hsw : swapsWith (.ListComp elt [⟨.Name x px, iter, ifs, 0⟩] scope pos) (some (.Name y py)) spos.line X.env = pure true := by rfl)
    (hs : ∀ x, foldedSetIterable iter X.env x = pure x := by intro _; rfl) (hf : X.fn y = true ∨ X.env.scope.names.lookup y = some .local := by first | exact .inl rfl | exact .inr rfl | assumption) :
    PS X (.Assign [.Name y py] (.ListComp elt [⟨.Name x px, iter, ifs, 0⟩] scope pos) spos) (tAsg (tLC wi fv tt te) (gName iy)) := by
  intro pins s σ H DE I h
  rw [exec_Assign_Name_used _ _ _ _ hsw]
  refine wpAny_bind (wpAny_standAt (wpAny_bind ?_))
  show wpAny _ X.A (do let _ ← comprehension (.ListComp elt [⟨.Name x px, iter, ifs, 0⟩] scope pos) scope X.env _ (newList []) false (eval iter X.env) (some (assign (.Name y py) X.env))) _ _ s
  refine wpAny_bind (wpAny_mono (wpAny_comprehension_free (use := some (assign (.Name y py) X.env)) (Q := fun _ s' => SP X pins DE .next s') rfl hs (closureFor_free fun y hy hk => I.ok.has y.1 (S.free y hy hk)) S.kind S.names
    (wpAny_mono (hi pins s σ H _ I h) (fun xv s1 h1 => wpAny_mono h1 (fun itv s2 h2 => ?_) fun _ _ e => e) fun _ _ e => e)) (fun _ s' hq => wpAny_pure (wpAny_pure hq)) fun _ _ e => e)
  obtain ⟨it, fp, tn, J, H2, rfl, I2, T, st2, f2, W, n, w0, hn, turn⟩ := h2
  refine wpAny_newObj_type (wpAny_newFunctionEnv S.nocell (by intro y hy; simp at hy) (fun h1 hns hsb => ?_) S.kind)
  dsimp only at hns hsb ⊢
  generalize hH : s2.heap.push { cls := .type "list", dict := none, data := .seq ([] : List Value).toArray } = G at hns hsb ⊢
  have hG : G.objs.size = s2.heap.objs.size + 1 := by rw [← hH, Heap.size_push]
  have kpG : ∀ b o, s2.heap.get? b = some o → G.get? b = some o := fun b o e => hH ▸ Heap.get?_push_of_some _ e
  have kp1 : ∀ b o, b < G.objs.size → G.get? b = some o → h1.get? b = some o := fun b o lt e => hsb.extBut b o (Nat.ne_of_lt lt) (Heap.get?_push_of_some _ e)
  have kp : ∀ b o, s2.heap.get? b = some o → h1.get? b = some o := fun b o e => kp1 b o (by rw [hG]; exact Nat.lt_succ_of_lt (Heap.lt_size e)) (kpG b o e)
  have hD : h1.PlainList s2.heap.objs.size #[] := ⟨_, kp1 _ _ (by rw [hG]; exact Nat.lt_succ_self _) (hH ▸ Heap.get?_push_size _ rfl)⟩
  have hDC : s2.heap.objs.size ≠ G.objs.size := by rw [hG]; exact Nat.ne_of_lt (Nat.lt_succ_self _)
  have hC : s2.heap.objs.size ≤ G.objs.size := by rw [hG]; exact Nat.le_succ _
  have hfo : ∀ b ∈ fp, b < s2.heap.objs.size := fun b hb => by obtain ⟨o, e, _⟩ := T.obj 0 _ st2 b hb; exact Heap.lt_size e
  -- what is true of the iterator's records in the block
  have stat : ∀ {H' : Hp} {pl : List (Addr × Obj)}, (∀ b ∈ fp, H' b = none) → (∀ p ∈ pl, p.1 ∉ fp) → ∀ b ∈ fp, FpOk (X.blk N' scope G.objs.size fp s2 H2) pl H' b := fun {H' pl} hn hpl b hb => by
    obtain ⟨_, g1, g2, g3, g4, g5⟩ := f2 b hb
    refine ⟨hn b hb, Nat.ne_of_lt (Nat.lt_of_lt_of_le (hfo b hb) hC), fun z => ?_, .inl hb, fun y c e => g4 y c (cloOf_lookup_sub e), fun p hp e => ?_⟩
    · rcases List.mem_cons.mp (I2.stkSub b z) with q | q
      · exact g1 q
      · exact g2 q
    · exact hpl p hp (e ▸ hb)
  have hDf : s2.heap.objs.size ∉ fp := fun z => absurd (hfo _ z) (Nat.lt_irrefl _)
  have hlc : (X.blk N' scope G.objs.size fp s2 H2).env.scope.names.lookup x = some .local := lookup_relabel_local S.loc
  have hcl : ∀ y c, (X.blk N' scope G.objs.size fp s2 H2).env.cells.lookup y = some c → c ≠ s2.heap.objs.size := fun y c e z => by
    obtain ⟨v, q⟩ := I2.cell y c (cloOf_lookup_sub e)
    exact absurd q.lt (by rw [z]; exact Nat.lt_irrefl _)
  have pin1 : ∀ {s' : Shared} {H' : Hp} {ob : Obj} {i : Nat} {ys : List V}, Inv (X.blk N' scope G.objs.size fp s2 H2) [] (none :: blkVals fv σ) H' s' → s'.heap.get? s2.heap.objs.size = some ob → (∀ v, ob.data ≠ .cell v) → H' s2.heap.objs.size = none →
      Inv (X.blk N' scope G.objs.size fp s2 H2) [(s2.heap.objs.size, ob)] (none :: blkVals fv σ) H' s' := fun {s' H' ob i ys} J1 e d f => J1.pins_of fun p hp => by
    have z : p = (s2.heap.objs.size, ob) := by simpa using hp
    subst z
    refine ⟨e, f, hDC, fun z => ?_, d⟩
    rcases List.mem_cons.mp (I2.stkSub _ z) with q | q
    · exact absurd I2.lt (by rw [← q]; exact Nat.lt_irrefl _)
    · exact I2.nofs (Nat.le_refl _) q
  have loop : ∀ s3 : Shared, s3 = { s2 with heap := h1, toks := s2.toks + ([] : List (Str × Value)).length } →
      codeAny (model X.prog X.w) X.A (.compLoop (.ListComp elt [⟨.Name x px, iter, ifs, 0⟩] scope pos) 0 (.ref it) (.ref s2.heap.objs.size) (X.blk N' scope G.objs.size fp s2 H2).env)
        (compPost (model X.prog X.w) X.A X.xe (some (assign (.Name y py) X.env)) (fun _ s' => SP X pins DE .next s') (.ref s2.heap.objs.size) G.objs.size) s3 := by
    rintro s3 rfl
    refine codeAny_compLoop_tests (fun k s' => ∃ i ys H' its, k = n + 1 - i ∧ i ≤ n ∧ ys.length ≤ i ∧ Vals ys its ∧ s'.heap.PlainList s2.heap.objs.size its.toArray ∧
      Inv (X.blk N' scope G.objs.size fp s2 H2) [] (none :: blkVals fv σ) H' s' ∧ H' s2.heap.objs.size = none ∧ tn i s'.heap ∧ (∀ b ∈ fp, H' b = none) ∧ W i ys H') ?_ (n + 1)
      ⟨0, [], H2, [], rfl, Nat.zero_le _, Nat.le_refl _, .nil, hD, blk_inv S I2 f2 hfo hC kp hns (fun p hp => nomatch hp), I2.hok.fresh (Nat.le_refl _), T.keep _ _ _ st2 fun b _ o e => kp b o e, fun b hb => (f2 b hb).1, w0⟩
    rintro k s4 ⟨i, ys, H4, its, rfl, hin, hyi, rv, pl4, I4, fD4, st4, ff4, w4⟩
    obtain ⟨cnt, eD⟩ := id pl4
    have I4p := pin1 (i := i) (ys := ys) I4 eD (fun v z => by cases z) fD4
    have np : ∀ p ∈ [(s2.heap.objs.size, ({ cls := .type "list", data := .seq its.toArray cnt } : Obj))], p.1 ∉ fp := fun p hp => by
      have z : p = (s2.heap.objs.size, ({ cls := .type "list", data := .seq its.toArray cnt } : Obj)) := by simpa using hp
      subst z; exact hDf
    rcases turn i ys H4 w4 with ⟨stop, fin⟩ | ⟨go, hi2, step⟩
    · refine wpAny_mono (T.done (X.blk N' scope G.objs.size fp s2 H2) rfl rfl rfl hc i _ s4 _ H4 _ I4p (stat ff4 np) st4 stop) (fun r s5 ⟨hr, I5⟩ => ?_) fun _ _ e => e
      subst hr
      obtain ⟨m5, hm5, _⟩ := I5.loc
      have eD5 : s5.heap.get? s2.heap.objs.size = some { cls := .type "list", data := .seq its.toArray cnt } := (I5.pin _ (List.mem_append_right _ List.mem_cons_self)).1
      have IF : Inv X pins σ (upd H4 s2.heap.objs.size (.lst ys)) s5 := by
        have sb : Heap.SameBut G.objs.size s5.heap s5.heap := ⟨rfl, fun _ _ => rfl⟩
        have ltC : ∀ {b : Addr} {o : Obj}, s2.heap.get? b = some o → b ≠ G.objs.size := fun {b o} e => Nat.ne_of_lt (Nat.lt_of_lt_of_le (Heap.lt_size e) hC)
        have fD2 : H2 s2.heap.objs.size = none := I2.hok.fresh (Nat.le_refl _)
        have ltD : ∀ {b : Addr} {o : Obj}, s2.heap.get? b = some o → b ≠ s2.heap.objs.size := fun {b o} e => Nat.ne_of_lt (Heap.lt_size e)
        have B := I5.base
        refine I2.call' (s' := s5) (ch := fp) I5.os ⟨fun b o e nb hb hx => ?_, fun b o e nb hb hx => ?_, fun b o e nb hx => ?_, fun b o e hx => ?_, fun b xs e => ?_, fun b o u e => ?_, fun b ps e => ?_⟩ ?_ I5.bare fun b hb => ?_
        · exact sb.extBut b o (ltC e) (B.keep b o e nb hb hx)
        · obtain ⟨sl, q⟩ := B.slot b o e nb hb hx
          exact ⟨sl, sb.extBut b _ (ltC e) q⟩
        · rw [upd_ne (ltD e)]; exact B.free b o e nb hx
        · obtain ⟨o', q⟩ := B.there b o e hx
          exact ⟨o', sb.extBut b o' (ltC e) q⟩
        · have e' : H2 b = some (.tup xs) := e
          rw [upd_ne (ne_of_none e' fD2)]; exact B.tups b xs e
        · have e' : H2 b = some (.frz o u) := e
          rw [upd_ne (ne_of_none e' fD2)]; exact B.frzs b o u e
        · have e' : H2 b = some (.tbl ps) := e
          rw [upd_ne (ne_of_none e' fD2)]; exact B.tbls b ps e
        · intro b u e
          by_cases hb : b = s2.heap.objs.size
          · subst hb
            rw [upd_same] at e
            cases e
            exact ⟨Nat.le_trans hyi (Nat.le_trans hin hn), its, cnt, rv, sb.extBut _ _ hDC eD5⟩
          · rw [upd_ne hb] at e
            have fC : H4 G.objs.size = none := I5.free
            refine (I5.hok b u e).stay (fun c v hc' q => sb.extBut c v ?_ q) (fun c q => by rw [upd_ne (ne_of_none q fD4)]; exact q) fun c xs q => by rw [upd_ne (ne_of_none q fD4)]; exact q
            rcases hc' with z | z
            · subst z; exact ne_of_none e fC
            · exact ne_of_none z fC
        · obtain ⟨_, g1, g2, g3, g4, g5⟩ := f2 b hb
          exact ⟨g3, g1, g4, g5⟩
      obtain ⟨f0, f1, f2', f3, f4, f5⟩ := I2.fpOk (H' := H2) hC (I2.hok.fresh hC)
      show wpAny _ _ (assign (.Name y py) X.env (.ref s2.heap.objs.size)) _ _ s5
      refine wpAny_assign_Name (store_ok2 IF hN hiy hxl (v := .ref s2.heap.objs.size) rfl (fun s6 I6 ⟨a6, sb6, ha6⟩ => ?_) hf)
      have nC : G.objs.size ≠ a6 := fun z => by
        rcases ha6 with e | e
        · exact f1 (z.trans e)
        · exact f4 _ _ e z.symm
      have fC : (upd H4 s2.heap.objs.size (.lst ys)) G.objs.size = none := by
        rw [upd_ne (Ne.symm hDC)]
        exact I5.free
      exact ⟨m5, hm5.sameBut sb6 nC, fun h' sb' => ⟨_, _, I6.turned (t' := s6.toks) (it := G.objs.size) (fun b o hb e => (sb'.2 b hb).trans e) fC f1 f3 f4 f5, fin _ fD4⟩⟩
    · refine wpAny_mono (T.item (X.blk N' scope G.objs.size fp s2 H2) rfl rfl rfl hc i _ s4 _ H4 _ I4p (stat ff4 np) st4 go) (fun r s5 ⟨u, hr, h5⟩ => ?_) fun _ _ e => e
      subst hr
      show wpAny _ _ (letOwnedTupleGo (.Name x px) (.ref it) u >>= fun _ => assign (.Name x px) (X.blk N' scope G.objs.size fp s2 H2).env u) _ _ s5
      refine wpAny_bind (wpAny_mono h5 (fun _ s6 ⟨xv, H6, I6, r6, y6, st6, ff6⟩ => ?_) fun _ _ e => e)
      have I6' := I6.pinned (stat ff6 np) (T.obj _ _ st6)
      have out : ∀ {σ' : St} {H' : Hp} {s' : Shared}, Inv (X.blk N' scope G.objs.size fp s2 H2) ([(s2.heap.objs.size, ({ cls := .type "list", data := .seq its.toArray cnt } : Obj))] ++ pinsAt fp s6.heap) σ' H' s' →
          s'.heap.PlainList s2.heap.objs.size its.toArray ∧ H' s2.heap.objs.size = none ∧ (∀ b ∈ fp, H' b = none) ∧ (∀ b ∈ fp, ∀ o, s6.heap.get? b = some o → s'.heap.get? b = some o) := fun {σ' H' s'} J1 => by
        have q := J1.pin (s2.heap.objs.size, ({ cls := .type "list", data := .seq its.toArray cnt } : Obj)) (List.mem_append_right _ (List.mem_append_left _ List.mem_cons_self))
        refine ⟨⟨cnt, q.1⟩, q.2.1, fun b hb => ?_, fun b hb o e => (J1.pin (b, o) (List.mem_append_right _ (List.mem_append_right _ (mem_pinsAt hb e)))).1⟩
        obtain ⟨o, e, d⟩ := T.obj _ _ st6 b hb
        exact (J1.pin (b, o) (List.mem_append_right _ (List.mem_append_right _ (mem_pinsAt hb e)))).2.1
      refine nox ((pg_name (X := X.blk N' scope G.objs.size fp s2 H2) (i := 0) S.nd S.hd (.inl hlc) (.inr hlc)) _ s6 _ H6 xv u (fun σ' H' => σ' = some xv :: blkVals fv σ ∧ H' = H6) I6' r6 ⟨rfl, rfl⟩) fun _ s7 ⟨σ7, H7, I7, e7, e7'⟩ => ?_
      subst e7 e7'
      refine nox (ht _ _ _ _ _ s7 _ H7 _ I7 (step xv H7 y6)) fun ok s8 ⟨H8, I8, q8⟩ => ?_
      cases ok with
      | false =>
        obtain ⟨o1, o2, o3, o4⟩ := out I8
        exact ⟨n + 1 - (i + 1), by omega, i + 1, ys, H8, its, rfl, hi2, Nat.le_succ_of_le hyi, rv, o1, (I8.pins_of (pins' := []) fun p hp => nomatch hp).weak (σ' := none :: blkVals fv σ) rfl (fun j v e => by
          cases j with
          | zero => cases (show (none : Option V) = some v from Option.some.inj e)
          | succ j => exact e), o2, T.keep _ _ _ st6 o4, o3, q8⟩
      | true =>
        refine nox (he _ _ _ _ _ s8 _ H8 _ I8 q8) fun yv s9 ⟨y, H9, I9, r9, q9⟩ => ?_
        obtain ⟨o1, o2, o3, o4⟩ := out I9
        have hlen := rv.length
        refine wpAny_list_append_plain (hsz := by rw [List.size_toArray, ← hlen]; exact Nat.le_trans hyi (Nat.le_trans hin hn)) o1 fun h' pl' sb' => ?_
        have I9' : Inv (X.blk N' scope G.objs.size fp s2 H2) [] (some xv :: blkVals fv σ) H9 { s9 with heap := h' } :=
          (I9.pins_of (pins' := []) fun p hp => nomatch hp).turned (t' := s9.toks) (it := s2.heap.objs.size) (fun b o hb e => sb'.extBut b o hb e) o2 hDC (.inr (Nat.le_refl _)) hcl (fun p hp => nomatch hp)
        refine ⟨n + 1 - (i + 1), by omega, i + 1, ys ++ [y], H9, its ++ [yv], rfl, hi2, by rw [List.length_append]; exact Nat.succ_le_succ hyi, rv.append (.cons r9 .nil), ?_, I9'.weak (σ' := none :: blkVals fv σ) rfl (fun j v e => by
          cases j with
          | zero => cases (show (none : Option V) = some v from Option.some.inj e)
          | succ j => exact e), o2, T.keep _ _ _ st6 fun b hb o e => sb'.extBut b o (fun z => hDf (z ▸ hb)) (o4 b hb o e), o3, q9⟩
        have e9 : (its ++ [yv]).toArray = its.toArray.push yv := by simp
        rw [e9]
        exact pl'
  exact codeAny_compStart_list (loop _ rfl) (T.self _ 0 _ _ _ (T.keep _ _ _ st2 fun b _ o e => kp b o e) (loop _ rfl))
end L2

set_option maxHeartbeats 1000000
/-! sorted, of pairs of a name and a text -/
namespace L2
open PySem PySem.Spec PyProof.Rows PySem.W
/-- a tree of questions that asks below n alone -/
inductive KAll (n : Nat) {α : Type} (P : α → Prop) : KasT α → Prop
  | ret {a : α} : P a → KAll n P (.ret a)
  | ask {i j : Nat} {k : Bool → KasT α} : i < n → j < n → (∀ b, KAll n P (k b)) → KAll n P (.ask i j k)
def runT {α : Type} (lt : Nat → Nat → Bool) : KasT α → α
  | .ret a => a
  | .ask i j k => runT lt (k (lt i j))
theorem KAll.bind {n : Nat} {α β : Type} {P : α → Prop} {R : β → Prop} {f : α → KasT β} : ∀ {t : KasT α}, KAll n P t → (∀ a, P a → KAll n R (f a)) → KAll n R (t.bind f)
  | _, .ret h, g => g _ h
  | _, .ask h1 h2 h3, g => .ask h1 h2 fun b => KAll.bind (h3 b) g
theorem KAll.wp {n : Nat} {α : Type} {P : α → Prop} {cmp : Nat → Nat → (Bool → Shared → Prop) → Shared → Prop} {lt : Nat → Nat → Bool} {s : Shared} (hc : ∀ i j (C : Bool → Shared → Prop), i < n → j < n → C (lt i j) s → cmp i j C s) {Q : α → Shared → Prop} :
    ∀ {t : KasT α}, KAll n P t → (P (runT lt t) → Q (runT lt t) s) → t.kasWp cmp Q s
  | _, .ret h, q => q h
  | _, .ask (i := i) (j := j) h1 h2 h3, q => hc i j _ h1 h2 (KAll.wp hc (h3 (lt i j)) q)
def InP (n : Nat) (p : Array Nat) : Prop := p.size = n ∧ ∀ x ∈ p, x < n
theorem InP.get {n : Nat} {p : Array Nat} (h : InP n p) (h0 : 0 < n) (i : Nat) : p.getD i 0 < n := by
  rw [Array.getD_eq_getD_getElem?]
  cases e : p[i]? with
  | none => exact h0
  | some x => exact h.2 x (Array.mem_of_getElem? e)
theorem InP.perm {n : Nat} {p q : Array Nat} (h : InP n p) (e : q.Perm p) : InP n q := ⟨e.size_eq.trans h.1, fun x hx => h.2 x (e.mem_iff.mp hx)⟩
theorem InP.rev {n : Nat} {p : Array Nat} (h : InP n p) (i j : Nat) : InP n (kas_rev p i j) := h.perm (mirror_perm _ _ _ _)
theorem all_asc {n : Nat} {p : Array Nat} (h : InP n p) (h0 : 0 < n) : ∀ f m, KAll n (fun _ => True) (kas_asc p f m)
  | 0, _ => .ret trivial
  | f + 1, m => .ask (h.get h0 _) (h.get h0 _) fun b => by
    cases b with
    | true => exact .ret trivial
    | false => exact all_asc h h0 f (m + 1)
theorem all_desc {n : Nat} (h0 : 0 < n) : ∀ f (p : Array Nat) m q, InP n p → KAll n (fun r => InP n r.1) (kas_desc f p m q)
  | 0, _, _, _, h => .ret h
  | f + 1, p, m, q, h => .ask (h.get h0 _) (h.get h0 _) fun b => by
    cases b with
    | true =>
      show KAll n _ (if q > 0 then kas_desc f (kas_rev p (m - (q + 1)) m) (m + 1) 0 else kas_desc f p (m + 1) 0)
      split
      · exact all_desc h0 f _ _ _ (h.rev _ _)
      · exact all_desc h0 f _ _ _ h
    | false =>
      refine .ask (h.get h0 _) (h.get h0 _) fun c => ?_
      cases c with
      | true => exact .ret h
      | false => exact all_desc h0 f _ _ _ h
theorem all_tail {n : Nat} {p : Array Nat} (h : InP n p) (h0 : 0 < n) (m k : Nat) : KAll n (fun r => InP n r.2) (kas_tail3 m k p) := (all_asc (h.rev 0 m) h0 _ _).bind fun _ _ => .ret (h.rev 0 m)
theorem all_part {n : Nat} {p : Array Nat} (h : InP n p) (h0 : 0 < n) (m k : Nat) : KAll n (fun r => InP n r.2) (kas_descPart m k p) := (all_desc h0 _ _ _ _ h).bind fun r hr => by
  split
  · exact all_tail (hr.rev _ _) h0 _ _
  · exact all_tail hr h0 _ _
theorem all_count {n : Nat} {p : Array Nat} (h : InP n p) (h0 : 0 < n) (k : Nat) : KAll n (fun r => InP n r.2) (kas_count k p) := (all_asc h h0 _ _).bind fun m _ => by
  split
  · exact .ret h
  · split
    · refine .ask (h.get h0 _) (h.get h0 _) fun c => ?_
      cases c with
      | true => exact .ret h
      | false => exact all_part (h.rev _ _) h0 _ _
    · exact all_part h h0 _ _
theorem all_place {n : Nat} {p : Array Nat} (h : InP n p) (h0 : 0 < n) (k : Nat) : ∀ f l r, KAll n (fun _ => True) (kas_place p k f l r)
  | 0, _, _ => .ret trivial
  | f + 1, l, r => by
    show KAll n _ (if l ≥ r then .ret l else .ask (p.getD k 0) (p.getD ((l + r) / 2) 0) fun c => if c = true then kas_place p k f l ((l + r) / 2) else kas_place p k f ((l + r) / 2 + 1) r)
    split
    · exact .ret trivial
    · refine .ask (h.get h0 _) (h.get h0 _) fun c => ?_
      cases c with
      | true => exact all_place h h0 k f _ _
      | false => exact all_place h h0 k f _ _
theorem all_bin {n : Nat} (h0 : 0 < n) : ∀ f (p : Array Nat) k, InP n p → KAll n (InP n) (kas_bin f p k)
  | 0, _, _, h => .ret h
  | f + 1, p, k, h => (all_place h h0 k k 0 k).bind fun l _ => all_bin h0 f _ _ (h.perm (bubble_perm _ _ _))
theorem all_sort {n : Nat} (h0 : 0 < n) : KAll n (InP n) (kas_sort n) := by
  have h : InP n (List.toArray (List.range n)) := ⟨by simp, fun x hx => by simpa using hx⟩
  refine (all_count h h0 n).bind fun r hr => ?_
  split
  · exact all_bin h0 _ _ _ hr
  · exact .ret hr
/-! ### comparing two pairs -/
def EntAt (h : Heap) (x : (Int × Int) × Str) (v : Value) : Prop := ∃ a b t1 t2 t3, v = .ref a ∧ h.IsTuple a #[.ref b, .str x.2 t3] ∧ h.IsTuple b #[.int x.1.1 t1, .int x.1.2 t2]
def ltE (x y : (Int × Int) × Str) : Bool := if x.1 = y.1 then (if x.2 = y.2 then false else decide (x.2.cps.toList < y.2.cps.toList)) else HT.lexLt [x.1.1, x.1.2] [y.1.1, y.1.2]
section
variable {prog : Program} {w : World} {A : Around} {E : Value → Shared → Prop} {s : Shared}
/-- all of a list of values are such pairs -/
abbrev Ents (h : Heap) (es : List ((Int × Int) × Str)) (vs : List Value) : Prop := Paired (EntAt h) es vs
/-- in the order of the tree -/
def srtBy {α : Type} [Inhabited α] (lt : α → α → Bool) (xs : List α) : List α := ((runT (fun i j => lt (xs.getD i default) (xs.getD j default)) (kas_sort xs.length)).toList).map fun i => xs.getD i default
theorem pr_getD {α β : Type} {R : α → β → Prop} {xs : List α} {ys : List β} (h : Paired R xs ys) {i : Nat} (hi : i < xs.length) (a : α) (b : β) : R (xs.getD i a) (ys.getD i b) := by
  have hi' : i < ys.length := by rw [← h.len]; exact hi
  obtain ⟨u, eu, ru⟩ := h.get1 (List.getElem?_eq_getElem hi)
  rw [List.getElem?_eq_getElem hi'] at eu
  cases eu
  rw [List.getD_eq_getElem?_getD, List.getD_eq_getElem?_getD, List.getElem?_eq_getElem hi, List.getElem?_eq_getElem hi']
  exact ru
theorem pr_pick {α β : Type} {R : α → β → Prop} {xs : List α} {ys : List β} (h : Paired R xs ys) (a : α) (b : β) : ∀ {p : List Nat}, (∀ i ∈ p, i < xs.length) → Paired R (p.map fun i => xs.getD i a) (p.map fun i => ys.getD i b)
  | [], _ => .nil
  | i :: p, hp => .cons (pr_getD h (hp i List.mem_cons_self) a b) (pr_pick h a b fun j hj => hp j (List.mem_cons_of_mem _ hj))
instance : Inhabited ((Int × Int) × Str) := ⟨((0, 0), Str.empty)⟩
theorem srt_len {α : Type} [Inhabited α] (lt : α → α → Bool) (xs : List α) (h : 0 < xs.length) : (srtBy lt xs).length = xs.length ∧ ∀ i ∈ (runT (fun i j => lt (xs.getD i default) (xs.getD j default)) (kas_sort xs.length)).toList, i < xs.length := by
  have : InP xs.length (runT (fun i j => lt (xs.getD i default) (xs.getD j default)) (kas_sort xs.length)) := by
    have g : ∀ {t : KasT (Array Nat)}, KAll xs.length (InP xs.length) t → InP xs.length (runT (fun i j => lt (xs.getD i default) (xs.getD j default)) t) := by
      intro t k
      induction k with
      | ret h => exact h
      | ask _ _ _ ih => exact ih _
    exact g (all_sort h)
  refine ⟨?_, fun i hi => this.2 i (Array.mem_toList_iff.mp hi)⟩
  unfold srtBy
  rw [List.length_map, Array.length_toList]
  exact this.1
section
variable {prog : Program} {w : World} {A : Around} {E : Value → Shared → Prop} {s : Shared} {h₀ : Heap} {L : Addr} {m : Str → Option Value} {news : List (Addr × Obj)}
end
end
end L2

set_option maxHeartbeats 1000000
namespace L2
open PySem PySem.Spec PyProof.Rows PySem.W
section
variable {prog : Program} {w : World} {A : Around} {E : Value → Shared → Prop} {s : Shared} {h₀ : Heap} {L : Addr} {m : Str → Option Value} {news : List (Addr × Obj)}
/-- list.sort of none or one -/
theorem few_sort {vs : List Value} {a n : Nat} {P : PySem.Fin → Shared → Prop} (F : Fr h₀ L s.heap m) (N : News h₀ L s.heap news) (ho : s.heap.get? a = some (seqObj "list" vs.toArray n)) (haL : a ≠ L) (ha0 : h₀.get? a = none) (hna : ∀ p ∈ news, p.1 ≠ a) (h2 : vs.length < 2)
    (q : ∀ h' c, Fr h₀ L h' m → News h₀ L h' ((a, PySem.W.listOf vs.toArray c) :: news) → P (.done (.ret .none)) { s with heap := h' }) :
    wpAny (model prog w) A (Builtin.«list.sort» ⟨[.ref a], []⟩) P E s := by
  have z0 : vs.length ≤ sizeLine := by rw [sizeLine_eq]; omega
  have sb1 := Heap.SameBut.update s.heap a (Obj.mapSeq fun _ => (#[] : Array Value))
  obtain ⟨c1, o1⟩ : ∃ c, (s.heap.update a (Obj.mapSeq fun _ => (#[] : Array Value))).get? a = some (seqObj "list" #[] c) := ⟨_, get?_update_seq ho fun _ => #[]⟩
  rw [list_sort_plain]
  refine wpAny_bind (listItems_at ho rfl (wpAny_bind (listUpdate_at ho rfl ?_ (by rw [List.size_toArray]; exact z0) (Nat.zero_le _))))
  refine wpAny_bind (seqEpoch_at o1 rfl (wpAny_bind (wpAny_newTuple ?_ (by show vs.length ≤ _; exact z0))))
  refine wpAny_bind (wpAny_newList (wpAny_holding ?_) (Nat.zero_le _))
  have lt2 : vs.toArray.size < 2 := by rw [List.size_toArray]; exact h2
  dsimp only
  rw [if_pos lt2, if_pos lt2]
  refine wpAny_bind (wpAny_pure (wpAny_bind (wpAny_pure ?_)))
  have o2 := Heap.get?_push_of_some (seqObj "list" #[] 0) (Heap.get?_push_of_some (seqObj "tuple" vs.toArray 0) o1)
  refine wpAny_bind (seqEpoch_at o2 rfl ?_)
  have ez : (arrOf (SortSt.mk' general' (vs.toArray.zip vs.toArray) #[] 7 none)).map (·.2) = vs.toArray := by
    show (vs.toArray.zip vs.toArray).map (·.2) = vs.toArray
    have zz : ∀ l : List Value, (l.zip l).map (·.2) = l := fun l => by
      induction l with
      | nil => rfl
      | cons x r ih => rw [List.zip_cons_cons, List.map_cons, ih]
    apply Array.toList_inj.mp
    simpa using zz vs
  rw [ez]
  refine wpAny_bind (listUpdate_at o2 rfl ?_ (Nat.zero_le _) (by rw [List.size_toArray]; exact Nat.le_succ_of_le z0))
  simp only [bne_self_eq_false, Bool.false_eq_true, if_false]
  obtain ⟨c2, o3⟩ : ∃ c, ((((s.heap.update a (Obj.mapSeq fun _ => (#[] : Array Value))).push (seqObj "tuple" vs.toArray 0)).push (seqObj "list" #[] 0)).update a (Obj.mapSeq fun _ => vs.toArray)).get? a = some (seqObj "list" vs.toArray c) := ⟨_, get?_update_seq o2 fun _ => vs.toArray⟩
  refine wpAny_pure (q _ c2 ?_ ?_)
  · exact kas_fr (((kas_fr F sb1 haL ha0).push _).push _) (Heap.SameBut.update _ _ _) haL ha0
  · intro p hp
    rcases List.mem_cons.mp hp with z | hp
    · subst z
      exact ⟨o3, haL, ha0⟩
    · exact kas_news ((kas_news N sb1 hna).grown fun b x e => Heap.get?_push_of_some _ (Heap.get?_push_of_some _ e)) (Heap.SameBut.update _ _ _) hna p hp
end
/-- a pair of a name and a text, made at run time -/
def sPS (K : PySem.W.Frag) (H : Hp) (x : (Int × Int) × Str) (v : V) : Prop := ∃ a b, v = .ref a ∧ H a = some (.tup [.ref b, .str x.2]) ∧ H b = some (.tup [.int x.1.1, .int x.1.2])
theorem vals_pick {us : List V} {vs : List Value} (h : Vals us vs) (p : List Nat) (hp : ∀ i ∈ p, i < us.length) : Vals (p.map fun i => us.getD i .non) (p.map fun i => vs.getD i Value.none) := pr_pick h _ _ hp
section
variable {X : Cx} {pins : List (Addr × Obj)} {σ : St} {H : Hp} {s : Shared}
end
end L2

set_option maxHeartbeats 1000000
/-! the tree of questions sorts, where no two are alike -/
namespace L2
open PySem PySem.Spec PyProof.Rows PySem.W
theorem runT_bind {α β : Type} (lt : Nat → Nat → Bool) (f : α → KasT β) : ∀ t : KasT α, runT lt (t.bind f) = runT lt (f (runT lt t))
  | .ret _ => rfl
  | .ask i j k => runT_bind lt f (k (lt i j))
structure SOrd (n : Nat) (lt : Nat → Nat → Bool) : Prop where
  tri : ∀ i j, i < n → j < n → i ≠ j → lt i j = false → lt j i = true
  tr : ∀ i j k, lt i j = true → lt j k = true → lt i k = true
abbrev gA (p : Array Nat) (k : Nat) : Nat := p.getD k 0
def Pm (n : Nat) (p : Array Nat) : Prop := p.toList.Perm (List.range n)
theorem Pm.size {n : Nat} {p : Array Nat} (h : Pm n p) : p.size = n := by
  have := List.Perm.length_eq h
  rwa [Array.length_toList, List.length_range] at this
theorem gA_get {p : Array Nat} {k : Nat} (h : k < p.size) : p.toList[k]? = some (gA p k) := by
  unfold gA
  rw [Array.getD_eq_getD_getElem?, Array.getElem?_toList, Array.getElem?_eq_getElem h]
  rfl
theorem Pm.lt {n : Nat} {p : Array Nat} (h : Pm n p) {k : Nat} (hk : k < n) : gA p k < n := by
  have hm := List.mem_of_getElem? (gA_get (p := p) (k := k) (by rw [h.size]; exact hk))
  exact List.mem_range.mp ((List.Perm.mem_iff h).mp hm)
theorem Pm.ne {n : Nat} {p : Array Nat} (h : Pm n p) {i j : Nat} (hi : i < n) (hj : j < n) (hij : i ≠ j) : gA p i ≠ gA p j := fun e => by
  have nd : p.toList.Nodup := (List.Perm.nodup_iff h).mpr List.nodup_range
  have a := gA_get (p := p) (k := i) (by rw [h.size]; exact hi)
  have b := gA_get (p := p) (k := j) (by rw [h.size]; exact hj)
  rw [e, ← b] at a
  exact hij ((List.getElem?_inj (by rw [Array.length_toList, h.size]; exact hi) nd).mp a)
theorem Pm.perm {n : Nat} {p q : Array Nat} (h : Pm n p) (e : q.Perm p) : Pm n q := (Array.perm_iff_toList_perm.mp e).trans h
def Up (lt : Nat → Nat → Bool) (p : Array Nat) (m : Nat) : Prop := ∀ i j, i < j → j < m → lt (gA p i) (gA p j) = true
def Dn (lt : Nat → Nat → Bool) (p : Array Nat) (m : Nat) : Prop := ∀ i j, i < j → j < m → lt (gA p j) (gA p i) = true
section
variable {n : Nat} {lt : Nat → Nat → Bool} (O : SOrd n lt)
include O
theorem asc_up {p : Array Nat} (hp : Pm n p) : ∀ f a, 1 ≤ a → a + f ≤ n → Up lt p a → a ≤ runT lt (kas_asc p f a) ∧ runT lt (kas_asc p f a) ≤ a + f ∧ Up lt p (runT lt (kas_asc p f a)) ∧
    (runT lt (kas_asc p f a) < a + f → lt (gA p (runT lt (kas_asc p f a))) (gA p (runT lt (kas_asc p f a) - 1)) = true)
  | 0, a, _, _, u => ⟨Nat.le_refl _, Nat.le_refl _, u, fun z => absurd z (Nat.lt_irrefl _)⟩
  | f + 1, a, h1, hn, u => by
    show a ≤ runT lt (if lt (gA p a) (gA p (a - 1)) = true then .ret a else kas_asc p f (a + 1)) ∧ runT lt (if lt (gA p a) (gA p (a - 1)) = true then .ret a else kas_asc p f (a + 1)) ≤ a + (f + 1) ∧ Up lt p (runT lt (if lt (gA p a) (gA p (a - 1)) = true then .ret a else kas_asc p f (a + 1))) ∧
      (runT lt (if lt (gA p a) (gA p (a - 1)) = true then .ret a else kas_asc p f (a + 1)) < a + (f + 1) → lt (gA p (runT lt (if lt (gA p a) (gA p (a - 1)) = true then .ret a else kas_asc p f (a + 1)))) (gA p (runT lt (if lt (gA p a) (gA p (a - 1)) = true then .ret a else kas_asc p f (a + 1)) - 1)) = true)
    by_cases c : lt (gA p a) (gA p (a - 1)) = true
    · rw [if_pos c]
      exact ⟨Nat.le_refl _, by show a ≤ _; omega, u, fun _ => c⟩
    · rw [if_neg c]
      have c' : lt (gA p (a - 1)) (gA p a) = true := O.tri _ _ (hp.lt (by omega)) (hp.lt (by omega)) (hp.ne (by omega) (by omega) (by omega)) (by simpa using c)
      obtain ⟨r1, r2, r3, r4⟩ := asc_up hp f (a + 1) (by omega) (by omega) fun i j hij hj => by
        by_cases e : j = a
        · subst e
          by_cases e' : i = j - 1
          · rw [e']
            exact c'
          · exact O.tr _ _ _ (u i (j - 1) (by omega) (by omega)) c'
        · exact u i j hij (by omega)
      exact ⟨by omega, by omega, r3, fun z => r4 (by omega)⟩
theorem desc_dn {p : Array Nat} (hp : Pm n p) : ∀ f a, 1 ≤ a → a + f ≤ n → Dn lt p a → ∃ m, runT lt (kas_desc f p a 0) = (p, m, 0) ∧ a ≤ m ∧ m ≤ a + f ∧ Dn lt p m
  | 0, a, _, _, u => ⟨a, rfl, Nat.le_refl _, Nat.le_refl _, u⟩
  | f + 1, a, h1, hn, u => by
    have e : runT lt (kas_desc (f + 1) p a 0) = runT lt (if lt (gA p a) (gA p (a - 1)) = true then (if 0 > 0 then kas_desc f (kas_rev p (a - (0 + 1)) a) (a + 1) 0 else kas_desc f p (a + 1) 0)
      else .ask (gA p (a - 1)) (gA p a) fun d => if d = true then .ret (p, a, 0) else kas_desc f p (a + 1) (0 + 1)) := rfl
    rw [e]
    by_cases c : lt (gA p a) (gA p (a - 1)) = true
    · rw [if_pos c, if_neg (Nat.lt_irrefl 0)]
      obtain ⟨m, r1, r2, r3, r4⟩ := desc_dn hp f (a + 1) (by omega) (by omega) fun i j hij hj => by
        by_cases e : j = a
        · subst e
          by_cases e' : i = j - 1
          · rw [e']
            exact c
          · exact O.tr _ _ _ c (u i (j - 1) (by omega) (by omega))
        · exact u i j hij (by omega)
      exact ⟨m, r1, by omega, by omega, r4⟩
    · rw [if_neg c]
      have c' : lt (gA p (a - 1)) (gA p a) = true := O.tri _ _ (hp.lt (by omega)) (hp.lt (by omega)) (hp.ne (by omega) (by omega) (by omega)) (by simpa using c)
      show ∃ m, runT lt (if lt (gA p (a - 1)) (gA p a) = true then .ret (p, a, 0) else kas_desc f p (a + 1) (0 + 1)) = (p, m, 0) ∧ _
      rw [if_pos c']
      exact ⟨a, rfl, Nat.le_refl _, by omega, u⟩
omit O in
theorem rev_at {p : Array Nat} {m : Nat} (h : m ≤ p.size) (k : Nat) : gA (kas_rev p 0 m) k = if k < m then gA p (m - 1 - k) else gA p k := by
  unfold gA kas_rev
  rw [Array.getD_eq_getD_getElem?, Array.getD_eq_getD_getElem?, Array.getD_eq_getD_getElem?, getElem?_mirror_all h]
  by_cases c : k < m
  · rw [if_pos ⟨Nat.zero_le _, c⟩, if_pos c, Nat.zero_add]
  · rw [if_neg (fun z => c z.2), if_neg c]
theorem tail_up {p : Array Nat} (hp : Pm n p) {m : Nat} (h1 : 1 ≤ m) (hm : m ≤ n) (d : Dn lt p m) : 1 ≤ (runT lt (kas_tail3 m n p)).1 ∧ (runT lt (kas_tail3 m n p)).1 ≤ n ∧ Pm n (runT lt (kas_tail3 m n p)).2 ∧ Up lt (runT lt (kas_tail3 m n p)).2 (runT lt (kas_tail3 m n p)).1 := by
  have hq : Pm n (kas_rev p 0 m) := hp.perm (mirror_perm _ _ _ _)
  have hs := hp.size
  have u : Up lt (kas_rev p 0 m) m := fun i j hij hj => by
    rw [rev_at (by omega), rev_at (by omega), if_pos (by omega), if_pos hj]
    exact d _ _ (by omega) (by omega)
  unfold kas_tail3
  rw [runT_bind]
  obtain ⟨r1, r2, r3, _⟩ := asc_up O hq (n - m) m h1 (by omega) u
  exact ⟨Nat.le_trans h1 r1, by show runT lt (kas_asc (kas_rev p 0 m) (n - m) m) ≤ n; omega, hq, r3⟩
theorem count_up (h0 : 1 ≤ n) {p : Array Nat} (hp : Pm n p) : 1 ≤ (runT lt (kas_count n p)).1 ∧ (runT lt (kas_count n p)).1 ≤ n ∧ Pm n (runT lt (kas_count n p)).2 ∧ Up lt (runT lt (kas_count n p)).2 (runT lt (kas_count n p)).1 := by
  unfold kas_count
  rw [runT_bind]
  obtain ⟨r1, r2, r3, r4⟩ := asc_up O hp (n - 1) 1 (Nat.le_refl _) (by omega) fun i j hij hj => by omega
  generalize runT lt (kas_asc p (n - 1) 1) = a at r1 r2 r3 r4
  by_cases e : a = n
  · rw [if_pos (by simp [e])]
    exact ⟨r1, by show a ≤ n; omega, hp, r3⟩
  · rw [if_neg (by simp [e])]
    by_cases g : a > 1
    · rw [if_pos g]
      have c : lt (gA p 0) (gA p (a - 1)) = true := r3 0 (a - 1) (by omega) (by omega)
      show 1 ≤ (runT lt (if lt (gA p 0) (gA p (a - 1)) = true then .ret (a, p) else kas_descPart a n (kas_rev p 0 a))).1 ∧ (runT lt (if lt (gA p 0) (gA p (a - 1)) = true then .ret (a, p) else kas_descPart a n (kas_rev p 0 a))).1 ≤ n ∧ Pm n (runT lt (if lt (gA p 0) (gA p (a - 1)) = true then .ret (a, p) else kas_descPart a n (kas_rev p 0 a))).2 ∧ Up lt (runT lt (if lt (gA p 0) (gA p (a - 1)) = true then .ret (a, p) else kas_descPart a n (kas_rev p 0 a))).2 (runT lt (if lt (gA p 0) (gA p (a - 1)) = true then .ret (a, p) else kas_descPart a n (kas_rev p 0 a))).1
      rw [if_pos c]
      exact ⟨r1, by show a ≤ n; omega, hp, r3⟩
    · rw [if_neg g]
      have e1 : a = 1 := by omega
      subst e1
      have c := r4 (by omega)
      obtain ⟨m, q1, q2, q3, q4⟩ := desc_dn O hp (n - (1 + 1)) (1 + 1) (by omega) (by omega) fun i j hij hj => by
        have e1 : i = 0 := by omega
        have e2 : j = 1 := by omega
        rw [e1, e2]
        exact c
      unfold kas_descPart
      rw [runT_bind, q1]
      show 1 ≤ (runT lt (if (0 : Nat) > 0 then kas_tail3 m n (kas_rev p (m - (0 + 1)) m) else kas_tail3 m n p)).1 ∧ (runT lt (if (0 : Nat) > 0 then kas_tail3 m n (kas_rev p (m - (0 + 1)) m) else kas_tail3 m n p)).1 ≤ n ∧ Pm n (runT lt (if (0 : Nat) > 0 then kas_tail3 m n (kas_rev p (m - (0 + 1)) m) else kas_tail3 m n p)).2 ∧ Up lt (runT lt (if (0 : Nat) > 0 then kas_tail3 m n (kas_rev p (m - (0 + 1)) m) else kas_tail3 m n p)).2 (runT lt (if (0 : Nat) > 0 then kas_tail3 m n (kas_rev p (m - (0 + 1)) m) else kas_tail3 m n p)).1
      rw [if_neg (Nat.lt_irrefl 0)]
      exact tail_up O hp (by omega) (by omega) q4
theorem place_up {p : Array Nat} (hp : Pm n p) {k : Nat} (hk : k < n) (u : Up lt p k) : ∀ f l r, l ≤ r → r ≤ k → r - l ≤ f → (∀ i, i < l → lt (gA p i) (gA p k) = true) → (∀ i, r ≤ i → i < k → lt (gA p k) (gA p i) = true) →
    runT lt (kas_place p k f l r) ≤ k ∧ (∀ i, i < runT lt (kas_place p k f l r) → lt (gA p i) (gA p k) = true) ∧ (∀ i, runT lt (kas_place p k f l r) ≤ i → i < k → lt (gA p k) (gA p i) = true)
  | 0, l, r, h1, h2, h3, a, b => ⟨by show l ≤ k; omega, a, fun i hi hk' => b i (by have : l ≤ i := hi; omega) hk'⟩
  | f + 1, l, r, h1, h2, h3, a, b => by
    unfold kas_place
    by_cases c : l ≥ r
    · rw [if_pos c]
      exact ⟨by show l ≤ k; omega, a, fun i hi hk' => b i (by have : l ≤ i := hi; omega) hk'⟩
    · rw [if_neg c]
      show runT lt (if lt (gA p k) (gA p ((l + r) / 2)) = true then kas_place p k f l ((l + r) / 2) else kas_place p k f ((l + r) / 2 + 1) r) ≤ k ∧ (∀ i, i < runT lt (if lt (gA p k) (gA p ((l + r) / 2)) = true then kas_place p k f l ((l + r) / 2) else kas_place p k f ((l + r) / 2 + 1) r) → _) ∧ (∀ i, runT lt (if lt (gA p k) (gA p ((l + r) / 2)) = true then kas_place p k f l ((l + r) / 2) else kas_place p k f ((l + r) / 2 + 1) r) ≤ i → _)
      by_cases d : lt (gA p k) (gA p ((l + r) / 2)) = true
      · rw [if_pos d]
        refine place_up hp hk u f l ((l + r) / 2) (by omega) (by omega) (by omega) a fun i hi hik => ?_
        by_cases e : i = (l + r) / 2
        · rw [e]
          exact d
        · exact O.tr _ _ _ d (u _ i (by omega) hik)
      · rw [if_neg d]
        have d' : lt (gA p ((l + r) / 2)) (gA p k) = true := O.tri _ _ (hp.lt hk) (hp.lt (by omega)) (hp.ne hk (by omega) (by omega)) (by simpa using d)
        refine place_up hp hk u f ((l + r) / 2 + 1) r (by omega) h2 (by omega) (fun i hi => ?_) b
        by_cases e : i = (l + r) / 2
        · rw [e]
          exact d'
        · exact O.tr _ _ _ (u i _ (by omega) (by omega)) d'
theorem bin_up : ∀ f (p : Array Nat) k, Pm n p → k + f = n → Up lt p k → Pm n (runT lt (kas_bin f p k)) ∧ Up lt (runT lt (kas_bin f p k)) n
  | 0, p, k, hp, hk, u => ⟨hp, by have e : k = n := hk; rw [← e]; exact u⟩
  | f + 1, p, k, hp, hk, u => by
    unfold kas_bin
    rw [runT_bind]
    obtain ⟨r1, r2, r3⟩ := place_up O hp (by omega) u k 0 k (Nat.zero_le _) (Nat.le_refl _) (by omega) (fun i hi => absurd hi (Nat.not_lt_zero _)) fun i hi hik => absurd hik (by omega)
    generalize runT lt (kas_place p k k 0 k) = l at r1 r2 r3
    have hs := hp.size
    have at_ : ∀ j, gA (bubble p k (k - l)) j = if j = l then gA p k else if l < j ∧ j ≤ k then gA p (j - 1) else gA p j := fun j => by
      unfold gA
      rw [Array.getD_eq_getD_getElem?, getElem?_bubble (by omega) _ (by omega)]
      have e : k - (k - l) = l := by omega
      rw [e]
      split
      · rw [Array.getD_eq_getD_getElem?]
      · split
        · rw [Array.getD_eq_getD_getElem?]
        · rw [Array.getD_eq_getD_getElem?]
    refine bin_up f _ (k + 1) (hp.perm (bubble_perm _ _ _)) (by omega) fun i j hij hj => ?_
    rw [at_, at_]
    by_cases e1 : i = l
    · rw [if_pos e1, if_neg (by omega), if_pos (by omega)]
      exact r3 _ (by omega) (by omega)
    · rw [if_neg e1]
      by_cases e2 : j = l
      · rw [if_pos e2, if_neg (by omega)]
        exact r2 i (by omega)
      · rw [if_neg e2]
        by_cases e3 : l < i
        · rw [if_pos ⟨e3, by omega⟩, if_pos (by omega)]
          exact u _ _ (by omega) (by omega)
        · rw [if_neg (fun z => e3 z.1)]
          by_cases e4 : l < j
          · rw [if_pos ⟨e4, by omega⟩]
            by_cases e5 : i = j - 1
            · omega
            · exact u _ _ (by omega) (by omega)
          · rw [if_neg (fun z => e4 z.1)]
            exact u _ _ hij (by omega)
theorem sort_up (h0 : 1 ≤ n) : Pm n (runT lt (kas_sort n)) ∧ Up lt (runT lt (kas_sort n)) n := by
  unfold kas_sort
  rw [runT_bind]
  obtain ⟨r1, r2, r3, r4⟩ := count_up O h0 (p := List.toArray (List.range n)) (by show List.Perm _ _; exact List.Perm.refl _)
  generalize runT lt (kas_count n (List.toArray (List.range n))) = c at r1 r2 r3 r4
  by_cases e : c.1 < n
  · rw [if_pos e, Nat.max_eq_left r1]
    exact bin_up O _ _ _ r3 (by omega) r4
  · rw [if_neg e]
    have e' : c.1 = n := by omega
    rw [e'] at r4
    exact ⟨r3, r4⟩
end
/-- such a list, sorted: the same things, in order -/
theorem srt_ok {α : Type} [Inhabited α] {lt : α → α → Bool} (tri : ∀ a b, a ≠ b → lt a b = false → lt b a = true) (tr : ∀ a b c, lt a b = true → lt b c = true → lt a c = true) {xs : List α} (nd : xs.Nodup) (h0 : 1 ≤ xs.length) :
    (srtBy lt xs).Perm xs ∧ (srtBy lt xs).Pairwise (fun a b => lt a b = true) := by
  have at_ : ∀ i (h : i < xs.length), xs.getD i default = xs[i] := fun i h => by
    rw [List.getD_eq_getElem?_getD, List.getElem?_eq_getElem h]
    rfl
  have O : SOrd xs.length (fun i j => lt (xs.getD i default) (xs.getD j default)) := ⟨fun i j hi hj hij c => tri _ _ (fun e => by
    rw [at_ i hi, at_ j hj] at e
    exact hij ((List.getElem?_inj hi nd).mp (by rw [List.getElem?_eq_getElem hi, List.getElem?_eq_getElem hj, e]))) c, fun i j k a b => tr _ _ _ a b⟩
  obtain ⟨p, u⟩ := sort_up O h0
  unfold srtBy
  generalize runT (fun i j => lt (xs.getD i default) (xs.getD j default)) (kas_sort xs.length) = q at p u
  constructor
  · have e := List.Perm.map (fun i => xs.getD i default) p
    refine e.trans ?_
    have e2 : (List.range xs.length).map (fun i => xs.getD i default) = xs := by
      apply List.ext_getElem
      · simp
      · intro i h1 h2
        rw [List.getElem_map, List.getElem_range, at_ i h2]
    rw [e2]
  · rw [List.pairwise_map, List.pairwise_iff_getElem]
    intro i j hi hj hij
    have hi' : i < xs.length := by
      rw [Array.length_toList, p.size] at hi
      exact hi
    have hj' : j < xs.length := by
      rw [Array.length_toList, p.size] at hj
      exact hj
    have ei := gA_get (p := q) (k := i) (by rw [p.size]; exact hi')
    have ej := gA_get (p := q) (k := j) (by rw [p.size]; exact hj')
    rw [List.getElem?_eq_getElem hi] at ei
    rw [List.getElem?_eq_getElem hj] at ej
    rw [Option.some.inj ei, Option.some.inj ej]
    exact u i j hij hj'
theorem srt_one {α : Type} {lt : α → α → Bool} (asym : ∀ a b, lt a b = true → lt b a = true → False) : ∀ {xs ys : List α}, xs.Perm ys → xs.Pairwise (fun a b => lt a b = true) → ys.Pairwise (fun a b => lt a b = true) → xs = ys
  | [], ys, p, _, _ => (List.Perm.nil_eq p)
  | x :: xs, [], p, _, _ => absurd (List.Perm.length_eq p) (by simp)
  | x :: xs, y :: ys, p, h1, h2 => by
    have e : x = y := by
      rcases List.mem_cons.mp ((List.Perm.mem_iff p).mp List.mem_cons_self) with e | e
      · exact e
      · rcases List.mem_cons.mp ((List.Perm.mem_iff p).mpr (List.mem_cons_self (a := y) (l := ys))) with e' | e'
        · exact e'.symm
        · exact (asym x y ((List.pairwise_cons.mp h1).1 y e') ((List.pairwise_cons.mp h2).1 x e)).elim
    subst e
    rw [srt_one asym ((List.perm_cons x).mp p) (List.pairwise_cons.mp h1).2 (List.pairwise_cons.mp h2).2]
end L2

set_option maxHeartbeats 1000000
/-! the items of a dict, whatever its keys -/
namespace L2
open PySem PySem.Spec PyProof.Rows PySem.W
abbrev ItObj (own : Value) (f : Bool) (d : Addr) (i n ep : Nat) (ok ov : Value) : Obj := { cls := .type "dict_itemiterator", dict := none, data := .fields #[own, .bool f, .ref d, .int i 0, .int n 0, .int ep 0, ok, ov], slots := #[] }
/-- the iterator at it has told i of n items -/
def ItAt (h : Heap) (it d : Addr) (i n ep : Nat) : Prop := ∃ own f ok ov, h.get? it = some (ItObj own f d i n ep ok ov) ∧ (own = .none ∨ ∃ a oa, own = rawInt (a : Nat) ∧ a ≠ it ∧ h.get? a = some oa)
def RawD (h : Heap) (d : Addr) (es : Array DictEntry) (ep : Nat) : Prop := ∃ od, h.get? d = some od ∧ od.ExactDict ∧ od.data = .dict es ep
section
variable {prog : Program} {w : World} {A : Around} {E : Value → Shared → Prop} {s : Shared} {it d : Addr} {i ep : Nat} {es : Array DictEntry}
/-- the tuples at as are the first entries -/
def Tups (h : Heap) (es : Array DictEntry) (as : List Addr) : Prop := ∀ (j : Nat) (a : Addr), as[j]? = some a → ∃ e, es[j]? = some e ∧ h.get? a = some { cls := .type "tuple", data := .seq #[e.key, e.val] }
end
end L2

set_option maxHeartbeats 1000000
/-! the keys of a dict, whatever they are -/
namespace L2
open PySem PySem.Spec PyProof.Rows PySem.W
section
variable {prog : Program} {w : World} {A : Around} {E : Value → Shared → Prop} {s : Shared} {it d : Addr} {i ep : Nat} {es : Array DictEntry}
theorem owns_key : Builtin.Dict_items.ownsTuple "dict_keyiterator" = false := by decide
theorem rk_make {Q : Value → Shared → Prop} (hd0 : (d == sysModules) = false) (hd : RawD s.heap d es ep)
    (hQ : Q (.ref s.heap.objs.size) { s with heap := s.heap.push { cls := .type "dict_keyiterator", data := .fields #[.ref d, .int 0 0, .int es.size 0, .int ep 0] } }) : wpAny (model prog w) A (pyIter (.ref d)) Q E s := by
  obtain ⟨od, e2, hc, d2⟩ := hd
  have hT : s.TypeIs (.ref d) "dict" := ⟨od, e2, hc.1⟩
  refine wpAny_pyIter_slot hT PySem.F.slot_dict_iter (wpAny_call_entry PySem.F.slot_dict_iter hT PySem.F.entry_dict_iter ?_ (PySem.F.args_dict_iter_1 _))
  unfold Builtin.«dict.__iter__» Builtin.Dict.dictSlotNone
  refine wpAny_bind (wpAny_bind (wpAny_notOrdered_dict hT ?_))
  refine wpAny_pure ?_
  show wpAny _ _ (Builtin.Dict.showsAll d >>= fun _ => _) _ _ s
  unfold Builtin.Dict.showsAll
  rw [if_neg (by rw [hd0]; exact Bool.false_ne_true)]
  refine wpAny_bind (wpAny_pure (wpAny_bind (wpAny_dictEntries e2 d2 (wpAny_bind (wpAny_dictEpoch e2 d2 ?_)))))
  refine wpAny_bind (wpAny_newObj_type (wpAny_pure ⟨_, rfl, "dict_keyiterator", _, ⟨_, Heap.get?_push_size _ rfl, rfl⟩, PySem.F.slot_dict_keyiterator_next.lookup, ?_⟩))
  simpa [rawInt] using hQ
theorem rk_next {e : DictEntry} {Q : Option Value → Shared → Prop} (hit : s.heap.IsKeyIter it d i es.size ep) (hd : RawD s.heap d es ep) (hx : es[i]? = some e)
    (hQ : ∀ h', h'.IsKeyIter it d (i + 1) es.size ep → Heap.SameBut it s.heap h' → Q (some e.key) { s with heap := h' }) : wpAny (model prog w) A (pyNext (.ref it)) Q E s := by
  obtain ⟨oi, h1, hc, hf⟩ := id hit
  obtain ⟨od, hod, _, hdd⟩ := hd
  have ty := hit.typeIs
  unfold pyNext
  refine wpAny_bind (wpAny_attempt (wpAny_callSpecial?_slot (name := Str.ofString "__next__") ty PySem.F.slot_dict_keyiterator_next (wpAny_call_entry PySem.F.slot_dict_keyiterator_next ty PySem.F.entry_dict_keyiterator_next ?_ (PySem.F.args_dict_keyiterator_next_1 _))))
  refine wpAny_bind (wpAny_pure (wpAny_bind (wpAny_bind ?_)))
  first | refine wpAny_bind (wpAny_typeNameOfWhole_keyiter ty (wpAny_pure ?_)) | refine wpAny_bind (wpAny_typeNameOf_keyiter ty (wpAny_pure ?_))
  refine wpAny_bind (wpAny_fieldsOf h1 hf ?_)
  simp only [owns_key, Bool.false_eq_true, if_false]
  show wpAny _ _ (if (Value.ref d == Value.none) = true then _ else (_ : Sem (Option (Array DictEntry × Int)))) _ _ s
  rw [if_neg (show ¬ ((Value.ref d == Value.none) = true) by intro z; cases z)]
  refine wpAny_bind (wpAny_pure (wpAny_bind (wpAny_dictEntries hod hdd ?_)))
  rw [if_neg (by simp)]
  refine wpAny_bind (wpAny_pure (wpAny_bind (wpAny_dictEpoch hod hdd ?_)))
  rw [if_neg (by simp)]
  refine wpAny_pure ?_
  simp only [show ¬ ((i : Int) < 0) by omega, if_false, Int.toNat_natCast, hx]
  refine wpAny_bind ?_
  first | refine wpAny_bind (wpAny_typeNameOfWhole_keyiter ty (wpAny_pure ?_)) | refine wpAny_bind (wpAny_typeNameOf_keyiter ty (wpAny_pure ?_))
  refine wpAny_bind (wpAny_isOneOf_keyiter ty ?_)
  show wpAny _ _ (setField (.ref it) 1 (rawInt ((i : Int) + 1)) >>= fun _ => _) _ _ s
  refine wpAny_bind (wpAny_setField h1 hf (by simp) ?_)
  have hit' : (s.heap.update it (Obj.mapFields (·.setIfInBounds 1 (rawInt ((i : Int) + 1))))).IsKeyIter it d (i + 1) es.size ep :=
    ⟨_, Heap.get?_update_self _ h1 (Obj.isFreed_of_fields (Obj.data_mapFields hf _)), (Obj.cls_mapFields ..).trans hc, by rw [Obj.data_mapFields hf]; simp [rawInt]⟩
  refine wpAny_bind (wpAny_holding (wpAny_bind (wpAny_isOneOf_keyiter (s := { s with heap := s.heap.update it (Obj.mapFields (·.setIfInBounds 1 (rawInt ((i : Int) + 1)))) }) hit'.typeIs ?_)))
  show wpAny _ _ (pure e.key) _ _ _
  exact wpAny_pure (wpAny_pure ⟨_, rfl, wpAny_pure (hQ _ hit' (Heap.SameBut.update ..))⟩)
theorem rk_end {Q : Option Value → Shared → Prop} (hh : A.handled = none) (hit : s.heap.IsKeyIter it d i es.size ep) (hd : RawD s.heap d es ep) (hx : es.size ≤ i)
    (hQ : ∀ h', Heap.ExtBut it s.heap h' → Q none { s with heap := h' }) : wpAny (model prog w) A (pyNext (.ref it)) Q E s := by
  obtain ⟨oi, h1, hc, hf⟩ := id hit
  obtain ⟨od, hod, _, hdd⟩ := hd
  have ty := hit.typeIs
  unfold pyNext
  refine wpAny_bind (wpAny_attempt (wpAny_callSpecial?_slot (name := Str.ofString "__next__") ty PySem.F.slot_dict_keyiterator_next (wpAny_call_entry PySem.F.slot_dict_keyiterator_next ty PySem.F.entry_dict_keyiterator_next ?_ (PySem.F.args_dict_keyiterator_next_1 _))))
  refine wpAny_bind (wpAny_pure (wpAny_bind (wpAny_bind ?_)))
  first | refine wpAny_bind (wpAny_typeNameOfWhole_keyiter ty (wpAny_pure ?_)) | refine wpAny_bind (wpAny_typeNameOf_keyiter ty (wpAny_pure ?_))
  refine wpAny_bind (wpAny_fieldsOf h1 hf ?_)
  simp only [owns_key, Bool.false_eq_true, if_false]
  show wpAny _ _ (if (Value.ref d == Value.none) = true then _ else (_ : Sem (Option (Array DictEntry × Int)))) _ _ s
  rw [if_neg (show ¬ ((Value.ref d == Value.none) = true) by intro z; cases z)]
  refine wpAny_bind (wpAny_pure (wpAny_bind (wpAny_dictEntries hod hdd ?_)))
  rw [if_neg (by simp)]
  refine wpAny_bind (wpAny_pure (wpAny_bind (wpAny_dictEpoch hod hdd ?_)))
  rw [if_neg (by simp)]
  refine wpAny_pure ?_
  simp only [show ¬ ((i : Int) < 0) by omega, if_false, Int.toNat_natCast, Array.getElem?_eq_none hx]
  refine wpAny_bind ?_
  first | refine wpAny_bind (wpAny_typeNameOfWhole_keyiter ty (wpAny_pure ?_)) | refine wpAny_bind (wpAny_typeNameOf_keyiter ty (wpAny_pure ?_))
  show wpAny _ _ (setField (.ref it) 0 .none >>= fun _ => _) _ _ s
  refine wpAny_bind (wpAny_setField h1 hf (by simp) ?_)
  show wpAny _ _ (newExc (.type "StopIteration") [] >>= fun _ => _) _ _ _
  refine wpAny_bind ?_
  simp only [newExc, newTuple]
  refine wpAny_bind (wpAny_newObj_type (wpAny_bind (m := firstArgMember _ _) (wpAny_of_eq (a := Value.none) (by first | rfl | (simp only [firstArgMember]; rfl)) (wpAny_newObj_type ?_ (by size_fits)))) (by size_fits))
  simp only [raiseNew]
  refine wpAny_bind (wpAny_handled ?_)
  rw [show A.in1.handled = none from hh]
  refine wpAny_bind (wpAny_pure (wpAny_throw ?_)); refine wpAny_bind (wpAny_isInstance (T := "StopIteration") (b := true) ⟨_, Heap.get?_push_size _ rfl, rfl⟩ isSubtype_stop ?_)
  exact wpAny_pure (hQ _ (((Heap.SameBut.update ..).extBut.push _).push _))
end
end L2

set_option maxHeartbeats 1000000
/-! dicts whose keys are names: walked, their items sorted -/
namespace L2
open PySem PySem.Spec PyProof.Rows PySem.W
/-- the dict at a lies still, as o -/
def Fz (a : Addr) (o : Obj) : HO := .ext fun h => h.get? a = some o
def FzD (P : Program) (w : World) (H : Hp) (a : Addr) (o : Obj) (kvs : List (List Key × V)) : Prop :=
  kvs.length ≤ sizeLine ∧ (a == sysModules) = false ∧ ∃ xs es ep, KT H kvs xs ∧ o.ExactDict ∧ o.data = .dict es ep ∧ es.toList = xs.map (entryOfKey (tupleKind (mixKind P w))) ∧ (xs.map (·.1)).Nodup
theorem FzD.keep {P : Program} {w : World} {H H' : Hp} {a : Addr} {o : Obj} {kvs : List (List Key × V)} (e : TSame H H') (f : FzD P w H a o kvs) : FzD P w H' a o kvs := by
  obtain ⟨z, hd, xs, es, ep, r, q⟩ := f
  exact ⟨z, hd, xs, es, ep, r.keeps e, q⟩
section
variable {X : Cx} {pins : List (Addr × Obj)} {σ : St} {H : Hp} {s : Shared} {a : Addr} {o : Obj} {kvs : List (List Key × V)}
theorem fz_inv (I : Inv X pins σ H s) (e : H a = some (.dT kvs)) : ∃ o, Inv X pins σ (upd H a (Fz a o)) s ∧ FzD X.prog X.w (upd H a (Fz a o)) a o kvs ∧ s.heap.get? a = some o := by
  obtain ⟨z, hd, xs, r, o, es, ep, h1, h2, h3, h4, h5⟩ := (show ObjOk X.prog X.w H s.heap a (.dT kvs) from I.hok a _ e)
  refine ⟨o, I.write (x := a) (e := a) (h' := s.heap) (t' := s.toks) (by rw [e]; exact True.intro) (.inl rfl) (fun b u _ q => q) ⟨_, h1⟩ ⟨h1, ⟨_, h1⟩, fun g1 g2 p k => k _ p⟩, ⟨z, hd, xs, es, ep, KT.keeps (H := H) r fun b ys q => ?_, h2, h3, h4, h5⟩, h1⟩
  rw [upd_ne (ne_of q e (fun z => nomatch z))]
  exact q
theorem th_inv (I : Inv X pins σ H s) (e : H a = some (Fz a o)) (f : FzD X.prog X.w H a o kvs) : Inv X pins σ (upd H a (.dT kvs)) s := by
  obtain ⟨z, hd, xs, es, ep, r, h2, h3, h4, h5⟩ := f
  obtain ⟨h1, _⟩ := (show ObjOk X.prog X.w H s.heap a (Fz a o) from I.hok a _ e)
  refine I.write (x := a) (e := a) (h' := s.heap) (t' := s.toks) (by rw [e]; exact True.intro) (.inl rfl) (fun b u _ q => q) ⟨_, h1⟩ ⟨z, hd, xs, r.keeps fun b ys q => ?_, o, es, ep, h1, h2, h3, h4, h5⟩
  rw [upd_ne (ne_of q e (fun z => nomatch z))]
  exact q
theorem fz_dict (I : Inv X pins σ H s) (e : H a = some (Fz a o)) (f : FzD X.prog X.w H a o kvs) : (a == sysModules) = false ∧ ∃ xs, KT H kvs xs ∧ s.heap.DictOfH (tupleKind (mixKind X.prog X.w)) a xs := by
  obtain ⟨_, hd, xs, r, dd⟩ := dt_of (th_inv I e f).hok upd_same
  refine ⟨hd, xs, r.keeps fun b ys q => ?_, dd⟩
  by_cases hb : b = a
  · rw [hb, upd_same] at q
    cases q
  · rw [upd_ne hb] at q
    exact q
end
/-- thawed behind -/
def tThaw (P : Program) (w : World) (t : TE) : TE := fun σ H Q => t σ H fun v H1 => ∃ a o kvs, H1 a = some (Fz a o) ∧ FzD P w H1 a o kvs ∧ Q v (upd H1 a (.dT kvs))
theorem pe_thaw {X : Cx} {e : Expr} {t : TE} (he : PE X e t) : PE X e (tThaw X.prog X.w t) := by
  intro pins s σ H Q I h
  refine thn (he pins s σ H _ I h) fun u s1 ⟨x, H1, I1, rx, a, o, kvs, e1, f, q⟩ => ?_
  exact ⟨x, _, th_inv I1 e1 f, rx, q⟩
/-- d[k], the dict still -/
def tDGetF (P : Program) (w : World) (td ty : TE) : TE := fun σ H Q => td σ H fun x H1 => ty σ H1 fun y H2 => ∃ a o kvs k b v, x = .ref a ∧ y = .ref b ∧ H2 a = some (Fz a o) ∧ FzD P w H2 a o kvs ∧ H2 b = some (.tup (List.map kV k)) ∧ valV kvs k = some v ∧ Q v H2
theorem pe_dgetF {X : Cx} {o i : Expr} {pos : Pos} {td ty : TE} (hu : X.A.units + 1 < cLine) (ho : PE X o td) (hi : PE X i ty) (hs : NoSl i) : PE X (.Subscript o i pos) (tDGetF X.prog X.w td ty) := by
  intro pins s σ H Q I h
  refine subD_of PySem.F.slot_dict_getitem.lookup hs (thn (ho pins s σ H _ I h) fun u s1 ⟨x, H1, I1, rx, q1⟩ => thn (hi pins s1 σ H1 _ I1 q1) fun iv s2 ⟨y, H2, I2, ry, a, ob, kvs, k, b, v, ex, ey, e1, f, eb, l, q2⟩ => ?_)
  subst ex ey
  obtain rfl : u = Value.ref a := rx
  obtain rfl : iv = Value.ref b := ry
  obtain ⟨_, xs, rel, dd⟩ := fz_dict I2 e1 f
  obtain ⟨w', hw, rw'⟩ := RelO.some_of (v := v) (o := (atKey xs k).map (·.2)) (by rw [← l]; exact rel.val k)
  obtain ⟨p, hp, hp2⟩ := Option.map_eq_some_iff.mp hw
  refine ⟨dd.typeIs, wpAny_getItem_heap (tupleKind_room_in1 hu) (key_of I2.hok eb) dd hp ?_⟩
  rw [hp2]
  exact ⟨v, H2, I2.tok _, rw', q2⟩
/-- the keys of the dict at a, in turn -/
def Itk (a : Addr) (o : Obj) : It :=
  ⟨fun i H => H a = some (Fz a o) ∧ ∃ es ep h b v, o.data = .dict es ep ∧ es[i]? = some ⟨h, .ref b, v⟩, fun i H x H' => H' = H ∧ ∃ es ep h b v, o.data = .dict es ep ∧ es[i]? = some ⟨h, .ref b, v⟩ ∧ x = .ref b,
   fun i H => H a = some (Fz a o) ∧ ∃ es ep, o.data = .dict es ep ∧ es.size ≤ i⟩
theorem turn_keys {P : Program} {w : World} {K : PySem.W.Frag} {tg : Expr} (a it : Addr) (o : Obj) (hx : o.ExactDict) : Turn P w K tg (Itk a o) [it] it (fun i h => ∃ es ep, o.data = .dict es ep ∧ h.IsKeyIter it a i es.size ep) where
  mem := by simp
  obj := fun i h st b hb => by
    have e : b = it := by simpa using hb
    subst e
    obtain ⟨_, _, _, o, e, c, d⟩ := st
    exact ⟨o, e, fun v z => by rw [d] at z; cases z⟩
  keep := fun i h h' st k => by
    obtain ⟨es, ep, d, st⟩ := st
    exact ⟨es, ep, d, st.at fun o e => k it (by simp) o e⟩
  item := by
    intro X hP hw hK hc i pins s σ H E I hf st hg
    subst hP hw hK
    obtain ⟨es, ep, hd, st⟩ := st
    obtain ⟨e0, es', ep', hh, b, v, hd', hi⟩ := hg
    rw [hd] at hd'
    cases hd'
    obtain ⟨h1, _⟩ := (show ObjOk X.prog X.w H s.heap a (Fz a o) from I.hok a _ e0)
    obtain ⟨f0, f1, f2, f3, f4, f5⟩ := hf it (by simp)
    refine rk_next st ⟨o, h1, hx, hd⟩ hi fun h' st' sb => ?_
    have I1 : Inv X pins σ H { s with heap := h' } := I.turned (t' := s.toks) (fun b o hb e => (sb.2 b hb).trans e) f0 f1 f3 f4 f5
    obtain ⟨oi, e, c, d⟩ := id st'
    exact ⟨.ref b, rfl, go_of (s := { s with heap := h' }) e c d (by decide) ⟨.ref b, H, I1, rfl, ⟨rfl, es, ep, hh, b, v, hd, hi, rfl⟩, ⟨es, ep, hd, st'⟩, fun b hb => (hf b hb).1⟩⟩
  done := by
    intro X hP hw hK hc i pins s σ H E I hf st hg
    subst hP hw hK
    obtain ⟨es, ep, hd, st⟩ := st
    obtain ⟨e0, es', ep', hd', hi⟩ := hg
    rw [hd] at hd'
    cases hd'
    obtain ⟨h1, _⟩ := (show ObjOk X.prog X.w H s.heap a (Fz a o) from I.hok a _ e0)
    obtain ⟨f0, f1, f2, f3, f4, f5⟩ := hf it (by simp)
    exact rk_end (I.ok.hd hc) st ⟨o, h1, hx, hd⟩ hi fun h' eb => ⟨rfl, I.turned (t' := s.toks) (fun b o hb e => eb b o hb e) f0 f1 f3 f4 f5⟩
  self := fun _ _ _ _ _ st h => by
    obtain ⟨es, ep, hd, st⟩ := st
    exact wpAny_pyIter_keyiter st h
def iKeys (P : Program) (w : World) (tl : TE) : TI := fun σ H R => tl σ H fun x H1 => ∃ a kvs, x = .ref a ∧ H1 a = some (.dT kvs) ∧ ∀ o, FzD P w (upd H1 a (Fz a o)) a o kvs → R (Itk a o) (upd H1 a (Fz a o))
theorem pi_keys {X : Cx} {tg l : Expr} {tl : TE} (hl : PE X l tl) : PI X tg l (iKeys X.prog X.w tl) := by
  intro pins s σ H R I h
  refine thn (hl pins s σ H _ I h) fun v s1 ⟨x, H1, I1, r1, q1⟩ => ?_
  obtain ⟨a, kvs, e, hd, q⟩ := q1
  subst e
  cases r1
  obtain ⟨o, I2, f, h1⟩ := fz_inv I1 hd
  obtain ⟨_, hs, xs, es, ep, _, h2, h3, _, _⟩ := id f
  refine rk_make hs ⟨o, h1, h2, h3⟩ ?_
  refine ⟨s1.heap.objs.size, [s1.heap.objs.size], _, _, _, rfl, I2.kept (t' := s1.toks) fun b o e => Heap.get?_push_of_some _ e, turn_keys a _ o h2, ⟨es, ep, h3, _, Heap.get?_push_size _ rfl, rfl, rfl⟩, fun b hb => ?_, q o f⟩
  have e : b = s1.heap.objs.size := by simpa using hb
  subst e
  exact I2.fpOk (Nat.le_refl _) (I2.hok.fresh (Nat.le_refl _))
section
variable {P : Program} {w : World} {a : Addr} {o : Obj} {kvs : List (List Key × V)} {tt : TT} {te : TE} {bl : St} {Fin : List V → Hp → Prop} {H : Hp}
theorem lc_keys (f : FzD P w H a o kvs) (Pv : Nat → List V → Hp → Prop) (h0 : Pv 0 [] H) (hl : ∀ i ys H', i ≤ kvs.length → Pv i ys H' → H' a = some (Fz a o) ∧ TSame H H')
    (hs : ∀ i e b ys H', kvs[i]? = some e → H' b = some (.tup (e.1.map kV)) → Pv i ys H' → tt (some (.ref b) :: bl) H' fun c H2 => if c = true then te (some (.ref b) :: bl) H2 fun y H3 => Pv (i + 1) (ys ++ [y]) H3 else Pv (i + 1) ys H2)
    (hd : ∀ ys H', Pv kvs.length ys H' → Fin ys H') :
    ∃ (W : Nat → List V → Hp → Prop) (n : Nat), W 0 [] H ∧ n ≤ sizeLine ∧ ∀ i ys H, W i ys H → ((Itk a o).stop i H ∧ Fin ys H) ∨
      ((Itk a o).go i H ∧ i < n ∧ ∀ x H', (Itk a o).yld i H x H' → tt (some x :: bl) H' fun c H2 => if c = true then te (some x :: bl) H2 fun y H3 => W (i + 1) (ys ++ [y]) H3 else W (i + 1) ys H2) := by
  obtain ⟨hn, _, xs, es, ep, r, hx, hdd, he, _⟩ := f
  have hsz : es.size = kvs.length := by rw [size_of_entries he]; exact (Paired.length r).symm
  refine ⟨fun i ys H' => i ≤ kvs.length ∧ Pv i ys H', kvs.length, ⟨Nat.zero_le _, h0⟩, hn, ?_⟩
  rintro i ys H' ⟨hi, p⟩
  obtain ⟨q, ts⟩ := hl i ys H' hi p
  by_cases hlt : i < kvs.length
  · obtain ⟨y, ey, ry⟩ := r.get1 (List.getElem?_eq_getElem hlt)
    have ee : es[i]? = some (entryOfKey (tupleKind (mixKind P w)) y) := by rw [entry_at he, ey]; rfl
    refine .inr ⟨⟨q, es, ep, _, y.2.1, y.2.2, hdd, ee⟩, hlt, fun x H2 z => ?_⟩
    obtain ⟨e, es', ep', hh, b, v, hd', hi', ex⟩ := z
    subst e ex
    rw [hdd] at hd'
    cases hd'
    rw [ee] at hi'
    have eb : y.2.1 = b := by
      have := congrArg DictEntry.key (Option.some.inj hi')
      exact Value.ref.inj this
    subst eb
    have z := hs i kvs[i] y.2.1 ys H2 (List.getElem?_eq_getElem hlt) (ts _ _ ry.2.1) p
    have e1 : (fun (c : Bool) (H2 : Hp) => if c = true then te (some (.ref y.2.1) :: bl) H2 fun y H3 => i + 1 ≤ kvs.length ∧ Pv (i + 1) (ys ++ [y]) H3 else i + 1 ≤ kvs.length ∧ Pv (i + 1) ys H2) = fun c H2 => if c = true then te (some (.ref y.2.1) :: bl) H2 fun y H3 => Pv (i + 1) (ys ++ [y]) H3 else Pv (i + 1) ys H2 := by
      have e2 : (i + 1 ≤ kvs.length) = True := eq_true hlt
      funext c H2
      simp only [e2, true_and]
    show tt _ _ _
    rw [e1]
    exact z
  · have e : i = kvs.length := by omega
    subst e
    exact .inl ⟨⟨q, es, ep, hdd, by omega⟩, hd ys H' p⟩
end
end L2

set_option maxHeartbeats 1000000
/-! items(), sorted -/
namespace L2
open PySem PySem.Spec PyProof.Rows PySem.W
def Vw (v d : Addr) : HO := .ext fun h => h.IsItemsView v d
def tItems (td : TE) : TE := fun σ H Q => td σ H fun x H1 => ∃ a kvs, x = .ref a ∧ H1 a = some (.dT kvs) ∧ ∀ v, H1 v = none → Q (.ref v) (upd H1 v (Vw v a))
/-- new tuples, beside what is -/
def updT (H : Hp) (ts : List (Addr × List V)) : Hp := fun b => match ts.find? (fun p => decide (p.1 = b)) with | some p => some (.tup p.2) | none => H b
section
variable {X : Cx} {pins : List (Addr × Obj)} {σ : St} {H : Hp} {s : Shared}
end
end L2

set_option maxHeartbeats 1000000
/-! outcomes, news -/
namespace Lo
open PySem L2
def osv : Option Str → V
  | none => .non
  | some t => .str t
/-- the outcomes es, told in order -/
def NwAt (K : PySem.W.Frag) (H : Hp) (es : List (Pa × Str)) (v : V) : Prop := ∃ t ys, v = .ref t ∧ H t = some (.tup ys) ∧ Paired (sPS K H) (srtBy ltE es) ys
section
variable (CS : Addr) (K : PySem.W.Frag)
def spOutc : Sp := fun vs H Q _ => ∃ A d v p, vs = [.ref A.l, v] ∧ St CS K H A d ∧ sPa K H p v ∧ Q (osv (endOf d.ends p)) H
def spNews : Sp := fun vs H Q _ => ∃ A d, vs = [.ref A.l] ∧ St CS K H A d ∧ d.ends.length < 64 ∧ ∀ v H', Same H H' → NwAt K H' d.ends v → Q v H'
end
end Lo

/-! a set's table -/
namespace Tb
open PySem PySem.SetTable
theorem go_spec (xs : Array Nat) (j : Nat) : ∀ fuel lo hi : Nat, hi - lo ≤ fuel → lo ≤ hi → hi ≤ xs.size → (∀ (i k a b : Nat), i ≤ k → xs[i]? = some a → xs[k]? = some b → a ≤ b) → (∀ (i a : Nat), i < lo → xs[i]? = some a → a < j) → (∀ (i a : Nat), hi ≤ i → xs[i]? = some a → j ≤ a) →
    below.go xs j fuel lo hi ≤ xs.size ∧ (∀ (i a : Nat), i < below.go xs j fuel lo hi → xs[i]? = some a → a < j) ∧ ∀ (i a : Nat), below.go xs j fuel lo hi ≤ i → xs[i]? = some a → j ≤ a
  | 0, lo, hi, hf, hl, hh, _, h1, h2 => by
    have e : lo = hi := by omega
    subst e
    exact ⟨hh, h1, h2⟩
  | fuel + 1, lo, hi, hf, hl, hh, hm, h1, h2 => by
    unfold below.go
    by_cases hlt : lo < hi
    · rw [if_pos hlt]
      have hmid : (lo + hi) / 2 < xs.size := by omega
      have e : xs[(lo + hi) / 2]? = some xs[(lo + hi) / 2] := Array.getElem?_eq_getElem hmid
      have eg : xs.getD ((lo + hi) / 2) j = xs[(lo + hi) / 2] := by simp [Array.getD, hmid]
      dsimp only
      rw [eg]
      by_cases hc : xs[(lo + hi) / 2] < j
      · rw [if_pos hc]
        refine go_spec xs j fuel _ hi (by omega) (by omega) hh hm (fun i a hi' ea => ?_) h2
        exact Nat.lt_of_le_of_lt (hm i _ a _ (by omega) ea e) hc
      · rw [if_neg hc]
        refine go_spec xs j fuel lo _ (by omega) (by omega) (by omega) hm h1 (fun i a hi' ea => ?_)
        exact Nat.le_trans (Nat.not_lt.mp hc) (hm _ i _ a hi' e ea)
    · rw [if_neg hlt]
      have e : lo = hi := by omega
      subst e
      exact ⟨hh, h1, h2⟩
def Rs (l : List Nat) : Prop := l.Pairwise (· < ·)
theorem Rs.mono {xs : Array Nat} (h : Rs xs.toList) : ∀ (i k a b : Nat), i ≤ k → xs[i]? = some a → xs[k]? = some b → a ≤ b := by
  intro i k a b hik ea eb
  rcases Nat.lt_or_eq_of_le hik with hlt | rfl
  · rw [← Array.getElem?_toList] at ea eb
    obtain ⟨h1, e1⟩ := List.getElem?_eq_some_iff.mp ea
    obtain ⟨h2, e2⟩ := List.getElem?_eq_some_iff.mp eb
    have := List.pairwise_iff_getElem.mp h i k h1 h2 hlt
    rw [← e1, ← e2]
    exact Nat.le_of_lt this
  · rw [ea] at eb; cases eb; exact Nat.le_refl _
/-- where j belongs -/
theorem below_spec {xs : Array Nat} (h : Rs xs.toList) (j : Nat) : below xs j ≤ xs.size ∧ (∀ a ∈ xs.toList.take (below xs j), a < j) ∧ ∀ a ∈ xs.toList.drop (below xs j), j ≤ a := by
  obtain ⟨h1, h2, h3⟩ := go_spec xs j xs.size 0 xs.size (by omega) (Nat.zero_le _) (Nat.le_refl _) h.mono (fun i a hi => absurd hi (by omega)) (fun i a hi e => by rw [Array.getElem?_eq_none hi] at e; cases e)
  refine ⟨h1, fun a ha => ?_, fun a ha => ?_⟩
  · obtain ⟨i, hi⟩ := List.getElem?_of_mem ha
    rw [List.getElem?_take] at hi
    split at hi
    · rename_i hlt
      exact h2 i a hlt (by rw [← Array.getElem?_toList]; exact hi)
    · cases hi
  · obtain ⟨i, hi⟩ := List.getElem?_of_mem ha
    rw [List.getElem?_drop] at hi
    exact h3 (below xs j + i) a (by show below xs j ≤ _; omega) (by rw [← Array.getElem?_toList]; exact hi)
theorem below_at {xs : Array Nat} (h : Rs xs.toList) {j : Nat} (hj : j ∈ xs.toList) : xs[below xs j]? = some j := by
  obtain ⟨h1, h2, h3⟩ := below_spec h j
  have hj' : j ∈ xs.toList.take (below xs j) ++ xs.toList.drop (below xs j) := by rw [List.take_append_drop]; exact hj
  rcases List.mem_append.mp hj' with z | z
  · exact absurd (h2 j z) (Nat.lt_irrefl _)
  · cases e : xs.toList.drop (below xs j) with
    | nil => rw [e] at z; cases z
    | cons b r =>
      have eb : xs.toList[below xs j]? = some b := by
        have : (xs.toList.drop (below xs j))[0]? = some b := by rw [e]; rfl
        rw [List.getElem?_drop] at this
        simpa using this
      have hb : j ≤ b := h3 b (by rw [e]; exact List.mem_cons_self)
      have : b = j := by
        rw [e] at z
        rcases List.mem_cons.mp z with rfl | z
        · rfl
        · have hs : Rs (b :: r) := by
            have : Rs (xs.toList.drop (below xs j)) := List.Pairwise.sublist (List.drop_sublist _ _) h
            rw [e] at this; exact this
          have := (List.pairwise_cons.mp hs).1 j z
          omega
      rw [← Array.getElem?_toList, eb, this]
theorem below_no {xs : Array Nat} (h : Rs xs.toList) {j : Nat} (hj : j ∉ xs.toList) : (xs[below xs j]? == some j) = false := by
  refine beq_eq_false_iff_ne.mpr fun e => hj ?_
  rw [← Array.getElem?_toList] at e
  exact List.mem_of_getElem? e
/-- a new one put in -/
theorem insert_rs {xs : Array Nat} (h : Rs xs.toList) {j : Nat} (hj : j ∉ xs.toList) : Rs (insertAt xs (below xs j) j).toList := by
  obtain ⟨h1, h2, h3⟩ := below_spec h j
  rw [toList_insertAt]
  refine List.pairwise_append.mpr ⟨List.Pairwise.sublist (List.take_sublist _ _) h, List.pairwise_cons.mpr ⟨fun a ha => ?_, List.Pairwise.sublist (List.drop_sublist _ _) h⟩, fun a ha b hb => ?_⟩
  · have := h3 a ha
    have hne : a ≠ j := fun e => hj (e ▸ List.mem_of_mem_drop ha)
    omega
  · have ha' := h2 a ha
    rcases List.mem_cons.mp hb with rfl | hb
    · exact ha'
    · exact Nat.lt_of_lt_of_le ha' (h3 b hb)
theorem below_next {xs : Array Nat} (h : Rs xs.toList) {k p : Nat} (hp : xs[k]? = some p) : below xs (p + 1) = k + 1 := by
  obtain ⟨h1, h2, h3⟩ := below_spec h (p + 1)
  have hk : k < xs.size := (Array.getElem?_eq_some_iff.mp hp).1
  have hp' : xs.toList[k]? = some p := by rw [Array.getElem?_toList]; exact hp
  have lo : k < below xs (p + 1) := by
    refine Nat.lt_of_not_le fun hle => ?_
    have : p ∈ xs.toList.drop (below xs (p + 1)) := by
      refine List.mem_of_getElem? (i := k - below xs (p + 1)) ?_
      rw [List.getElem?_drop]
      rw [show below xs (p + 1) + (k - below xs (p + 1)) = k by omega]
      exact hp'
    have := h3 p this
    omega
  refine Nat.le_antisymm (Nat.le_of_not_lt fun hlt => ?_) lo
  have hk1 : k + 1 < xs.toList.length := by rw [Array.length_toList]; omega
  have e1 : xs.toList[k + 1]? = some xs.toList[k + 1] := List.getElem?_eq_getElem hk1
  have m : xs.toList[k + 1] ∈ xs.toList.take (below xs (p + 1)) := by
    refine List.mem_of_getElem? (i := k + 1) ?_
    rw [List.getElem?_take, if_pos hlt]
    exact e1
  have a1 := h2 _ m
  obtain ⟨g1, g2⟩ := List.getElem?_eq_some_iff.mp hp'
  have a2 := List.pairwise_iff_getElem.mp h k (k + 1) g1 hk1 (Nat.lt_succ_self _)
  rw [g2] at a2
  omega
theorem below_zero {xs : Array Nat} (h : Rs xs.toList) : below xs 0 = 0 := by
  obtain ⟨h1, h2, h3⟩ := below_spec h 0
  refine Nat.eq_zero_of_not_pos fun hpos => ?_
  have hl : 0 < xs.toList.length := by rw [Array.length_toList]; omega
  have : xs.toList[0] ∈ xs.toList.take (below xs 0) := by
    refine List.mem_of_getElem? (i := 0) ?_
    rw [List.getElem?_take, if_pos hpos]
    exact List.getElem?_eq_getElem hl
  exact absurd (h2 _ this) (Nat.not_lt_zero _)
end Tb

namespace Tb
open PySem PySem.SetTable
/-! ### the slots that are asked, one behind the other -/
def adv (t : SetTable) (p : Probe) : Nat → Probe
  | 0 => p
  | n + 1 => adv t (t.advance p) n
def wk (t : SetTable) (p : Probe) : Nat → List Nat
  | 0 => []
  | n + 1 => p.j :: wk t (t.advance p) n
theorem adv_add (t : SetTable) : ∀ (m n : Nat) (p : Probe), adv t p (m + n) = adv t (adv t p m) n
  | 0, n, p => by rw [Nat.zero_add]; rfl
  | m + 1, n, p => by rw [show m + 1 + n = (m + n) + 1 by omega]; exact adv_add t m n (t.advance p)
theorem wk_add (t : SetTable) : ∀ (m n : Nat) (p : Probe), wk t p (m + n) = wk t p m ++ wk t (adv t p m) n
  | 0, n, p => by rw [Nat.zero_add]; rfl
  | m + 1, n, p => by
    rw [show m + 1 + n = (m + n) + 1 by omega]
    show p.j :: wk t (t.advance p) (m + n) = p.j :: (wk t (t.advance p) m ++ _)
    rw [wk_add t m n (t.advance p)]
    rfl
theorem wk_le {t : SetTable} {p : Probe} {m n : Nat} (h : m ≤ n) {s : Nat} (hs : s ∈ wk t p m) : s ∈ wk t p n := by
  obtain ⟨d, rfl⟩ : ∃ d, n = m + d := ⟨n - m, by omega⟩
  rw [wk_add]
  exact List.mem_append_left _ hs
theorem wk_len (t : SetTable) : ∀ (n : Nat) (p : Probe), (wk t p n).length = n
  | 0, _ => rfl
  | n + 1, p => by show (wk t (t.advance p) n).length + 1 = n + 1; rw [wk_len t n]
theorem adv_dummy (t : SetTable) : ∀ (n : Nat) (p : Probe), (adv t p n).dummy = p.dummy
  | 0, _ => rfl
  | n + 1, p => by
    show (adv t (t.advance p) n).dummy = _
    rw [adv_dummy t n]
    unfold advance
    split <;> rfl
/-- the state at a run's start -/
def atRun (mask i q : Nat) : Probe := { j := i, more := runEnd mask i - i, i := i, perturb := q, dummy := none }
theorem start_run (t : SetTable) (h : Int) : t.probeStart h = atRun t.mask (bits h % (t.mask + 1)) (bits h) := rfl
theorem run_steps (t : SetTable) : ∀ (m : Nat) (p : Probe), p.more = m → p.dummy = none → wk t p (m + 1) = List.range' p.j (m + 1) ∧ adv t p (m + 1) = atRun t.mask (leap t.mask p.i p.perturb).1 (leap t.mask p.i p.perturb).2
  | 0, p, hm, hd => by
    refine ⟨rfl, ?_⟩
    show t.advance p = _
    unfold advance
    rw [if_neg (by omega)]
    unfold atRun
    simp only [hd]
  | m + 1, p, hm, hd => by
    have e : t.advance p = { p with j := p.j + 1, more := m } := by
      unfold advance
      rw [if_pos (by omega), hm]
      rfl
    obtain ⟨h1, h2⟩ := run_steps t m { p with j := p.j + 1, more := m } rfl hd
    constructor
    · show p.j :: wk t (t.advance p) (m + 1) = List.range' p.j (m + 1 + 1)
      rw [e, h1]
      exact (List.range'_succ ..).symm
    · show adv t (t.advance p) (m + 1) = _
      rw [e, h2]
theorem run_short (mask i : Nat) : runEnd mask i - i ≤ 9 := by
  unfold runEnd
  split <;> omega
/-- where the n-th run begins -/
def rq (h : Int) (n : Nat) : Nat := bits h / 32 ^ n
def ri (mask : Nat) (h : Int) : Nat → Nat
  | 0 => bits h % (mask + 1)
  | n + 1 => (ri mask h n * 5 + 1 + rq h (n + 1)) % (mask + 1)
theorem at_run (t : SetTable) (h : Int) : ∀ n : Nat, ∃ l, l ≤ 10 * n ∧ adv t (t.probeStart h) l = atRun t.mask (ri t.mask h n) (rq h n)
  | 0 => ⟨0, Nat.le_refl _, by rw [start_run]; unfold rq; rw [Nat.pow_zero, Nat.div_one]; rfl⟩
  | n + 1 => by
    obtain ⟨l, hl, e⟩ := at_run t h n
    obtain ⟨_, h2⟩ := run_steps t (runEnd t.mask (ri t.mask h n) - ri t.mask h n) (atRun t.mask (ri t.mask h n) (rq h n)) rfl rfl
    have := run_short t.mask (ri t.mask h n)
    refine ⟨l + (runEnd t.mask (ri t.mask h n) - ri t.mask h n + 1), by omega, ?_⟩
    rw [adv_add, e, h2]
    have eq : (atRun t.mask (ri t.mask h n) (rq h n)).perturb / 32 = rq h (n + 1) := by
      show bits h / 32 ^ n / 32 = bits h / 32 ^ (n + 1)
      rw [Nat.div_div_eq_div_mul, ← Nat.pow_succ]
    unfold leap
    rw [eq]
    rfl
theorem run_in (t : SetTable) (h : Int) (n : Nat) : ri t.mask h n ∈ wk t (t.probeStart h) (10 * n + 1) := by
  obtain ⟨l, hl, e⟩ := at_run t h n
  refine wk_le (m := l + 1) (by omega) ?_
  rw [wk_add, e]
  exact List.mem_append_right _ List.mem_cons_self
theorem bits_lt (h : Int) : bits h < 2 ^ 64 := by
  unfold bits
  have h1 : 0 ≤ h % (2 ^ 64 : Int) := Int.emod_nonneg _ (by decide)
  have h2 : h % (2 ^ 64 : Int) < 2 ^ 64 := Int.emod_lt_of_pos _ (by decide)
  omega
theorem rq_zero (h : Int) {n : Nat} (hn : 13 ≤ n) : rq h n = 0 := by
  unfold rq
  refine Nat.div_eq_of_lt (Nat.lt_of_lt_of_le (bits_lt h) ?_)
  exact Nat.le_trans (by decide : 2 ^ 64 ≤ 32 ^ 13) (Nat.pow_le_pow_right (by decide) hn)
/-! ### each slot is asked -/
def cyc (m : Nat) : Nat → Nat
  | 0 => 0
  | n + 1 => (cyc m n * 5 + 1) % m
def Good (mask : Nat) : Prop := mask = 7 ∨ mask = 31 ∨ mask = 127
theorem cyc_all {mask : Nat} (g : Good mask) : (∀ s, s < mask + 1 → ∃ n, n < mask + 1 ∧ cyc (mask + 1) n = s) ∧ cyc (mask + 1) (mask + 1) = 0 := by
  rcases g with rfl | rfl | rfl <;> exact ⟨by decide +kernel, by decide +kernel⟩
theorem cyc_back {mask : Nat} (g : Good mask) : ∀ n, cyc (mask + 1) (mask + 1 + n) = cyc (mask + 1) n
  | 0 => (cyc_all g).2
  | n + 1 => by show (cyc (mask + 1) (mask + 1 + n) * 5 + 1) % (mask + 1) = _; rw [cyc_back g n]; rfl
theorem ri_cyc {mask : Nat} (h : Int) {a : Nat} (ha : ri mask h 12 = cyc (mask + 1) a) : ∀ n, ri mask h (12 + n) = cyc (mask + 1) (a + n)
  | 0 => ha
  | n + 1 => by
    show (ri mask h (12 + n) * 5 + 1 + rq h (12 + n + 1)) % (mask + 1) = (cyc (mask + 1) (a + n) * 5 + 1) % (mask + 1)
    rw [ri_cyc h ha n, rq_zero h (by omega), Nat.add_zero]
theorem ri_lt (mask : Nat) (h : Int) : ∀ n, ri mask h n < mask + 1
  | 0 => Nat.mod_lt _ (Nat.succ_pos _)
  | _ + 1 => Nat.mod_lt _ (Nat.succ_pos _)
theorem hits {mask : Nat} (g : Good mask) (h : Int) {s : Nat} (hs : s ≤ mask) : ∃ n, n ≤ 12 + mask ∧ ri mask h n = s := by
  obtain ⟨a, ha, ea⟩ := (cyc_all g).1 (ri mask h 12) (ri_lt mask h 12)
  obtain ⟨b, hb, eb⟩ := (cyc_all g).1 s (by omega)
  by_cases hab : a ≤ b
  · refine ⟨12 + (b - a), by omega, ?_⟩
    rw [ri_cyc h ea.symm, show a + (b - a) = b by omega, eb]
  · refine ⟨12 + (mask + 1 + b - a), by omega, ?_⟩
    rw [ri_cyc h ea.symm, show a + (mask + 1 + b - a) = mask + 1 + b by omega, cyc_back g, eb]
theorem covers {t : SetTable} (g : Good t.mask) (h : Int) {s : Nat} (hs : s ≤ t.mask) : s ∈ wk t (t.probeStart h) (10 * (t.mask + 14)) := by
  obtain ⟨n, hn, e⟩ := hits g h hs
  refine wk_le (m := 10 * n + 1) (by omega) ?_
  rw [← e]
  exact run_in t h n
theorem free_there {l : List Nat} {mask : Nat} (hl : l.length ≤ mask) : ∃ s, s ≤ mask ∧ s ∉ l := by
  refine Classical.byContradiction fun hc => ?_
  have all : ∀ s, s ≤ mask → s ∈ l := fun s hs => Classical.byContradiction fun z => hc ⟨s, hs, z⟩
  have : (List.range (mask + 1)).length ≤ l.length := List.Nodup.length_le_of_subset List.nodup_range fun s hs => all s (by have := List.mem_range.mp hs; omega)
  rw [List.length_range] at this
  omega
theorem first_out {l path : List Nat} (h : ∃ s, s ∈ path ∧ s ∉ l) : ∃ pre e post, path = pre ++ e :: post ∧ (∀ s ∈ pre, s ∈ l) ∧ e ∉ l := by
  induction path with
  | nil => obtain ⟨s, hs, _⟩ := h; cases hs
  | cons a r ih =>
    by_cases ha : a ∈ l
    · obtain ⟨s, hs, hn⟩ := h
      rcases List.mem_cons.mp hs with rfl | hs
      · exact absurd ha hn
      · obtain ⟨pre, e, post, e1, e2, e3⟩ := ih ⟨s, hs, hn⟩
        exact ⟨a :: pre, e, post, by rw [e1]; rfl, fun s hs => (List.mem_cons.mp hs).elim (fun z => z ▸ ha) (e2 s), e3⟩
    · exact ⟨[], a, r, rfl, fun _ hs => (nomatch hs), ha⟩
/-! ### a search in the table -/
section
variable {t : SetTable}
theorem has_none (j : Nat) : has #[] j = false := rfl
theorem slot_live (h : Rs t.place.toList) {j : Nat} (hj : j ∈ t.place.toList) : t.slot j = .live (below t.place j) := by
  unfold slot
  dsimp only
  rw [below_at h hj, if_pos (by simp)]
theorem slot_empty (h : Rs t.place.toList) (hd : t.dummies = #[]) {j : Nat} (hj : j ∉ t.place.toList) : t.slot j = .empty := by
  unfold slot
  dsimp only
  rw [below_no h hj, hd, has_none]
  rfl
theorem probe_go {hashAt : Nat → Int} {h : Int} (hr : Rs t.place.toList) (hd : t.dummies = #[]) : ∀ (pre : List Nat) (e : Nat) (post : List Nat) (fuel : Nat) (p : Probe), wk t p fuel = pre ++ e :: post → (∀ s ∈ pre, s ∈ t.place.toList) → e ∉ t.place.toList → p.dummy = none →
    ((∀ s ∈ pre, (hashAt (below t.place s) == h) = false) ∧ probe.go t hashAt h fuel p = some (.empty e none)) ∨
    ∃ pre1 j pre2, pre = pre1 ++ j :: pre2 ∧ (∀ s ∈ pre1, (hashAt (below t.place s) == h) = false) ∧ (hashAt (below t.place j) == h) = true ∧ probe.go t hashAt h fuel p = some (.candidate j (below t.place j) (adv t p (pre1.length + 1)))
  | [], e, post, 0, p, hw, _, _, _ => by cases hw
  | _ :: _, e, post, 0, p, hw, _, _, _ => by cases hw
  | [], e, post, fuel + 1, p, hw, _, he, hp => by
    have e1 : p.j = e := (List.cons.inj hw).1
    refine .inl ⟨(fun _ hs => nomatch hs), ?_⟩
    unfold probe.go
    rw [e1, slot_empty hr hd he, hp]
  | a :: pre, e, post, fuel + 1, p, hw, ha, he, hp => by
    obtain ⟨e1, e2⟩ := List.cons.inj hw
    have ha' : a ∈ t.place.toList := ha a List.mem_cons_self
    unfold probe.go
    rw [show p.j = a from e1, slot_live hr ha']
    dsimp only
    cases hc : hashAt (below t.place a) == h with
    | true =>
      refine .inr ⟨[], a, pre, rfl, (fun _ hs => nomatch hs), hc, ?_⟩
      rfl
    | false =>
      have hp' : (t.advance p).dummy = none := by have := adv_dummy t 1 p; rw [hp] at this; exact this
      rcases probe_go hr hd pre e post fuel (t.advance p) e2 (fun s hs => ha s (List.mem_cons_of_mem _ hs)) he hp' with ⟨h1, h2⟩ | ⟨pre1, j, pre2, h1, h2, h3, h4⟩
      · refine .inl ⟨fun s hs => (List.mem_cons.mp hs).elim (fun z => z ▸ hc) (h1 s), ?_⟩
        rw [if_neg (by decide)]
        exact h2
      · refine .inr ⟨a :: pre1, j, pre2, by rw [h1]; rfl, fun s hs => (List.mem_cons.mp hs).elim (fun z => z ▸ hc) (h2 s), h3, ?_⟩
        rw [if_neg (by decide), h4]
        rfl
end
end Tb

namespace Tb
open PySem PySem.SetTable
theorem advance_congr {t t' : SetTable} (e : t.mask = t'.mask) (p : Probe) : t.advance p = t'.advance p := by
  unfold advance
  rw [e]
theorem wk_congr {t t' : SetTable} (e : t.mask = t'.mask) : ∀ (n : Nat) (p : Probe), wk t p n = wk t' p n
  | 0, _ => rfl
  | n + 1, p => by show p.j :: _ = p.j :: _; rw [advance_congr e, wk_congr e n]
theorem start_congr {t t' : SetTable} (e : t.mask = t'.mask) (h : Int) : t.probeStart h = t'.probeStart h := by rw [start_run, start_run, e]
/-- from the hash h one comes to s by slots that are taken -/
def Rch (t : SetTable) (P : List Nat) (h : Int) (s : Nat) : Prop := ∃ n pre post, wk t (t.probeStart h) n = pre ++ s :: post ∧ ∀ a ∈ pre, a ∈ P
theorem Rch.mono {t t' : SetTable} {P P' : List Nat} {h : Int} {s : Nat} (e : t.mask = t'.mask) (hs : ∀ a ∈ P, a ∈ P') (r : Rch t P h s) : Rch t' P' h s := by
  obtain ⟨n, pre, post, e1, e2⟩ := r
  exact ⟨n, pre, post, by rw [← wk_congr e, ← start_congr e]; exact e1, fun a ha => hs a (e2 a ha)⟩
/-- who can be reached lies ahead of the first free one -/
theorem Rch.ahead {t : SetTable} {P : List Nat} {h : Int} {s m e : Nat} {pre post : List Nat} (r : Rch t P h s) (hs : s ∈ P) (ew : wk t (t.probeStart h) m = pre ++ e :: post) (he : e ∉ P) : s ∈ pre := by
  obtain ⟨n, pre', post', e1, e2⟩ := r
  have w1 : (wk t (t.probeStart h) (n + m))[pre'.length]? = some s := by
    rw [wk_add, e1, List.append_assoc, List.getElem?_append_right (Nat.le_refl _), Nat.sub_self]
    rfl
  have w2 : (wk t (t.probeStart h) (n + m))[pre.length]? = some e := by
    rw [Nat.add_comm n m, wk_add, ew, List.append_assoc, List.getElem?_append_right (Nat.le_refl _), Nat.sub_self]
    rfl
  rcases Nat.lt_trichotomy pre'.length pre.length with hl | hl | hl
  · rw [Nat.add_comm n m, wk_add, ew, List.append_assoc, List.getElem?_append_left hl] at w1
    exact List.mem_of_getElem? w1
  · rw [hl, w2] at w1
    cases w1
    exact absurd hs he
  · rw [wk_add, e1, List.append_assoc, List.getElem?_append_left hl] at w2
    exact absurd (e2 e (List.mem_of_getElem? w2)) he
/-- a table that is right for its entries -/
structure TOk (t : SetTable) (es : List (Int × Value)) : Prop where
  gd : Good t.mask
  rs : Rs t.place.toList
  du : t.dummies = #[]
  sz : t.place.toList.length = es.length
  fl : es.length ≤ t.mask
  rc : ∀ x ∈ t.place.toList.zip es, Rch t t.place.toList x.2.1 x.1
theorem tok_fresh (f m : Nat) (led : Bool) : TOk (.fresh f m led) [] := ⟨.inl rfl, .nil, rfl, rfl, Nat.zero_le _, fun x hx => nomatch hx⟩
section
variable {t : SetTable} {es : List (Int × Value)}
theorem TOk.fits (k : TOk t es) {n : Nat} (hn : es.length = n) : t.fits n = true := by
  unfold SetTable.fits fill
  have h1 := k.sz
  have h2 := k.fl
  rw [Array.length_toList] at h1
  rw [k.du]
  simp
  omega
/-- the first free slot for a hash -/
theorem TOk.free (k : TOk t es) (h : Int) : ∃ pre e post, wk t (t.probeStart h) (10 * turns t.mask) = pre ++ e :: post ∧ (∀ s ∈ pre, s ∈ t.place.toList) ∧ e ∉ t.place.toList := by
  obtain ⟨s, hs, hn⟩ := free_there (l := t.place.toList) (mask := t.mask) (by rw [k.sz]; exact k.fl)
  refine first_out ⟨s, wk_le (m := 10 * (t.mask + 14)) (by show _ ≤ 10 * (t.mask + 15); omega) (covers k.gd h hs), hn⟩
theorem put_eq (k : TOk t es) (s : Nat) : t.put s = ({ t with place := insertAt t.place (below t.place s) s }, below t.place s) := by
  unfold put
  dsimp only
  rw [k.du, has_none]
  cases t
  have := k.du
  simp only at this
  subst this
  rfl
theorem TOk.put (k : TOk t es) {s : Nat} {h : Int} {x : Value} (hs : s ∉ t.place.toList) (r : Rch t t.place.toList h s) (hl : es.length + 1 ≤ t.mask) {ea : Array (Int × Value)} (ee : ea.toList = es) :
    TOk (t.put s).1 (insertAt ea (t.put s).2 (h, x)).toList := by
  rw [put_eq k]
  have hb := (below_spec k.rs s).1
  have el : (insertAt ea (below t.place s) (h, x)).toList = es.take (below t.place s) ++ (h, x) :: es.drop (below t.place s) := by rw [toList_insertAt, ee]
  have pl : (insertAt t.place (below t.place s) s).toList = t.place.toList.take (below t.place s) ++ s :: t.place.toList.drop (below t.place s) := toList_insertAt ..
  have sub : ∀ a ∈ t.place.toList, a ∈ (insertAt t.place (below t.place s) s).toList := fun a ha => by
    rw [pl]
    have ha' : a ∈ t.place.toList.take (below t.place s) ++ t.place.toList.drop (below t.place s) := by rw [List.take_append_drop]; exact ha
    rcases List.mem_append.mp ha' with z | z
    · exact List.mem_append_left _ z
    · exact List.mem_append_right _ (List.mem_cons_of_mem _ z)
  refine ⟨k.gd, insert_rs k.rs hs, k.du, ?_, ?_, fun y hy => ?_⟩
  · show (insertAt t.place (below t.place s) s).toList.length = _
    have h1 := k.sz
    rw [pl, el]
    simp only [List.length_append, List.length_cons, List.length_take, List.length_drop]
    omega
  · show (insertAt ea (below t.place s) (h, x)).toList.length ≤ t.mask
    rw [el]
    simp only [List.length_append, List.length_cons, List.length_take, List.length_drop]
    omega
  · have hy' : y ∈ (insertAt t.place (below t.place s) s).toList.zip (insertAt ea (below t.place s) (h, x)).toList := hy
    rw [pl, el, List.zip_append (by simp only [List.length_take]; rw [k.sz])] at hy'
    have mn : ∀ {g a}, Rch t t.place.toList g a → Rch { t with place := insertAt t.place (below t.place s) s } (insertAt t.place (below t.place s) s).toList g a := fun z => Rch.mono (t := t) rfl sub z
    rcases List.mem_append.mp hy' with z | z
    · exact mn (k.rc y (by
        have e1 : t.place.toList = t.place.toList.take (below t.place s) ++ t.place.toList.drop (below t.place s) := (List.take_append_drop _ _).symm
        have e2 : es = es.take (below t.place s) ++ es.drop (below t.place s) := (List.take_append_drop _ _).symm
        rw [e1, e2, List.zip_append (by simp only [List.length_take]; rw [k.sz])]
        exact List.mem_append_left _ z))
    · rcases List.mem_cons.mp (show y ∈ (s, (h, x)) :: _ from z) with rfl | z
      · exact mn r
      · exact mn (k.rc y (by
          have e1 : t.place.toList = t.place.toList.take (below t.place s) ++ t.place.toList.drop (below t.place s) := (List.take_append_drop _ _).symm
          have e2 : es = es.take (below t.place s) ++ es.drop (below t.place s) := (List.take_append_drop _ _).symm
          rw [e1, e2, List.zip_append (by simp only [List.length_take]; rw [k.sz])]
          exact List.mem_append_right _ z))
/-- the entry of a taken slot -/
theorem TOk.entry (k : TOk t es) {s : Nat} (hs : s ∈ t.place.toList) : ∃ y, es[below t.place s]? = some y ∧ (s, y) ∈ t.place.toList.zip es := by
  have e := below_at k.rs hs
  rw [← Array.getElem?_toList] at e
  obtain ⟨h1, e1⟩ := List.getElem?_eq_some_iff.mp e
  have h2 : below t.place s < es.length := by rw [← k.sz]; exact h1
  refine ⟨es[below t.place s], List.getElem?_eq_getElem h2, ?_⟩
  refine List.mem_of_getElem? (i := below t.place s) ?_
  rw [List.getElem?_zip_eq_some]
  exact ⟨e, List.getElem?_eq_getElem h2⟩
/-- the slot of an entry -/
theorem TOk.slotOf (k : TOk t es) {y : Int × Value} (hy : y ∈ es) : ∃ s, s ∈ t.place.toList ∧ (s, y) ∈ t.place.toList.zip es ∧ es[below t.place s]? = some y := by
  obtain ⟨i, hi⟩ := List.getElem?_of_mem hy
  have h1 : i < t.place.toList.length := by rw [k.sz]; exact (List.getElem?_eq_some_iff.mp hi).1
  have e : t.place.toList[i]? = some t.place.toList[i] := List.getElem?_eq_getElem h1
  have hb : below t.place t.place.toList[i] = i := by
    have e2 := below_at k.rs (List.getElem_mem h1)
    rw [← Array.getElem?_toList] at e2
    have nd : t.place.toList.Nodup := k.rs.imp fun h => Nat.ne_of_lt h
    exact ((List.getElem?_inj h1 nd).mp (e.trans e2.symm)).symm
  refine ⟨t.place.toList[i], List.getElem_mem h1, ?_, by rw [hb]; exact hi⟩
  refine List.mem_of_getElem? (i := i) ?_
  rw [List.getElem?_zip_eq_some]
  exact ⟨e, hi⟩
end
end Tb

namespace Tb
open PySem PySem.SetTable
/-! ### a table laid anew -/
def rn (mask : Nat) : Nat → Nat × Nat → Nat × Nat
  | 0, s => s
  | m + 1, s => rn mask m (leap mask s.1 s.2)
theorem rn_snoc (mask : Nat) : ∀ (m : Nat) (s : Nat × Nat), rn mask (m + 1) s = leap mask (rn mask m s).1 (rn mask m s).2
  | 0, _ => rfl
  | m + 1, s => by show rn mask (m + 1) (leap mask s.1 s.2) = _; rw [rn_snoc mask m]; rfl
theorem rn_ri (mask : Nat) (h : Int) : ∀ m, rn mask m (bits h % (mask + 1), bits h) = (ri mask h m, rq h m)
  | 0 => by unfold rq; rw [Nat.pow_zero, Nat.div_one]; rfl
  | m + 1 => by
    rw [rn_snoc, rn_ri mask h m]
    show ((ri mask h m * 5 + 1 + rq h m / 32) % (mask + 1), rq h m / 32) = _
    have e : rq h m / 32 = rq h (m + 1) := by
      show bits h / 32 ^ m / 32 = bits h / 32 ^ (m + 1)
      rw [Nat.div_div_eq_div_mul, ← Nat.pow_succ]
    rw [e]
    rfl
/-- the slot is taken -/
def Tk (owner : Array (Option Nat)) (j : Nat) : Prop := ∃ i, owner[j]? = some (some i)
theorem tk_or {owner : Array (Option Nat)} {j : Nat} (hj : j < owner.size) : (owner.getD j (some 0)).isNone = true ∨ Tk owner j := by
  have e : owner[j]? = some owner[j] := Array.getElem?_eq_getElem hj
  have eg : owner.getD j (some 0) = owner[j] := by simp [Array.getD, hj]
  rw [eg]
  cases q : owner[j] with
  | none => exact .inl rfl
  | some i => exact .inr ⟨i, by rw [e, q]⟩
theorem none_not {owner : Array (Option Nat)} {j : Nat} (h : (owner.getD j (some 0)).isNone = true) : j < owner.size ∧ ¬ Tk owner j ∧ owner[j]? = some none := by
  by_cases hj : j < owner.size
  · have e : owner[j]? = some owner[j] := Array.getElem?_eq_getElem hj
    have eg : owner.getD j (some 0) = owner[j] := by simp [Array.getD, hj]
    rw [eg] at h
    have q : owner[j] = none := Option.isNone_iff_eq_none.mp h
    refine ⟨hj, fun ⟨i, z⟩ => ?_, by rw [e, q]⟩
    rw [e, q] at z
    cases z
  · have eg : owner.getD j (some 0) = some 0 := by simp [Array.getD, hj]
    rw [eg] at h
    cases h
theorem runEnd_le {mask i : Nat} (h : i ≤ mask) : runEnd mask i ≤ mask ∧ i ≤ runEnd mask i := by
  unfold runEnd
  split <;> omega
theorem free_run (t : SetTable) (owner : Array (Option Nat)) (ho : owner.size = t.mask + 1) : ∀ (n fuel i q : Nat), n < fuel → i ≤ t.mask → (∃ m, m ≤ n ∧ ¬ Tk owner (rn t.mask m (i, q)).1 ∧ (rn t.mask m (i, q)).1 ≤ t.mask) →
    ∃ l pre j post, layClean.free t.mask owner fuel i q = some j ∧ wk t (atRun t.mask i q) l = pre ++ j :: post ∧ (∀ a ∈ pre, Tk owner a) ∧ owner[j]? = some none := by
  intro n
  induction n with
  | zero =>
    intro fuel i q hf hi ⟨m, hm, hn, _⟩
    obtain rfl : m = 0 := by omega
    obtain ⟨fuel, rfl⟩ : ∃ f, fuel = f + 1 := ⟨fuel - 1, by omega⟩
    have h0 : (owner.getD i (some 0)).isNone = true := (tk_or (by omega)).resolve_right hn
    refine ⟨1, [], i, [], ?_, rfl, (fun _ h => nomatch h), (none_not h0).2.2⟩
    unfold layClean.free
    obtain ⟨r1, r2⟩ := runEnd_le hi
    have e : runEnd t.mask i + 1 - i = (runEnd t.mask i - i) + 1 := by omega
    rw [e, List.range_succ_eq_map, List.find?_cons]
    simp only [Nat.add_zero, h0]
  | succ n ih =>
    intro fuel i q hf hi ⟨m, hm, hn, hk⟩
    obtain ⟨fuel, rfl⟩ : ∃ f, fuel = f + 1 := ⟨fuel - 1, by omega⟩
    obtain ⟨r1, r2⟩ := runEnd_le hi
    obtain ⟨w1, w2⟩ := run_steps t (runEnd t.mask i - i) (atRun t.mask i q) rfl rfl
    have el : runEnd t.mask i + 1 - i = runEnd t.mask i - i + 1 := by omega
    unfold layClean.free
    cases hf2 : (List.range (runEnd t.mask i + 1 - i)).find? fun k => (owner.getD (i + k) (some 0)).isNone with
    | some k =>
      obtain ⟨hp, as, bs, e1, e2⟩ := List.find?_eq_some_iff_append.mp hf2
      refine ⟨runEnd t.mask i - i + 1, as.map (i + ·), i + k, bs.map (i + ·), rfl, ?_, fun a ha => ?_, (none_not hp).2.2⟩
      · rw [w1]
        show List.range' i (runEnd t.mask i - i + 1) = _
        rw [List.range'_eq_map_range, ← el, e1, List.map_append, List.map_cons]
      · obtain ⟨b, hb, rfl⟩ := List.mem_map.mp ha
        have hb2 : b ∈ List.range (runEnd t.mask i + 1 - i) := by rw [e1]; exact List.mem_append_left _ hb
        have := List.mem_range.mp hb2
        rcases tk_or (owner := owner) (j := i + b) (by omega) with z | z
        · have := e2 b hb
          rw [z] at this
          cases this
        · exact z
    | none =>
      dsimp only
      have all : ∀ k, k < runEnd t.mask i + 1 - i → Tk owner (i + k) := fun k hk => by
        have := List.find?_eq_none.mp hf2 k (List.mem_range.mpr hk)
        exact (tk_or (by omega)).resolve_left this
      cases m with
      | zero => exact absurd (all 0 (by omega)) hn
      | succ m =>
        obtain ⟨l, pre, j, post, h1, h2, h3, h4⟩ := ih fuel (leap t.mask i q).1 (leap t.mask i q).2 (by omega) (by have := Nat.mod_lt (i * 5 + 1 + q / 32) (show 0 < t.mask + 1 by omega); show (i * 5 + 1 + q / 32) % (t.mask + 1) ≤ t.mask; omega) ⟨m, by omega, hn, hk⟩
        refine ⟨runEnd t.mask i - i + 1 + l, List.range' i (runEnd t.mask i - i + 1) ++ pre, j, post, h1, ?_, fun a ha => ?_, h4⟩
        · rw [wk_add, w1, w2]
          show List.range' i (runEnd t.mask i - i + 1) ++ wk t (atRun t.mask (leap t.mask i q).1 (leap t.mask i q).2) l = _
          rw [h2, List.append_assoc]
        · rcases List.mem_append.mp ha with z | z
          · obtain ⟨h5, h6⟩ := List.mem_range'_1.mp z
            have := all (a - i) (by omega)
            rw [show i + (a - i) = a by omega] at this
            exact this
          · exact h3 a z
/-- who owns what: the pairs of slot and number -/
structure Own (t : SetTable) (hs : List Int) (owner : Array (Option Nat)) (A : List (Nat × Nat)) (k : Nat) : Prop where
  sz : owner.size = t.mask + 1
  iff : ∀ j i, owner[j]? = some (some i) ↔ (j, i) ∈ A
  sn : A.map (·.2) = List.range k
  nd : (A.map (·.1)).Nodup
  rc : ∀ x ∈ A, ∃ h, hs[x.2]? = some h ∧ Rch t (A.map (·.1)) h x.1
theorem own_nil (t : SetTable) (hs : List Int) : Own t hs (Array.replicate (t.mask + 1) none) [] 0 := by
  refine ⟨by simp, fun j i => ⟨fun h => ?_, fun h => nomatch h⟩, rfl, .nil, fun x hx => nomatch hx⟩
  rw [Array.getElem?_replicate] at h
  split at h <;> cases h
theorem own_step {t : SetTable} {hs : List Int} {owner : Array (Option Nat)} {A : List (Nat × Nat)} {k : Nat} {h : Int} (g : Good t.mask) (o : Own t hs owner A k) (hh : hs[k]? = some h) (hk : k ≤ t.mask) :
    ∃ j, layClean.free t.mask owner (turns t.mask) (bits h % (t.mask + 1)) (bits h) = some j ∧ Own t hs (owner.setIfInBounds j (some k)) (A ++ [(j, k)]) (k + 1) := by
  have la : A.length = k := by
    have := congrArg List.length o.sn
    simpa using this
  have tkA : ∀ a, Tk owner a ↔ a ∈ A.map (·.1) := fun a => ⟨fun ⟨i, z⟩ => List.mem_map.mpr ⟨(a, i), (o.iff a i).mp z, rfl⟩, fun z => by
    obtain ⟨x, hx, rfl⟩ := List.mem_map.mp z
    exact ⟨x.2, (o.iff x.1 x.2).mpr hx⟩⟩
  obtain ⟨s, hs1, hs2⟩ := free_there (l := A.map (·.1)) (mask := t.mask) (by rw [List.length_map]; omega)
  obtain ⟨m, hm, em⟩ := hits g h hs1
  obtain ⟨l, pre, j, post, h1, h2, h3, h4⟩ := free_run t owner o.sz (12 + t.mask) (turns t.mask) (bits h % (t.mask + 1)) (bits h) (by show 12 + t.mask < t.mask + 15; omega) (by have := Nat.mod_lt (bits h) (show 0 < t.mask + 1 by omega); omega)
    ⟨m, hm, by rw [rn_ri, em, tkA]; exact hs2, by rw [rn_ri, em]; exact hs1⟩
  have hj : j < owner.size := (Array.getElem?_eq_some_iff.mp h4).1
  have nj : j ∉ A.map (·.1) := fun z => by
    obtain ⟨i, e⟩ := (tkA j).mpr z
    rw [h4] at e
    cases e
  refine ⟨j, h1, ⟨by rw [Array.size_setIfInBounds]; exact o.sz, fun a i => ?_, ?_, ?_, fun x hx => ?_⟩⟩
  · rw [Array.getElem?_setIfInBounds]
    by_cases ea : j = a
    · subst ea
      rw [if_pos rfl, if_pos hj]
      constructor
      · intro e
        cases e
        exact List.mem_append_right _ List.mem_cons_self
      · intro e
        rcases List.mem_append.mp e with z | z
        · exact absurd (List.mem_map.mpr ⟨_, z, rfl⟩) nj
        · cases List.mem_singleton.mp z
          rfl
    · rw [if_neg ea, o.iff]
      constructor
      · exact fun z => List.mem_append_left _ z
      · intro e
        rcases List.mem_append.mp e with z | z
        · exact z
        · cases List.mem_singleton.mp z
          exact absurd rfl ea
  · rw [List.map_append, o.sn, List.range_succ]
    rfl
  · rw [List.map_append]
    refine List.nodup_append.mpr ⟨o.nd, by simp, fun a ha b hb e => ?_⟩
    have : b = j := by simpa using hb
    rw [e, this] at ha
    exact nj ha
  · have up : ∀ a ∈ A.map (·.1), a ∈ (A ++ [(j, k)]).map (·.1) := fun a ha => by rw [List.map_append]; exact List.mem_append_left _ ha
    rcases List.mem_append.mp hx with z | z
    · obtain ⟨h', e1, e2⟩ := o.rc x z
      exact ⟨h', e1, e2.mono rfl up⟩
    · cases List.mem_singleton.mp z
      exact ⟨h, hh, l, pre, post, by rw [start_run]; exact h2, fun a ha => up a ((tkA a).mp (h3 a ha))⟩
theorem own_fold {t : SetTable} {hs : List Int} (g : Good t.mask) (hl : hs.length ≤ t.mask + 1) : ∀ (r : List Int) (owner : Array (Option Nat)) (A : List (Nat × Nat)) (k : Nat), hs.drop k = r → Own t hs owner A k →
    ∃ owner' A', r.foldl (fun acc h => do
      let (owner, k) ← acc
      let j ← layClean.free t.mask owner (turns t.mask) (bits h % (t.mask + 1)) (bits h)
      pure (owner.setIfInBounds j (some k), k + 1)) (some (owner, k)) = some (owner', k + r.length) ∧ Own t hs owner' A' (k + r.length)
  | [], owner, A, k, _, o => ⟨owner, A, rfl, o⟩
  | h :: r, owner, A, k, hd, o => by
    have hh : hs[k]? = some h := by
      have : (hs.drop k)[0]? = some h := by rw [hd]; rfl
      rw [List.getElem?_drop] at this
      simpa using this
    have hk : k < hs.length := (List.getElem?_eq_some_iff.mp hh).1
    obtain ⟨j, e1, o1⟩ := own_step g o hh (by omega)
    have hd1 : hs.drop (k + 1) = r := by rw [← List.drop_drop, hd]; rfl
    obtain ⟨owner', A', e2, o2⟩ := own_fold g hl r _ _ (k + 1) hd1 o1
    refine ⟨owner', A', ?_, by rw [List.length_cons, show k + (r.length + 1) = k + 1 + r.length by omega]; exact o2⟩
    rw [List.foldl_cons]
    show List.foldl _ ((layClean.free t.mask owner (turns t.mask) (bits h % (t.mask + 1)) (bits h)).bind fun j => some (owner.setIfInBounds j (some k), k + 1)) r = _
    rw [e1]
    show List.foldl _ (some (owner.setIfInBounds j (some k), k + 1)) r = _
    rw [e2, List.length_cons, show k + (r.length + 1) = k + 1 + r.length by omega]
end Tb

namespace Tb
open PySem PySem.SetTable
theorem laid_ok {mask f m : Nat} {led plain : Bool} {hashes : Array Int} {es : List (Int × Value)} (g : Good mask) (hh : hashes.toList = es.map (·.1)) (hl : es.length ≤ mask) :
    ∃ t order, laid mask f m led plain hashes = some (t, order) ∧ t.mask = mask ∧ t.led = led ∧ t.plain = plain ∧ order.toList.Perm (List.range es.length) ∧ TOk t (order.toList.filterMap (es[·]?)) := by
  let t0 : SetTable := { mask := mask, place := #[], dummies := #[], finger := f, led := led, moves := m, plain := plain }
  have hn : hashes.toList.length = es.length := by rw [hh, List.length_map]
  obtain ⟨owner, A, e, o⟩ := own_fold (t := t0) (hs := hashes.toList) g (by rw [hn]; show es.length ≤ mask + 1; omega) hashes.toList _ [] 0 rfl (own_nil t0 hashes.toList)
  rw [Nat.zero_add, hn] at e o
  have ec : layClean mask hashes = some owner := by
    unfold layClean
    rw [← Array.foldl_toList]
    have e' := congrArg (Option.map (·.1)) e
    exact e'
  let Lv : List (Nat × Nat) := (List.range (mask + 1)).filterMap fun j => (owner.getD j none).map (j, ·)
  have mem : ∀ x, x ∈ Lv ↔ x ∈ A := fun x => by
    obtain ⟨j, i⟩ := x
    rw [← o.iff]
    constructor
    · intro hx
      obtain ⟨a, ha, ea⟩ := List.mem_filterMap.mp hx
      obtain ⟨b, eb, ex⟩ := Option.map_eq_some_iff.mp ea
      cases ex
      by_cases hj : j < owner.size
      · have : owner.getD j none = owner[j] := by simp [Array.getD, hj]
        rw [this] at eb
        rw [Array.getElem?_eq_getElem hj, eb]
      · have : owner.getD j none = none := by simp [Array.getD, hj]
        rw [this] at eb
        cases eb
    · intro hx
      obtain ⟨hj, eb⟩ := Array.getElem?_eq_some_iff.mp hx
      refine List.mem_filterMap.mpr ⟨j, List.mem_range.mpr (by have := o.sz; show j < t0.mask + 1; omega), ?_⟩
      have : owner.getD j none = owner[j] := by simp [Array.getD, hj]
      rw [this, eb]
      rfl
  have rs : (Lv.map (·.1)).Pairwise (· < ·) := by
    rw [List.pairwise_map, List.pairwise_filterMap]
    refine List.pairwise_lt_range.imp ?_
    intro a b hab x hx y hy
    obtain ⟨_, _, rfl⟩ := Option.map_eq_some_iff.mp hx
    obtain ⟨_, _, rfl⟩ := Option.map_eq_some_iff.mp hy
    exact hab
  have ndL : Lv.Nodup := (List.pairwise_map.mp rs).imp fun h e => by rw [e] at h; exact Nat.lt_irrefl _ h
  have ndA : A.Nodup := (List.pairwise_map.mp (show (A.map (·.1)).Pairwise (· ≠ ·) from o.nd)).imp fun h e => h (by rw [e])
  have perm : Lv.Perm A := (List.perm_ext_iff_of_nodup ndL ndA).mpr mem
  have p2 : (Lv.map (·.2)).Perm (List.range es.length) := by rw [← o.sn]; exact perm.map _
  have inr : ∀ x ∈ Lv, x.2 < es.length := fun x hx => List.mem_range.mp (p2.mem_iff.mp (List.mem_map.mpr ⟨x, hx, rfl⟩))
  refine ⟨{ mask := mask, place := (Lv.map (·.1)).toArray, dummies := #[], finger := f, led := led, moves := m, plain := plain }, (Lv.map (·.2)).toArray, ?_, rfl, rfl, rfl, by simpa using p2, ?_⟩
  · unfold laid
    rw [ec]
    rfl
  · have es' : ((Lv.map (·.2)).toArray.toList.filterMap (es[·]?)) = Lv.map fun x => (es[x.2]?).getD (0, .none) := by
      show (Lv.map (·.2)).filterMap (es[·]?) = _
      rw [List.filterMap_map]
      clear perm mem ndL p2 rs
      generalize Lv = L at inr
      induction L with
      | nil => rfl
      | cons x r ih =>
        have hx := inr x List.mem_cons_self
        have ex : es[x.2]? = some es[x.2] := List.getElem?_eq_getElem hx
        rw [List.filterMap_cons_some (f := (fun x => es[x]?) ∘ fun x : Nat × Nat => x.2) (a := x) (b := es[x.2]) ex, ih fun y hy => inr y (List.mem_cons_of_mem _ hy), List.map_cons, ex]
        rfl
    rw [es']
    have pl : (Lv.map (·.1)).toArray.toList = Lv.map (·.1) := rfl
    have ll : Lv.length = es.length := by
      have := p2.length_eq
      simpa using this
    refine ⟨g, rs, rfl, by rw [pl, List.length_map, List.length_map], by rw [List.length_map, ll]; exact hl, fun y hy => ?_⟩
    have hy' : y ∈ (Lv.map (·.1)).zip (Lv.map fun x => (es[x.2]?).getD (0, .none)) := hy
    rw [List.zip_map'] at hy'
    obtain ⟨x, hx, rfl⟩ := List.mem_map.mp hy'
    obtain ⟨h, e1, e2⟩ := o.rc x ((mem x).mp hx)
    have e3 : ((es[x.2]?).getD (0, .none)).1 = h := by
      rw [hh, List.getElem?_map] at e1
      obtain ⟨z, ez, rfl⟩ := Option.map_eq_some_iff.mp e1
      rw [ez]
      rfl
    show Rch _ _ ((es[x.2]?).getD (0, .none)).1 x.1
    rw [e3]
    exact Rch.mono (t := t0) rfl (fun a ha => (perm.map (·.1)).mem_iff.mpr ha) e2
/-! ### one more -/
structure SOk (t : SetTable) (es : List (Int × Value)) : Prop where
  ok : TOk t es
  nf : es.length * 5 < t.mask * 3
theorem sok_fresh (f m : Nat) (led : Bool) : SOk (.fresh f m led) [] := ⟨tok_fresh f m led, by show 0 * 5 < 7 * 3; decide⟩
theorem SOk.room {t : SetTable} {es : List (Int × Value)} (k : SOk t es) : es.length + 1 ≤ t.mask := by
  have := k.nf
  rcases k.ok.gd with h | h | h <;> omega
theorem full_iff {t : SetTable} {es : List (Int × Value)} (k : TOk t es) : t.tooFull = decide (t.mask * 3 ≤ es.length * 5) := by
  unfold tooFull fill
  have h1 := k.sz
  rw [Array.length_toList] at h1
  rw [k.du, h1]
  rfl
theorem grown_ok {mask n : Nat} (g : Good mask) (hf : mask * 3 ≤ n * 5) (hp : (n - 1) * 5 < mask * 3) (hn : n ≤ 76) : Good (sizeAbove (grown n) - 1) ∧ n * 5 < (sizeAbove (grown n) - 1) * 3 ∧ n ≤ sizeAbove (grown n) - 1 ∧ sizeAbove (grown n) ≤ 128 := by
  rcases g with h | h | h
  · have : n = 5 := by omega
    subst this
    exact ⟨.inr (.inl (by decide +kernel)), by decide +kernel, by decide +kernel, by decide +kernel⟩
  · have : n = 19 := by omega
    subst this
    exact ⟨.inr (.inr (by decide +kernel)), by decide +kernel, by decide +kernel, by decide +kernel⟩
  · omega
/-- the table laid anew where it is too full -/
theorem relaid_ok {t : SetTable} {ea : Array (Int × Value)} (k : TOk t ea.toList) (hf : t.mask * 3 ≤ ea.size * 5) (hp : (ea.size - 1) * 5 < t.mask * 3) (hn : ea.size ≤ 76) :
    ∃ t' order, t.relaid (ea.map (·.1)) (grown ea.size) = some (t', order) ∧ t'.led = t.led ∧ t'.plain = t.plain ∧ order.toList.Perm (List.range ea.size) ∧ SOk t' (order.filterMap (ea[·]?)).toList := by
  obtain ⟨g1, g2, g3, _⟩ := grown_ok k.gd hf hp hn
  obtain ⟨t', order, e1, e2, e3, e4, e5, e6⟩ := laid_ok (f := t.finger) (m := t.movedTo (sizeAbove (grown ea.size) - 1)) (led := t.led) (plain := t.plain) (hashes := ea.map (·.1)) (es := ea.toList) g1 (by simp) (by rw [Array.length_toList]; exact g3)
  rw [Array.length_toList] at e5
  have e7 : (order.filterMap (ea[·]?)).toList = order.toList.filterMap (ea.toList[·]?) := by
    rw [Array.toList_filterMap]
    congr 1
    funext i
    exact (Array.getElem?_toList ..).symm
  refine ⟨t', order, e1, e3, e4, e5, ?_⟩
  rw [e7]
  refine ⟨e6, ?_⟩
  have hlen : (order.toList.filterMap (ea.toList[·]?)).length = ea.size := by
    have := (e5.filterMap (ea.toList[·]?)).length_eq
    rw [this]
    have := filterMap_getElem?_range ea
    have e8 : (fun i : Nat => ea.toList[i]?) = fun i : Nat => ea[i]? := by funext i; exact Array.getElem?_toList ..
    rw [e8, this, Array.length_toList]
  rw [hlen, e2]
  exact g2
end Tb

/-! sets of tuples -/
namespace Tb
open PySem PySem.SetTable
section
variable {prog : Program} {w : World} {K : Type} [DecidableEq K] (knd : KeyKind prog w K)
/-- the keys in the order in which they were met, each with the tuple that stands for it -/
def TSet (h : Heap) (a : Addr) (led : Bool) (xs : List (List K × Addr)) : Prop :=
  ∃ o es ep t, h.get? a = some o ∧ o.ExactSet ∧ o.data = .set es ep t ∧ SOk t es.toList ∧ t.led = led ∧ t.plain = true ∧ es.toList.Perm (xs.map fun x => (tupleKeyHash knd x.1, Value.ref x.2)) ∧ (xs.map (·.1)).Nodup ∧ ∀ x ∈ xs, IsTupleKey knd h x.1 x.2
variable {knd} {A : Around} {E : Value → Shared → Prop} {s : Shared}
theorem of_class {ks : List K} {b : Addr} {Q : Bool → Shared → Prop} (hk : IsTupleKey knd s.heap ks b) (h : Q false s) : wpAny (model prog w) A (ofAClassStatement 8 (.ref b)) Q E s := by
  have hT := hk.typeIs
  obtain ⟨o, items, n, ho, _, hd, hi⟩ := hk
  unfold ofAClassStatement
  refine wpAny_bind (wpAny_typeOf hT ?_)
  dsimp only
  rw [if_pos (by decide)]
  refine wpAny_bind (wpAny_pure ?_)
  rw [if_neg (by decide)]
  refine wpAny_bind (wpAny_seqItems ho hd ?_)
  dsimp only
  refine wpAny_bind ?_
  rw [← Array.forIn_toList]
  refine wpAny_forIn_list _ (fun rest r s' => r.1 = none ∧ s' = s ∧ ∀ v ∈ rest, carriedByValue v = true) _ ?_ ?_ _ _ ⟨rfl, rfl, hi.byValue⟩
  · rintro v rest r s' ⟨hr, rfl, hall⟩
    have hv := hall v List.mem_cons_self
    have e : ofAClassStatement 7 v = pure false := by
      cases v <;> first | rfl | (simp [carriedByValue] at hv; done) | (unfold ofAClassStatement; rfl)
    rw [e]
    refine wpAny_bind (wpAny_pure ?_)
    rw [if_neg (by decide)]
    exact wpAny_pure ⟨rfl, rfl, fun u hu' => hall u (List.mem_cons_of_mem _ hu')⟩
  · rintro ⟨r1, r2⟩ s' ⟨hr, rfl, _⟩
    simp only at hr
    subst hr
    exact wpAny_pure h
/-- nobody sees in which order the table asks -/
theorem not_seen {ks : List K} {b : Addr} {stored : List Value} {Q : Bool → Shared → Prop} (hk : IsTupleKey knd s.heap ks b) (hs : ∀ v ∈ stored, ∃ c k, v = Value.ref c ∧ IsTupleKey knd s.heap k c) (h : Q false s) : wpAny (model prog w) A (searchCouldBeSeen (.ref b) stored) Q E s := by
  unfold searchCouldBeSeen
  refine wpAny_bind ?_
  refine wpAny_forIn_list _ (fun rest r s' => r.1 = none ∧ s' = s ∧ ∀ v ∈ rest, ∃ c k, v = Value.ref c ∧ IsTupleKey knd s.heap k c) _ ?_ ?_ _ _ ⟨rfl, rfl, hs⟩
  · rintro v rest r s' ⟨hr, rfl, hall⟩
    obtain ⟨c, k, rfl, hc⟩ := hall v List.mem_cons_self
    have go : ∀ v ∈ rest, ∃ c k, v = Value.ref c ∧ IsTupleKey knd s'.heap k c := fun u hu' => hall u (List.mem_cons_of_mem _ hu')
    dsimp only
    split
    · exact wpAny_pure ⟨rfl, rfl, go⟩
    · refine wpAny_bind (wpAny_eqIsQuiet_tuple hk ?_)
      rw [if_neg (by decide)]
      refine wpAny_bind (wpAny_eqIsQuiet_tuple hc ?_)
      rw [if_neg (by decide)]
      refine wpAny_bind (of_class hk ?_)
      rw [if_neg (by decide)]
      refine wpAny_bind (of_class hc ?_)
      rw [if_neg (by decide)]
      exact wpAny_pure ⟨rfl, rfl, go⟩
  · rintro ⟨r1, r2⟩ s' ⟨hr, rfl, _⟩
    simp only at hr
    subst hr
    exact wpAny_pure h
/-- a tuple of ints, its parts by value -/
def PlainAt (h : Heap) (b : Addr) : Prop := ∃ o items n, h.get? b = some o ∧ o.data = .seq items n ∧ ∀ v ∈ items.toList, plainKind v = true
theorem by_value {ks : List K} {b : Addr} {Q : Bool → Shared → Prop} (hk : IsTupleKey knd s.heap ks b) (hp : PlainAt s.heap b) (h : Q true s) : wpAny (model prog w) A (hashByValue 8 (.ref b)) Q E s := by
  have hT := hk.typeIs
  obtain ⟨o, items, n, ho, hd, hi⟩ := hp
  unfold hashByValue
  refine wpAny_bind (wpAny_specialOf hT F.slot_tuple_hash.lookup ?_)
  show wpAny _ _ (seqItems? (Value.ref b) >>= _) _ _ _
  refine wpAny_bind (wpAny_seqItems ho hd ?_)
  refine wpAny_bind ?_
  show wpAny _ _ (forIn items _ _) _ _ s
  rw [← Array.forIn_toList]
  refine wpAny_forIn_list _ (fun rest r s' => r.1 = none ∧ s' = s ∧ ∀ v ∈ rest, plainKind v = true) _ ?_ ?_ _ _ ⟨rfl, rfl, hi⟩
  · rintro v rest r s' ⟨hr, rfl, hall⟩
    have hv := hall v List.mem_cons_self
    have e : hashByValue 7 v = pure true := by
      cases v <;> first | (unfold hashByValue; rfl) | cases hv
    rw [e]
    refine wpAny_bind (wpAny_pure ?_)
    rw [if_neg (by decide)]
    exact wpAny_pure ⟨rfl, rfl, fun u hu' => hall u (List.mem_cons_of_mem _ hu')⟩
  · rintro ⟨r1, r2⟩ s' ⟨hr, rfl, _⟩
    simp only at hr
    subst hr
    exact wpAny_pure h
theorem good_way {t : SetTable} (g : Good t.mask) : t.gaveWay = false := by
  unfold SetTable.gaveWay
  rcases g with h | h | h <;> rw [h] <;> rfl
/-- the search for a key -/
theorem search_from {a : Addr} {o : Obj} {es : Array (Int × Value)} {ep : Nat} {t : SetTable} {xs : List (List K × Addr)} {k : List K} {x : Addr} {Q : SetFound → Shared → Prop} (hu : A.units < cLine) (ho : s.heap.get? a = some o) (hd : o.data = .set es ep t) (hk : TOk t es.toList)
    (hp : es.toList.Perm (xs.map fun x => (tupleKeyHash knd x.1, Value.ref x.2))) (hx : ∀ x ∈ xs, IsTupleKey knd s.heap x.1 x.2) (kx : IsTupleKey knd s.heap k x) {pre post : List Nat} {e : Nat}
    (ew : wk t (t.probeStart (tupleKeyHash knd k)) (10 * turns t.mask) = pre ++ e :: post) (h1 : ∀ s ∈ pre, s ∈ t.place.toList) (h2 : e ∉ t.place.toList)
    (q1 : k ∈ xs.map (·.1) → Q (.there none) s) (q2 : k ∉ xs.map (·.1) → Q (.free e false) s) :
    ∀ (fuel m : Nat) (stand : Option Probe), m ≤ pre.length → pre.length - m < fuel → stand.getD (t.probeStart (tupleKeyHash knd k)) = adv t (t.probeStart (tupleKeyHash knd k)) m → (∀ z ∈ pre.take m, ∀ y, es[below t.place z]? = some y → ∀ p ∈ xs, y = (tupleKeyHash knd p.1, Value.ref p.2) → p.1 ≠ k) →
      wpAny (model prog w) A (setSearchFrom a (.ref x) (tupleKeyHash knd k) true fuel stand) Q E s := by
  intro fuel
  induction fuel with
  | zero => intro m stand _ hf; omega
  | succ fuel ih =>
    intro m stand hm hf est hno
    have hfit := hk.fits (n := es.size) (Array.length_toList ..)
    unfold setSearchFrom
    refine wpAny_bind (wpAny_setState_of ho hd hfit ?_)
    dsimp only
    rw [good_way hk.gd, if_neg (by decide)]
    have path : ∃ post', wk t (adv t (t.probeStart (tupleKeyHash knd k)) m) (10 * turns t.mask) = pre.drop m ++ e :: post' := by
      refine ⟨post ++ wk t (adv t (t.probeStart (tupleKeyHash knd k)) (10 * turns t.mask)) m, ?_⟩
      have e1 := wk_add t m (10 * turns t.mask) (t.probeStart (tupleKeyHash knd k))
      have e2 := wk_add t (10 * turns t.mask) m (t.probeStart (tupleKeyHash knd k))
      rw [Nat.add_comm m, e2, ew] at e1
      have e3 := congrArg (List.drop m) e1
      rw [List.drop_append_of_le_length (l₁ := pre ++ e :: post) (by rw [List.length_append]; omega), List.drop_append_of_le_length hm] at e3
      rw [List.drop_append_of_le_length (l₁ := wk t (t.probeStart (tupleKeyHash knd k)) m) (by rw [wk_len]; exact Nat.le_refl _), List.drop_of_length_le (l := wk t (t.probeStart (tupleKeyHash knd k)) m) (by rw [wk_len]; exact Nat.le_refl _), List.nil_append] at e3
      rw [← e3, List.append_assoc]
      rfl
    obtain ⟨post', ew'⟩ := path
    have inE : ∀ y ∈ es.toList, ∃ p ∈ xs, y = (tupleKeyHash knd p.1, Value.ref p.2) := fun y hy => by
      obtain ⟨p, hp1, hp2⟩ := List.mem_map.mp (hp.mem_iff.mp hy)
      exact ⟨p, hp1, hp2.symm⟩
    rcases probe_go (hashAt := fun i => (es[i]?.map (·.1)).getD 0) (h := tupleKeyHash knd k) hk.rs hk.du (pre.drop m) e post' _ _ ew' (fun z hz => h1 z (List.mem_of_mem_drop hz)) h2 (by rw [adv_dummy]; rfl) with ⟨hne, q⟩ | ⟨pre1, j, pre2, e1, hne, hj, q⟩
    · have q' : t.probe (fun i => (es[i]?.map (·.1)).getD 0) (tupleKeyHash knd k) (stand.getD (t.probeStart (tupleKeyHash knd k))) = some (.empty e none) := by rw [est]; exact q
      have nk : k ∉ xs.map (·.1) := fun hkx => by
        obtain ⟨p, hp1, hp2⟩ := List.mem_map.mp hkx
        have hy : (tupleKeyHash knd p.1, Value.ref p.2) ∈ es.toList := hp.mem_iff.mpr (List.mem_map.mpr ⟨p, hp1, rfl⟩)
        obtain ⟨z, z1, z2, z3⟩ := hk.slotOf hy
        have zr := hk.rc _ z2
        dsimp only at zr
        rw [hp2] at zr
        have zp := zr.ahead z1 ew h2
        have zp' : z ∈ pre.take m ++ pre.drop m := by rw [List.take_append_drop]; exact zp
        rw [Array.getElem?_toList] at z3
        rcases List.mem_append.mp zp' with z4 | z4
        · exact hno z z4 _ z3 p hp1 rfl hp2
        · have := hne z z4
          rw [z3] at this
          have e9 : ((tupleKeyHash knd p.1 : Int) == tupleKeyHash knd k) = true := by rw [hp2]; exact beq_self_eq_true _
          rw [show (((some (tupleKeyHash knd p.1, Value.ref p.2)).map (·.1)).getD 0) = tupleKeyHash knd p.1 from rfl, e9] at this
          cases this
      split
      · rename_i met hmet
        have em : some met = some (Met.empty e none) := hmet.symm.trans q'
        cases em
        exact wpAny_pure (q2 nk)
      · rename_i hmet
        exact absurd (hmet _ q') (fun z => z)
    · have q' : t.probe (fun i => (es[i]?.map (·.1)).getD 0) (tupleKeyHash knd k) (stand.getD (t.probeStart (tupleKeyHash knd k))) = some (.candidate j (below t.place j) (adv t (adv t (t.probeStart (tupleKeyHash knd k)) m) (pre1.length + 1))) := by rw [est]; exact q
      have jd : j ∈ pre.drop m := by rw [e1]; exact List.mem_append_right _ List.mem_cons_self
      have jp : j ∈ t.place.toList := h1 j (List.mem_of_mem_drop jd)
      obtain ⟨y, ey, ez⟩ := hk.entry jp
      obtain ⟨p, hp1, rfl⟩ := inE y (List.mem_of_getElem? ey)
      rw [Array.getElem?_toList] at ey
      have stored : ∀ v ∈ (es.filter fun x => x.1 == tupleKeyHash knd k).toList.map (·.2), ∃ c k, v = Value.ref c ∧ IsTupleKey knd s.heap k c := fun v hv => by
        obtain ⟨u, hu1, rfl⟩ := List.mem_map.mp hv
        rw [Array.toList_filter] at hu1
        obtain ⟨p', hp', rfl⟩ := inE u (List.mem_filter.mp hu1).1
        exact ⟨p'.2, p'.1, rfl, hx p' hp'⟩
      have hlen : (pre.drop m).length = pre1.length + (pre2.length + 1) := by rw [e1, List.length_append, List.length_cons]
      rw [List.length_drop] at hlen
      have mem1 : t.sameMemory t.moves t.mask = some true := by
        unfold sameMemory
        rw [if_pos (beq_self_eq_true _)]
      have cont : p.1 ≠ k → wpAny (model prog w) A (setSearchFrom a (Value.ref x) (tupleKeyHash knd k) true fuel (some (adv t (adv t (t.probeStart (tupleKeyHash knd k)) m) (pre1.length + 1)))) Q E s := fun hpk => by
        refine ih (m + (pre1.length + 1)) _ (by omega) (by omega) ?_ fun z hz y' ey' p' hp' e' hk' => ?_
        · show adv t (adv t (t.probeStart (tupleKeyHash knd k)) m) (pre1.length + 1) = _
          exact (adv_add t m (pre1.length + 1) _).symm
        · have hz' : z ∈ pre.take m ++ (pre1 ++ [j]) := by
            have e5 : pre.take (m + (pre1.length + 1)) = pre.take m ++ (pre.drop m).take (pre1.length + 1) := List.take_add
            rw [e5, e1] at hz
            have e6 : (pre1 ++ j :: pre2).take (pre1.length + 1) = pre1 ++ [j] := by
              rw [List.take_append, List.take_of_length_le (by omega), show pre1.length + 1 - pre1.length = 1 by omega]
              rfl
            rw [e6] at hz
            exact hz
          rcases List.mem_append.mp hz' with h | h
          · exact hno z h y' ey' p' hp' e' hk'
          rcases List.mem_append.mp h with h | h
          · have := hne z h
            rw [ey', e'] at this
            have e9 : ((tupleKeyHash knd p'.1 : Int) == tupleKeyHash knd k) = true := by rw [hk']; exact beq_self_eq_true _
            rw [show (((some (tupleKeyHash knd p'.1, Value.ref p'.2)).map (·.1)).getD 0) = tupleKeyHash knd p'.1 from rfl, e9] at this
            cases this
          · cases List.mem_singleton.mp h
            rw [ey] at ey'
            have e7 : (tupleKeyHash knd p.1, Value.ref p.2) = (tupleKeyHash knd p'.1, Value.ref p'.2) := (Option.some.inj ey').trans e'
            have e8 : p.2 = p'.2 := Value.ref.inj (congrArg Prod.snd e7)
            have h7 := hx p hp1
            rw [e8] at h7
            exact hpk ((h7.inj (hx p' hp')).trans hk')
      split
      · rename_i met hmet
        have em : some met = some (Met.candidate j (below t.place j) (adv t (adv t (t.probeStart (tupleKeyHash knd k)) m) (pre1.length + 1))) := hmet.symm.trans q'
        cases em
        dsimp only
        split
        · refine wpAny_bind (not_seen kx stored ?_)
          rw [if_neg (by decide), ey]
          refine wpAny_bind (wpAny_holding (wpAny_eqBool_tuple hu (hx p hp1) kx ?_))
          refine wpAny_bind (wpAny_setState_of ho hd hfit ?_)
          dsimp only
          by_cases hpk : p.1 = k
          · rw [decide_eq_true hpk, if_pos (by decide)]
            exact wpAny_pure (q1 (List.mem_map.mpr ⟨p, hp1, hpk⟩))
          · rw [decide_eq_false hpk, if_neg (by decide), mem1]
            dsimp only
            rw [if_pos rfl, slot_live hk.rs jp]
            dsimp only
            rw [ey]
            dsimp only
            unfold isSame
            dsimp only
            rw [if_pos (beq_self_eq_true _)]
            refine wpAny_bind (wpAny_pure (wpAny_bind (wpAny_pure ?_)))
            rw [if_pos rfl]
            dsimp only
            rw [if_neg (by decide)]
            exact cont hpk
        · rw [ey]
          refine wpAny_bind (wpAny_holding (wpAny_eqBool_tuple hu (hx p hp1) kx ?_))
          refine wpAny_bind (wpAny_setState_of ho hd hfit ?_)
          dsimp only
          by_cases hpk : p.1 = k
          · rw [decide_eq_true hpk, if_pos (by decide)]
            exact wpAny_pure (q1 (List.mem_map.mpr ⟨p, hp1, hpk⟩))
          · rw [decide_eq_false hpk, if_neg (by decide), mem1]
            dsimp only
            rw [if_pos rfl, slot_live hk.rs jp]
            dsimp only
            rw [ey]
            dsimp only
            unfold isSame
            dsimp only
            rw [if_pos (beq_self_eq_true _)]
            refine wpAny_bind (wpAny_pure (wpAny_bind (wpAny_pure ?_)))
            rw [if_pos rfl]
            dsimp only
            rw [if_neg (by decide)]
            exact cont hpk
      · rename_i hmet
        exact absurd (hmet _ q') (fun z => z)
theorem search_key {a : Addr} {o : Obj} {es : Array (Int × Value)} {ep : Nat} {t : SetTable} {xs : List (List K × Addr)} {k : List K} {x : Addr} {Q : SetFound → Shared → Prop} (hu : A.units < cLine) (ho : s.heap.get? a = some o) (hd : o.data = .set es ep t) (hk : TOk t es.toList)
    (hp : es.toList.Perm (xs.map fun x => (tupleKeyHash knd x.1, Value.ref x.2))) (hx : ∀ x ∈ xs, IsTupleKey knd s.heap x.1 x.2) (kx : IsTupleKey knd s.heap k x) (hs : es.size ≤ 1000)
    (q1 : k ∈ xs.map (·.1) → Q (.there none) s) (q2 : k ∉ xs.map (·.1) → ∀ e, e ∉ t.place.toList → Rch t t.place.toList (tupleKeyHash knd k) e → Q (.free e false) s) :
    wpAny (model prog w) A (setSearch a (.ref x) (tupleKeyHash knd k) true) Q E s := by
  obtain ⟨pre, e, post, ew, h1, h2⟩ := hk.free (tupleKeyHash knd k)
  unfold setSearch
  refine search_from hu ho hd hk hp hx kx ew h1 h2 q1 (fun z => q2 z e h2 ⟨_, pre, post, ew, h1⟩) 100000 0 none (Nat.zero_le _) ?_ rfl fun z hz => nomatch hz
  have hl := wk_len t (10 * turns t.mask) (t.probeStart (tupleKeyHash knd k))
  rw [ew, List.length_append] at hl
  have : turns t.mask ≤ 142 := by
    show t.mask + 15 ≤ 142
    rcases hk.gd with h | h | h <;> omega
  omega
end
end Tb

namespace Tb
open PySem PySem.SetTable
section
variable {prog : Program} {w : World} {K : Type} [DecidableEq K] {knd : KeyKind prog w K} {A : Around} {E : Value → Shared → Prop} {s : Shared}
def addX (xs : List (List K × Addr)) (k : List K) (x : Addr) : List (List K × Addr) := if k ∈ xs.map (·.1) then xs else xs ++ [(k, x)]
theorem key_moves {h h' : Heap} {a b : Addr} {k : List K} {o : Obj} {es : Array (Int × Value)} {ep : Nat} {t : SetTable} (x : IsTupleKey knd h k b) (ho : h.get? a = some o) (hd : o.data = .set es ep t) (hs : Heap.SameBut a h h') : IsTupleKey knd h' k b := by
  obtain ⟨o', items, n, ho', hc, hd', hi⟩ := x
  have hne : b ≠ a := by
    rintro rfl
    obtain rfl : o' = o := Option.some.inj (ho'.symm.trans ho)
    rw [hd] at hd'; exact nomatch hd'
  exact ⟨o', items, n, (hs.2 b hne).trans ho', hc, hd', hi⟩
theorem put_plain {t : SetTable} {es : List (Int × Value)} (k : TOk t es) (e : Nat) : (t.put e).1.plain = t.plain ∧ (t.put e).1.led = t.led ∧ (t.put e).1.mask = t.mask := by
  rw [put_eq k]
  exact ⟨rfl, rfl, rfl⟩
theorem tset_add {a x : Addr} {led : Bool} {k : List K} {xs : List (List K × Addr)} {Q : Bool → Shared → Prop} (hu : A.units < cLine) (hS : TSet knd s.heap a led xs) (kx : IsTupleKey knd s.heap k x) (px : PlainAt s.heap x) (hn : xs.length ≤ 75)
    (q : ∀ b h', Heap.SameBut a s.heap h' → TSet knd h' a led (addX xs k x) → Q b { s with heap := h' }) : wpAny (model prog w) A (setAddHashed a (.ref x) (tupleKeyHash knd k)) Q E s := by
  have hS0 := hS
  obtain ⟨o, es, ep, t, ho, hex, hd, hk, hl, hpl, hp, hnd, hx⟩ := hS
  have hsz : es.size = xs.length := by have := hp.length_eq; rw [Array.length_toList, List.length_map] at this; exact this
  have hfit := hk.ok.fits (n := es.size) (Array.length_toList ..)
  unfold setAddHashed setAddHashedIn
  refine wpAny_holding (wpAny_bind (wpAny_setState_of ho hd hfit ?_))
  dsimp only
  have hb : byScan (Value.ref x) es = false := rfl
  rw [hb, if_neg (by decide)]
  refine wpAny_bind (search_key hu ho hd hk.ok hp hx kx (by omega) (fun hin => ?_) (fun hni e he hr => ?_))
  · dsimp only
    refine wpAny_pure ?_
    have e1 : s = { s with heap := s.heap } := by cases s; rfl
    rw [e1]
    refine q _ s.heap (Heap.SameBut.refl a s.heap) ?_
    unfold addX
    rw [if_pos hin]
    exact hS0
  · dsimp only
    refine wpAny_bind (wpAny_setState_of ho hd hfit ?_)
    dsimp only
    obtain ⟨p1, p2, p3⟩ := put_plain hk.ok e
    rw [p1, hpl, if_pos rfl]
    refine wpAny_bind (by_value kx px ?_)
    rw [if_pos rfl]
    have room := hk.room
    rw [Array.length_toList] at room
    have k1 : TOk (t.put e).1 (insertAt es (t.put e).2 (tupleKeyHash knd k, Value.ref x)).toList := hk.ok.put he hr (by rw [Array.length_toList]; exact room) rfl
    have hp1 : (insertAt es (t.put e).2 (tupleKeyHash knd k, Value.ref x)).toList.Perm ((xs ++ [(k, x)]).map fun x => (tupleKeyHash knd x.1, Value.ref x.2)) := by
      refine (insertAt_perm ..).trans ?_
      rw [Array.toList_push, List.map_append]
      exact hp.append_right _
    generalize hE : insertAt es (t.put e).2 (tupleKeyHash knd k, Value.ref x) = es1 at k1 hp1 ⊢
    have hsz1 : es1.size = xs.length + 1 := by have := hp1.length_eq; rw [Array.length_toList, List.length_map, List.length_append] at this; exact this
    have sl : es1.size ≤ sizeLine := by rw [sizeLine_eq]; omega
    refine wpAny_bind (wpAny_storeSet_of ho hd ?_ sl)
    have g1 : (s.heap.update a (Obj.putSet es1 (t.put e).1)).get? a = some { o with data := .set es1 (ep + 1) (t.put e).1 } := by
      have := Heap.get?_update_self (Obj.putSet es1 (t.put e).1) ho (by rw [putSet_of es1 (t.put e).1 hd]; rfl)
      rw [putSet_of es1 (t.put e).1 hd] at this; exact this
    have sb1 := Heap.SameBut.update s.heap a (Obj.putSet es1 (t.put e).1)
    have ax : addX xs k x = xs ++ [(k, x)] := if_neg hni
    have nd1 : ((xs ++ [(k, x)]).map (·.1)).Nodup := by
      rw [List.map_append]
      refine List.nodup_append.mpr ⟨hnd, by simp, fun u hu1 v hv e5 => ?_⟩
      have : v = k := by simpa using hv
      exact hni (by rw [← this, ← e5]; exact hu1)
    have keys : ∀ h', Heap.SameBut a s.heap h' → ∀ y ∈ xs ++ [(k, x)], IsTupleKey knd h' y.1 y.2 := fun h' sb y hy => by
      rcases List.mem_append.mp hy with z | z
      · exact key_moves (hx y z) ho hd sb
      · cases List.mem_singleton.mp z
        exact key_moves kx ho hd sb
    have full := full_iff k1
    rw [Array.length_toList, hsz1, p3] at full
    rw [Bool.not_false, Bool.true_and, full]
    by_cases hfull : t.mask * 3 ≤ (xs.length + 1) * 5
    · rw [decide_eq_true hfull, if_pos rfl]
      refine wpAny_bind ?_
      have nf := hk.nf
      rw [Array.length_toList, hsz] at nf
      obtain ⟨t', order, r1, r2, r3, r4, r5⟩ := relaid_ok (t := (t.put e).1) (ea := es1) k1 (by rw [p3, hsz1]; exact hfull) (by rw [p3, hsz1]; omega) (by omega)
      obtain ⟨_, _, _, gs⟩ := grown_ok (n := xs.length + 1) hk.ok.gd hfull (by omega) (by omega)
      have r6 : (order.filterMap (es1[·]?)).toList.Perm es1.toList := by
        rw [Array.toList_filterMap]
        exact (r4.filterMap _).trans (by rw [filterMap_getElem?_range])
      unfold setRelay
      refine wpAny_bind (wpAny_setState_of g1 rfl (k1.fits (n := es1.size) (Array.length_toList ..)) ?_)
      dsimp only
      rw [hsz, if_neg (by rw [sizeLine_eq]; omega)]
      rw [← hsz1, r1]
      have r7 : (order.filterMap (es1[·]?)).size = es1.size := by have := r6.length_eq; rw [Array.length_toList, Array.length_toList] at this; exact this
      refine wpAny_bind (show wpAny _ _ (do
        if (order.filterMap (es1[·]?)).size != es1.size then unsupported "internal:set-table-lost-an-element"
        pure (order.filterMap (es1[·]?), t')) _ _ _ from ?_)
      rw [r7, bne_self_eq_false, if_neg (by decide)]
      refine wpAny_pure ?_
      dsimp only
      generalize hE2 : order.filterMap (es1[·]?) = es2 at r5 r6 r7 ⊢
      refine wpAny_storeSet_of g1 rfl ?_ (by rw [r7]; exact sl)
      have g2 : ((s.heap.update a (Obj.putSet es1 (t.put e).1)).update a (Obj.putSet es2 t')).get? a = some { o with data := .set es2 (ep + 1 + 1) t' } := by
        have := Heap.get?_update_self (Obj.putSet es2 t') g1 (by rw [putSet_of es2 t' rfl]; rfl)
        rw [putSet_of es2 t' rfl] at this; exact this
      have sb2 := sb1.trans (Heap.SameBut.update (s.heap.update a (Obj.putSet es1 (t.put e).1)) a (Obj.putSet es2 t'))
      refine wpAny_pure (q _ _ sb2 ?_)
      rw [ax]
      exact ⟨_, es2, ep + 1 + 1, t', g2, hex, rfl, r5, by rw [r2, p2]; exact hl, by rw [r3, p1]; exact hpl, r6.trans hp1, nd1, keys _ sb2⟩
    · rw [decide_eq_false hfull, if_neg (by decide)]
      refine wpAny_pure (q _ _ sb1 ?_)
      rw [ax]
      exact ⟨_, es1, ep + 1, (t.put e).1, g1, hex, rfl, ⟨k1, by rw [Array.length_toList, hsz1, p3]; omega⟩, by rw [p2]; exact hl, by rw [p1]; exact hpl, hp1, nd1, keys _ sb1⟩
end
end Tb

/-! the walk of a set -/
namespace Tb
open PySem PySem.SetTable
theorem slot_sin : Slot "set_iterator" "__next__" "set_iterator.__next__" :=
  .of (owner := "set_iterator") (n := "__next__") (by rw [typeLookup_type, builtinLookup_eq_fast]; kernel_rfl) (by decide +kernel) (by decide +kernel) (by decide +kernel) (.inl (by decide +kernel)) (by rw [isSubtype_type]; kernel_rfl)
theorem slot_sii : Slot "set_iterator" "__iter__" "set_iterator.__iter__" :=
  .of (owner := "set_iterator") (n := "__iter__") (by rw [typeLookup_type, builtinLookup_eq_fast]; kernel_rfl) (by decide +kernel) (by decide +kernel) (by decide +kernel) (.inl (by decide +kernel)) (by rw [isSubtype_type]; kernel_rfl)
theorem entry_sin : entryFor table "set_iterator.__next__" = some Builtin.«set_iterator.__next__» := entryFor_of_tree (by kernel_rfl)
theorem entry_sii : entryFor table "set_iterator.__iter__" = some Builtin.«dict_keyiterator.__iter__» :=
  entryFor_alias (id' := "dict_keyiterator.__iter__") (by kernel_rfl) rfl (by decide +kernel) (by kernel_rfl)
theorem entry_siter : entryFor table "set.__iter__" = some Builtin.«frozenset.__iter__» :=
  entryFor_alias (id' := "frozenset.__iter__") (by kernel_rfl) rfl (by decide +kernel) (by kernel_rfl)
theorem owner_si : Manifest.owners.lookup (String.ofList ("set_iterator".toList.reverse).reverse) = some Manifest.sig_set_iterator := by kernel_rfl
theorem args_sin (a : Value) : argsOk "set_iterator.__next__" ⟨[a], []⟩ := by
  unfold argsOk; rw [signature?_of (id := "set_iterator.__next__") (n := "__next__".toList.reverse) (o := "set_iterator".toList.reverse) (by kernel_rfl) owner_si]; kernel_rfl
theorem args_sii (a : Value) : argsOk "set_iterator.__iter__" ⟨[a], []⟩ := by
  unfold argsOk; rw [signature?_of (id := "set_iterator.__iter__") (n := "__iter__".toList.reverse) (o := "set_iterator".toList.reverse) (by kernel_rfl) owner_si]; kernel_rfl
theorem erase_perm {α : Type} : ∀ (l : List α) (i : Nat) (h : i < l.length), (l[i] :: l.eraseIdx i).Perm l
  | _ :: _, 0, _ => List.Perm.refl _
  | a :: l, i + 1, h => (List.Perm.swap a _ _).trans ((erase_perm l i (Nat.lt_of_succ_lt_succ h)).cons a)
theorem pick_go {α : Type} (next : Nat → Nat) : ∀ (fuel k : Nat) (left : List α) (out : Array α), left.length = fuel → (pickOrder.go next fuel k left out).toList.Perm (out.toList ++ left)
  | 0, k, left, out, h => by
    rw [List.length_eq_zero_iff.mp h, List.append_nil]
    exact List.Perm.refl _
  | fuel + 1, k, left, out, h => by
    have hi : next k % left.length < left.length := Nat.mod_lt _ (by omega)
    have e : left[next k % left.length]? = some left[next k % left.length] := List.getElem?_eq_getElem hi
    unfold pickOrder.go
    rw [e]
    dsimp only
    refine (pick_go next fuel (k + 1) _ _ (by rw [List.length_eraseIdx_of_lt hi]; omega)).trans ?_
    rw [Array.toList_push, List.append_assoc]
    exact List.Perm.append_left _ (erase_perm left _ hi)
theorem pick_perm {α : Type} (next : Nat → Nat) (xs : Array α) : (pickOrder next xs).toList.Perm xs.toList := by
  have := pick_go next xs.size 0 xs.toList #[] (Array.length_toList ..)
  simpa [pickOrder] using this
/-- the set as it lies -/
def RawS (h : Heap) (a : Addr) (es : Array (Int × Value)) (ep : Nat) (t : SetTable) : Prop := ∃ o, h.get? a = some o ∧ o.ExactSet ∧ o.data = .set es ep t
/-- the order in which it is walked -/
def walkO (P : Params) (a ep : Nat) (es : Array (Int × Value)) : Array (Int × Value) := if P.followText "set-order" = true then pickOrder (P.setOrder a ep) es else es
theorem walk_perm (P : Params) (a ep : Nat) (es : Array (Int × Value)) : (walkO P a ep es).toList.Perm es.toList := by
  unfold walkO
  split
  · exact pick_perm _ _
  · exact List.Perm.refl _
theorem walk_size (P : Params) (a ep : Nat) (es : Array (Int × Value)) : (walkO P a ep es).size = es.size := by
  have := (walk_perm P a ep es).length_eq
  rw [Array.length_toList, Array.length_toList] at this
  exact this
/-- the iterator has told i of n -/
def SetIt (P : Params) (h : Heap) (it a : Addr) (t : SetTable) (i n ep : Nat) : Prop := ∃ slot : Nat, h.get? it = some { cls := .type "set_iterator", dict := none, data := .fields #[.int (slot : Int) 0, .int (i : Int) 0, .ref a, .int (n : Int) 0, .int (ep : Int) 0], slots := #[] } ∧ (P.followText "set-order" = false → below t.place slot = i)
section
variable {prog : Program} {w : World} {A : Around} {E : Value → Shared → Prop} {s : Shared} {a it : Addr} {es : Array (Int × Value)} {ep i : Nat} {t : SetTable}
theorem by_text {Q : Bool → Shared → Prop} (h : Q (w.params.followText "set-order") s) : wpAny (model prog w) A setsByText Q E s := by
  unfold setsByText
  exact wpAny_bind (wpAny_askSetting (wpAny_pure h))
theorem set_next {Q : Option (Value × Nat) → Shared → Prop} {slot : Nat} (hS : RawS s.heap a es ep t) (hk : SOk t es.toList) (hl : t.led = !w.params.followText "set-order") (hp : t.plain = true) (hb : w.params.followText "set-order" = false → below t.place slot = i)
    (q : ∀ nx : Nat, (w.params.followText "set-order" = false → i < es.size → below t.place nx = i + 1) → Q (((walkO w.params a ep es)[i]?).map fun e => (e.2, nx)) s) : wpAny (model prog w) A (setNext a slot i ep) Q E s := by
  obtain ⟨o, ho, hx, hd⟩ := hS
  have hf := hk.ok.fits (n := es.size) (Array.length_toList ..)
  unfold setNext
  refine wpAny_bind (wpAny_setState_of ho hd hf (wpAny_bind (by_text ?_)))
  dsimp only
  cases hT : w.params.followText "set-order" with
  | true =>
    rw [if_pos rfl, bne_self_eq_false, if_neg (by decide)]
    unfold setWalk
    refine wpAny_bind (wpAny_bind (wpAny_setState_of ho hd hf (wpAny_bind (by_text ?_))))
    rw [hT, if_pos rfl]
    refine wpAny_bind (wpAny_askSetting (wpAny_pure (wpAny_pure ?_)))
    have := q slot (fun z => by rw [hT] at z; cases z)
    unfold walkO at this
    rw [hT, if_pos rfl] at this
    exact this
  | false =>
    rw [if_neg (by decide)]
    have hl1 : t.led = true := by rw [hl, hT]; rfl
    split
    · rename_i z
      have z1 : (!t.plain && decide (es.size > 1)) = true := z
      rw [hp] at z1
      cases z1
    · refine wpAny_bind (show wpAny _ _ (if (!t.led && !es.isEmpty) = true then unsupported "set:maker-not-led" else pure ()) _ _ _ from ?_)
      rw [hl1, if_neg (by simp)]
      refine wpAny_pure (wpAny_pure ?_)
      rw [hb hT]
      have ew : walkO w.params a ep es = es := by unfold walkO; rw [hT, if_neg (by decide)]
      rw [ew] at q
      by_cases hi : i < es.size
      · have h1 := hk.ok.sz
        rw [Array.length_toList, Array.length_toList] at h1
        have hj : i < t.place.size := by omega
        have e1 : es[i]? = some es[i] := Array.getElem?_eq_getElem hi
        have e2 : t.place[i]? = some t.place[i] := Array.getElem?_eq_getElem hj
        have := q (t.place[i] + 1) (fun _ _ => below_next hk.ok.rs e2)
        rw [e1] at this ⊢
        rw [e2]
        exact this
      · have e1 : es[i]? = none := Array.getElem?_eq_none (by omega)
        have := q 0 (fun _ z => absurd z hi)
        rw [e1] at this ⊢
        exact this
end
end Tb

namespace Tb
open PySem PySem.SetTable
section
variable {prog : Program} {w : World} {A : Around} {E : Value → Shared → Prop} {s : Shared} {a it : Addr} {es : Array (Int × Value)} {ep i : Nat} {t : SetTable}
theorem si_ty {P : Params} {n : Nat} (h : SetIt P s.heap it a t i n ep) : s.TypeIs (.ref it) "set_iterator" := let ⟨_, e, _⟩ := h; ⟨_, e, rfl⟩
/-- what a set must be to be walked -/
structure WOk (P : Params) (h : Heap) (a : Addr) (es : Array (Int × Value)) (ep : Nat) (t : SetTable) : Prop where
  raw : RawS h a es ep t
  sok : SOk t es.toList
  led : t.led = !P.followText "set-order"
  pl : t.plain = true
theorem WOk.at {P : Params} {h h' : Heap} (x : WOk P h a es ep t) (k : ∀ o, h.get? a = some o → h'.get? a = some o) : WOk P h' a es ep t := ⟨let ⟨o, e, r⟩ := x.raw; ⟨o, k o e, r⟩, x.sok, x.led, x.pl⟩
theorem SetIt.at {P : Params} {h h' : Heap} {n : Nat} (x : SetIt P h it a t i n ep) (k : ∀ o, h.get? it = some o → h'.get? it = some o) : SetIt P h' it a t i n ep := let ⟨sl, e, r⟩ := x; ⟨sl, k _ e, r⟩
theorem si_next {e : Int × Value} {Q : Option Value → Shared → Prop} (hit : SetIt w.params s.heap it a t i es.size ep) (hw : WOk w.params s.heap a es ep t) (hx : (walkO w.params a ep es)[i]? = some e)
    (hQ : ∀ h', SetIt w.params h' it a t (i + 1) es.size ep → Heap.SameBut it s.heap h' → Q (some e.2) { s with heap := h' }) : wpAny (model prog w) A (pyNext (.ref it)) Q E s := by
  have ty := si_ty hit
  obtain ⟨slot, h1, hb⟩ := hit
  obtain ⟨o, ho, hex, hd⟩ := id hw.raw
  have hf := hw.sok.ok.fits (n := es.size) (Array.length_toList ..)
  have hi : i < es.size := by rw [← walk_size w.params a ep es]; exact (Array.getElem?_eq_some_iff.mp hx).1
  unfold pyNext
  refine wpAny_bind (wpAny_attempt (wpAny_callSpecial?_slot (name := Str.ofString "__next__") ty slot_sin (wpAny_call_entry slot_sin ty entry_sin ?_ (args_sin _))))
  unfold Builtin.«set_iterator.__next__»
  refine wpAny_bind (wpAny_pure ?_)
  try dsimp only
  refine wpAny_bind (wpAny_fieldsOf h1 rfl ?_)
  try dsimp only
  refine wpAny_bind (wpAny_setEntries_of ho hd hf ?_)
  rw [if_neg (by simp)]
  try dsimp only
  rw [Int.toNat_natCast, Int.toNat_natCast, Int.toNat_natCast]
  refine wpAny_bind (set_next (i := i) hw.raw hw.sok hw.led hw.pl hb fun nx hnx => ?_)
  rw [hx]
  dsimp only [Option.map]
  refine wpAny_bind (wpAny_setField_rec h1 (by simp) fun h2 e2 s2 => wpAny_bind (wpAny_setField_rec e2 (by simp) fun h3 e3 s3 => ?_))
  refine wpAny_pure ⟨_, rfl, wpAny_pure (hQ h3 ⟨nx, ?_, fun z => hnx z hi⟩ (s2.trans s3))⟩
  have z : ((i + 1 : Nat) : Int) = (i : Int) + 1 := by omega
  rw [z]
  simpa [rawInt] using e3
theorem si_end {Q : Option Value → Shared → Prop} (hh : A.handled = none) (hit : SetIt w.params s.heap it a t i es.size ep) (hw : WOk w.params s.heap a es ep t) (hx : (walkO w.params a ep es)[i]? = none)
    (hQ : ∀ h', Heap.ExtBut it s.heap h' → Q none { s with heap := h' }) : wpAny (model prog w) A (pyNext (.ref it)) Q E s := by
  have ty := si_ty hit
  obtain ⟨slot, h1, hb⟩ := hit
  obtain ⟨o, ho, hex, hd⟩ := id hw.raw
  have hf := hw.sok.ok.fits (n := es.size) (Array.length_toList ..)
  unfold pyNext
  refine wpAny_bind (wpAny_attempt (wpAny_callSpecial?_slot (name := Str.ofString "__next__") ty slot_sin (wpAny_call_entry slot_sin ty entry_sin ?_ (args_sin _))))
  unfold Builtin.«set_iterator.__next__»
  refine wpAny_bind (wpAny_pure ?_)
  try dsimp only
  refine wpAny_bind (wpAny_fieldsOf h1 rfl ?_)
  try dsimp only
  refine wpAny_bind (wpAny_setEntries_of ho hd hf ?_)
  rw [if_neg (by simp)]
  try dsimp only
  rw [Int.toNat_natCast, Int.toNat_natCast, Int.toNat_natCast]
  refine wpAny_bind (set_next (i := i) hw.raw hw.sok hw.led hw.pl hb fun nx hnx => ?_)
  rw [hx]
  dsimp only [Option.map]
  refine wpAny_bind (wpAny_setField h1 rfl (by simp) ?_)
  show wpAny _ _ (newExc (.type "StopIteration") [] >>= fun _ => _) _ _ _
  refine wpAny_bind ?_
  simp only [newExc, newTuple]
  refine wpAny_bind (wpAny_newObj_type (wpAny_bind (m := firstArgMember _ _) (wpAny_of_eq (a := Value.none) (by first | rfl | (simp only [firstArgMember]; rfl)) (wpAny_newObj_type ?_ (by size_fits)))) (by size_fits))
  simp only [raiseNew]
  refine wpAny_bind (wpAny_handled ?_)
  rw [show A.in1.handled = none from hh]
  refine wpAny_bind (wpAny_pure (wpAny_throw ?_)); refine wpAny_bind (wpAny_isInstance (T := "StopIteration") (b := true) ⟨_, Heap.get?_push_size _ rfl, rfl⟩ isSubtype_stop ?_)
  exact wpAny_pure (hQ _ (((Heap.SameBut.update ..).extBut.push _).push _))
theorem si_self {n : Nat} {P : Params} {Q : Value → Shared → Prop} (hit : SetIt P s.heap it a t i n ep) (h : Q (.ref it) s) : wpAny (model prog w) A (pyIter (.ref it)) Q E s := by
  have ty := si_ty hit
  refine wpAny_pyIter_slot ty slot_sii (wpAny_call_entry slot_sii ty entry_sii ?_ (args_sii _))
  exact wpAny_pure ⟨_, rfl, "set_iterator", _, ty, slot_sin.lookup, h⟩
theorem si_make {Q : Value → Shared → Prop} (hw : WOk w.params s.heap a es ep t) (hQ : ∀ h', h' = s.heap.push { cls := .type "set_iterator", dict := none, data := .fields #[.int ((0 : Nat) : Int) 0, .int ((0 : Nat) : Int) 0, .ref a, .int (es.size : Int) 0, .int (ep : Int) 0], slots := #[] } → SetIt w.params h' s.heap.objs.size a t 0 es.size ep → Q (.ref s.heap.objs.size) { s with heap := h' }) :
    wpAny (model prog w) A (pyIter (.ref a)) Q E s := by
  obtain ⟨o, ho, hex, hd⟩ := id hw.raw
  have ty : s.TypeIs (.ref a) "set" := ⟨o, ho, hex.1⟩
  have hf := hw.sok.ok.fits (n := es.size) (Array.length_toList ..)
  refine wpAny_pyIter_slot ty F.slot_set_iter (wpAny_call_entry F.slot_set_iter ty entry_siter ?_ (F.args_set_iter_1 _))
  unfold Builtin.«frozenset.__iter__» Builtin.Frozenset.slot0 slotArgs
  simp only [List.isEmpty_nil, Bool.not_true, Bool.false_eq_true, ↓reduceIte, bind_assoc, List.length_nil, bne_self_eq_false]
  unfold Builtin.Frozenset.addrOf Builtin.Frozenset.sizeOf
  refine wpAny_bind (wpAny_pure (wpAny_bind (wpAny_pure (wpAny_bind (wpAny_bind (wpAny_setEntries_of ho hd hf (wpAny_pure ?_)))))))
  unfold setDrawn
  refine wpAny_bind (wpAny_bind (wpAny_setState_of ho hd hf (wpAny_bind (by_text (wpAny_pure ?_)))))
  rw [if_neg (show ¬ _ from fun z => by
    have z1 : (!w.params.followText "set-order" && (!t.plain && decide (es.size > 1))) = true := z
    rw [hw.pl] at z1
    simp at z1)]
  refine wpAny_bind (wpAny_pure (wpAny_bind (wpAny_setEpoch_of ho hd hf (wpAny_bind ?_))))
  refine wpAny_newObj_type (wpAny_pure ⟨_, rfl, "set_iterator", _, ⟨_, Heap.get?_push_size _ rfl, rfl⟩, slot_sin.lookup, hQ _ rfl ⟨0, Heap.get?_push_size _ rfl, fun _ => below_zero hw.sok.ok.rs⟩⟩)
theorem si_walks (hh : A.handled = none) (hne : a ≠ it) : Walks prog w A it [it, a] [it] es.size (fun i v => ∃ e, (walkO w.params a ep es)[i]? = some e ∧ v = e.2) (fun i h => SetIt w.params h it a t i es.size ep ∧ WOk w.params h a es ep t) where
  sub := fun b hb => by simp at hb; simp [hb]
  frame := fun _ _ _ st hk => ⟨st.1.at fun o e => hk it (by simp) o e, st.2.at fun o e => hk a (by simp) o e⟩
  item := fun i s Q E hi st hQ => by
    have hz := walk_size w.params a ep es
    have hx : (walkO w.params a ep es)[i]? = some (walkO w.params a ep es)[i] := Array.getElem?_eq_getElem (by omega)
    refine si_next st.1 st.2 hx fun h' hit' hs' => ?_
    exact hQ _ h' s.toks ⟨_, hx, rfl⟩ ⟨hit', st.2.at fun o e => (hs'.2 a hne).trans e⟩ fun b o hb e => hs'.extBut b o (fun h => hb (by simp [h])) e
  done := fun s Q E st hQ => si_end hh st.1 st.2 (Array.getElem?_eq_none (by rw [walk_size]; exact Nat.le_refl _)) fun h' he' => hQ h' s.toks fun b o hb e => he' b o (fun h => hb (by simp [h])) e
  self := fun _ _ _ _ st hQ => si_self st.1 hQ
end
end Tb

namespace Tb
open PySem PySem.SetTable
theorem ite_sp {M : Model} {A : Around} {α : Type} {c : Prop} [Decidable c] {x y : Sem α} {Q : α → Shared → Prop} {E : Value → Shared → Prop} {s : Shared} (h1 : c → wpAny M A x Q E s) (h2 : ¬ c → wpAny M A y Q E s) : wpAny M A (if c then x else y) Q E s := by
  by_cases h : c
  · rw [if_pos h]; exact h1 h
  · rw [if_neg h]; exact h2 h
section
variable {prog : Program} {w : World} {A : Around} {E : Value → Shared → Prop} {s : Shared} {a : Addr} {es : Array (Int × Value)} {ep : Nat} {t : SetTable}
theorem set_hint {Q : Bool → Shared → Prop} (ty : s.TypeIs (.ref a) "set") (h : Q false s) : wpAny (model prog w) A (Builtin.List.listLengthHint (.ref a)) Q E s := by
  unfold Builtin.List.listLengthHint
  refine wpAny_bind (wpAny_specialOf ty PySem.F.slot_set_len.lookup ?_)
  generalize hid : ("set.__len__" : String) = id0
  wp_delta
  rw [show splitId id0 = some ("set", "__len__") from by subst hid; decide +kernel]
  subst hid
  refine wpAny_bind (wpAny_isInstance (T := "set") (b := true) ty (by rw [isSubtype_type]; kernel_rfl) ?_)
  refine ite_sp (fun z => absurd z (by decide)) (fun _ => ite_sp (fun _ => ?_) (fun z => absurd (by decide +kernel) z))
  exact wpAny_bind (wpAny_typeOf ty (wpAny_pure h))
theorem set_collect {R : List Value → Shared → Prop} (hh : A.handled = none) (hw : WOk w.params s.heap a es ep t) (hn : es.size ≤ sizeLine)
    (hR : ∀ (h' : Heap) (tk : Nat), (∀ b o, s.heap.get? b = some o → h'.get? b = some o) → R ((walkO w.params a ep es).toList.map (·.2)) { s with heap := h', toks := tk }) : wpAny (model prog w) A (collect (.ref a)) R E s := by
  obtain ⟨o, ho, hex, hd⟩ := id hw.raw
  have la : a < s.heap.objs.size := Heap.lt_size ho
  unfold collect
  refine wpAny_bind (wpAny_runValue (codeAny_builtin PySem.F.entry_proto_collect ?_))
  rw [Around.under_plainId PySem.F.plain_proto_collect _]
  show wpAny _ A.in1 (newList [] >>= fun l => again (.builtin "list.__iadd__" (Args.mk [l, .ref a] []))) _ _ s
  refine wpAny_bind (wpAny_newObj_type (wpAny_pure ⟨plainId_quiet PySem.F.plain_list_iadd _, codeAny_builtin PySem.F.entry_list_iadd ?_⟩))
  rw [Around.under_plainId PySem.F.plain_list_iadd _]
  show wpAny _ A.in1 (Builtin.List.listExtendWith (.ref s.heap.objs.size) (.ref a) (.ref s.heap.objs.size)) _ _ _
  have hw1 : WOk w.params (s.heap.push { cls := .type "list", data := .seq ([] : List Value).toArray }) a es ep t := hw.at fun o e => Heap.get?_push_of_some _ e
  have ty1 : Shared.TypeIs { s with heap := s.heap.push { cls := .type "list", data := .seq ([] : List Value).toArray } } (.ref a) "set" := ⟨o, Heap.get?_push_of_some _ ho, hex.1⟩
  unfold Builtin.List.listExtendWith
  refine wpAny_bind (wpAny_typeOf (T := "set") ty1 ?_)
  have b1 : Builtin.List.listSameRef (.ref s.heap.objs.size) (.ref a) = false := by simp only [Builtin.List.listSameRef, beq_eq_false_iff_ne]; exact Nat.ne_of_gt la
  rw [b1, if_neg (by decide)]
  refine wpAny_bind (si_make (s := { s with heap := s.heap.push { cls := .type "list", data := .seq ([] : List Value).toArray } }) hw1 fun h2 e2 it2 => ?_)
  have k2 : ∀ b o, (s.heap.push { cls := .type "list", data := .seq ([] : List Value).toArray }).get? b = some o → h2.get? b = some o := fun b o e => by rw [e2]; exact Heap.get?_push_of_some _ e
  have hw2 : WOk w.params h2 a es ep t := hw1.at fun o e => k2 _ _ e
  have eI : (s.heap.push { cls := .type "list", data := .seq ([] : List Value).toArray }).objs.size = s.heap.objs.size + 1 := Heap.size_push ..
  refine wpAny_bind (wpAny_holding (set_hint (s := { s with heap := h2 }) ⟨o, k2 _ _ (Heap.get?_push_of_some _ ho), hex.1⟩ ?_))
  refine ite_sp (fun _ => ?_) (fun z => absurd (by decide +kernel) z)
  refine wpAny_bind (wpAny_rule (wpAny_bind ?_))
  have eS : h2.get? s.heap.objs.size = some { cls := .type "list", data := .seq ([] : List Value).toArray } := k2 _ _ (Heap.get?_push_size _ rfl)
  show wpAny _ _ (updateSeq s.heap.objs.size (·.push .none) >>= fun _ => updateSeq s.heap.objs.size (·.pop)) _ _ _
  have eS2 := Heap.get?_update_self (Obj.mapSeq (·.push Value.none)) eS rfl
  have eS3 := Heap.get?_update_self (Obj.mapSeq (·.pop)) eS2 rfl
  have up : ∀ b o, b ≠ s.heap.objs.size → h2.get? b = some o → ((h2.update s.heap.objs.size (Obj.mapSeq (·.push Value.none))).update s.heap.objs.size (Obj.mapSeq (·.pop))).get? b = some o := fun b o nb e => (Heap.get?_update_other _ _ (Ne.symm nb)).trans ((Heap.get?_update_other _ _ (Ne.symm nb)).trans e)
  have W := (si_walks (prog := prog) (w := w) (A := A.in1) (a := a) (it := (s.heap.push { cls := .type "list", data := .seq ([] : List Value).toArray }).objs.size) (es := es) (ep := ep) (t := t) hh (by rw [eI]; exact Nat.ne_of_lt (Nat.lt_succ_of_lt la))).toS
  refine wpAny_bind (wpAny_updateSeq eS rfl (wpAny_updateSeq (hz := by seq_fits) eS2 rfl (wpAny_pure ⟨plainId_quiet PySem.F.plain_extend_loop _, ?_⟩)))
  refine codeAny_extend_loopS W hn s.heap.objs.size (by rw [eI]; simp only [List.mem_cons, List.not_mem_nil, or_false, not_or]; exact ⟨Nat.ne_of_lt (Nat.lt_succ_self _), Nat.ne_of_gt la⟩) _ es.size 0 _ _ _ (Nat.sub_zero _) (Nat.zero_le _) ⟨it2.at fun o e => up _ _ (by rw [eI]; exact Nat.ne_of_gt (Nat.lt_succ_self _)) e, hw2.at fun o e => up _ _ (Nat.ne_of_lt la) e⟩ eS3 (ItemsOf.nil _) fun s' acc c hm hS ia => ?_
  obtain ⟨h', g', d', tk', os'⟩ := s'
  obtain rfl : g' = s.gens := hm.gens
  obtain rfl : d' = s.drawn := hm.drawn
  obtain rfl : os' = s.os := hm.os
  show wpAny _ A (load s.heap.objs.size >>= fun _ => _) _ _ _
  refine wpAny_bind (wpAny_load hS (wpAny_pure ?_))
  have ea : acc.toList = (walkO w.params a ep es).toList.map (·.2) := by
    apply List.ext_getElem?
    intro j
    rw [List.getElem?_map, Array.getElem?_toList, Array.getElem?_toList]
    cases hj : acc[j]? with
    | some v =>
      obtain ⟨e, e1, rfl⟩ := ia.2 j v hj
      rw [e1]
      rfl
    | none =>
      have h1 := Array.getElem?_eq_none_iff.mp hj
      rw [ia.1] at h1
      rw [Array.getElem?_eq_none (by rw [walk_size]; exact h1)]
      rfl
  show R acc.toList _
  rw [ea]
  refine hR h' tk' fun b o e => hm.heap b o ?_ (up b o (Nat.ne_of_lt (Heap.lt_size e)) (k2 b o (Heap.get?_push_of_some _ e)))
  have lb := Heap.lt_size e
  rw [eI]
  simp only [List.mem_cons, List.not_mem_nil, or_false, not_or]
  exact ⟨Nat.ne_of_lt lb, Nat.ne_of_lt (Nat.lt_succ_of_lt lb)⟩
end
end Tb

namespace Tb
open PySem PySem.SetTable
section
variable {prog : Program} {w : World} {K : Type} [DecidableEq K] {knd : KeyKind prog w K} {A : Around} {E : Value → Shared → Prop} {s : Shared}
def met (l : List (List K × Addr)) : List (List K × Addr) := l.foldl (fun xs x => addX xs x.1 x.2) []
theorem met_snoc (l : List (List K × Addr)) (x : List K × Addr) : met (l ++ [x]) = addX (met l) x.1 x.2 := by
  unfold met
  rw [List.foldl_append]
  rfl
theorem addX_len (xs : List (List K × Addr)) (k : List K) (x : Addr) : (addX xs k x).length ≤ xs.length + 1 := by
  unfold addX
  split
  · omega
  · rw [List.length_append]; exact Nat.le_refl _
theorem met_len : ∀ (n : Nat) (l : List (List K × Addr)), l.length = n → (met l).length ≤ n
  | 0, l, h => by rw [List.length_eq_zero_iff.mp h]; exact Nat.le_refl _
  | n + 1, l, h => by
    obtain ⟨r, x, rfl⟩ : ∃ r x, l = r ++ [x] := ⟨l.dropLast, l.getLast (by intro z; rw [z] at h; cases h), (List.dropLast_concat_getLast _).symm⟩
    rw [met_snoc]
    have h1 := addX_len (met r) x.1 x.2
    have h2 := met_len n r (by rw [List.length_append] at h; exact Nat.succ.inj h)
    omega
/-- the tuples that come -/
def Comes (knd : KeyKind prog w K) (h : Heap) (items : List (List K × Addr)) : Prop := ∀ x ∈ items, IsTupleKey knd h x.1 x.2 ∧ PlainAt h x.2
theorem Comes.at {h h' : Heap} {items : List (List K × Addr)} (c : Comes knd h items) (k : ∀ x ∈ items, ∀ o, h.get? x.2 = some o → h'.get? x.2 = some o) : Comes knd h' items := fun x hx => by
  obtain ⟨⟨o, its, n, e, r⟩, o2, it2, n2, e2, r2⟩ := c x hx
  exact ⟨⟨o, its, n, k x hx _ e, r⟩, o2, it2, n2, k x hx _ e2, r2⟩
theorem TSet.at {h h' : Heap} {a : Addr} {led : Bool} {xs : List (List K × Addr)} (S : TSet knd h a led xs) (k : ∀ o, h.get? a = some o → h'.get? a = some o) (kx : ∀ x ∈ xs, ∀ o, h.get? x.2 = some o → h'.get? x.2 = some o) : TSet knd h' a led xs := by
  obtain ⟨o, es, ep, t, ho, hex, hd, hk, hl, hp, h1, h2, h3⟩ := S
  refine ⟨o, es, ep, t, k o ho, hex, hd, hk, hl, hp, h1, h2, fun x hx => ?_⟩
  obtain ⟨o', its, n, e, r⟩ := h3 x hx
  exact ⟨o', its, n, kx x hx _ e, r⟩
theorem met_sub : ∀ (n : Nat) (l : List (List K × Addr)), l.length = n → ∀ x ∈ met l, x ∈ l
  | 0, l, h => by rw [List.length_eq_zero_iff.mp h]; exact fun x hx => nomatch hx
  | n + 1, l, h => by
    obtain ⟨r, y, rfl⟩ : ∃ r x, l = r ++ [x] := ⟨l.dropLast, l.getLast (by intro z; rw [z] at h; cases h), (List.dropLast_concat_getLast _).symm⟩
    intro x hx
    rw [met_snoc] at hx
    unfold addX at hx
    have ih := met_sub n r (by rw [List.length_append] at h; exact Nat.succ.inj h)
    split at hx
    · exact List.mem_append_left _ (ih x hx)
    · rcases List.mem_append.mp hx with z | z
      · exact List.mem_append_left _ (ih x z)
      · exact List.mem_append_right _ z
theorem tset_loop {R : Result → Shared → Prop} {I : Addr} {fp wr : List Addr} {G : Array GenState → Array GenState → Prop} {P : Nat → Value → Prop} {St : Nat → Shared → Prop} {items : List (List K × Addr)} (W : WalksS prog w A.in1 I fp wr G items.length P St) (S : Addr) (hSf : S ∉ fp) (led : Bool) (hu : A.in1.units < cLine)
    (hval : ∀ i v, P i v → ∃ x, items[i]? = some x ∧ v = .ref x.2) (hb : items.length ≤ 75) (hwr : ∀ x ∈ items, x.2 ∉ wr) (hxS : ∀ x ∈ items, x.2 ≠ S) :
    ∀ (k i : Nat) (s : Shared), items.length - i = k → i ≤ items.length → St i s → TSet knd s.heap S led (met (items.take i)) → Comes knd s.heap items →
      (∀ s', Moved (S :: wr) G s s' → TSet knd s'.heap S led (met items) → R (.ok (.ret .none)) s') →
      codeAny (model prog w) A (.builtin "set.update.loop" (Args.mk [.ref S, .ref I] [])) R s := by
  have nw : S ∉ wr := fun h => hSf (W.sub _ h)
  have up : ∀ b ∈ wr, b ∈ S :: wr := fun b hb => List.mem_cons_of_mem _ hb
  intro k
  induction k with
  | zero =>
    intro i s hk hi hst hS hc hR
    obtain rfl : i = items.length := by omega
    refine codeAny_builtin PyProof.Rows.F.entry_set_update_loop ?_
    rw [Around.under_plainId PyProof.Rows.F.plain_set_update_loop _]
    show wpAny _ A.in1 (pyNext (.ref I) >>= fun _ => _) _ _ s
    refine wpAny_bind (W.done s _ _ hst fun s' hm => ?_)
    rw [List.take_length] at hS
    refine wpAny_pure (hR s' (hm.mono up) (hS.at (fun o e => hm.heap S _ nw e) fun x hx o e => hm.heap _ o (hwr x (met_sub _ items rfl x hx)) e))
  | succ k ih =>
    intro i s hk hi hst hS hc hR
    have hlt : i < items.length := by omega
    refine codeAny_builtin PyProof.Rows.F.entry_set_update_loop ?_
    rw [Around.under_plainId PyProof.Rows.F.plain_set_update_loop _]
    show wpAny _ A.in1 (pyNext (.ref I) >>= fun _ => _) _ _ s
    refine wpAny_bind (W.item i s _ _ hlt hst fun v s' hP hst' hm => ?_)
    obtain ⟨x, hx, rfl⟩ := hval i v hP
    have xm : x ∈ items := List.mem_of_getElem? hx
    have sub : ∀ y ∈ met (items.take i), y ∈ items := fun y hy => List.mem_of_mem_take (met_sub _ (items.take i) rfl y hy)
    have hS' : TSet knd s'.heap S led (met (items.take i)) := hS.at (fun o e => hm.heap S _ nw e) fun y hy o e => hm.heap _ o (hwr y (sub y hy)) e
    have hc' : Comes knd s'.heap items := hc.at fun y hy o e => hm.heap _ o (hwr y hy) e
    show wpAny _ A.in1 (holding [Value.ref x.2] (setAdd S (.ref x.2)) >>= fun _ => _) _ _ s'
    refine wpAny_bind (wpAny_holding ?_)
    unfold setAdd
    refine wpAny_holding (wpAny_bind (wpAny_pyHash_tuple hu (hc' x xm).1 ?_))
    have ml := met_len _ (items.take i) rfl
    rw [List.length_take] at ml
    refine tset_add (s := { s' with toks := s'.toks + (x.1.length + 1) }) hu hS' (hc' x xm).1 (hc' x xm).2 (by omega) fun b h' hsb hS2 => ?_
    have et : items.take (i + 1) = items.take i ++ [x] := by rw [List.take_add_one, hx]; rfl
    have hS3 : TSet knd h' S led (met (items.take (i + 1))) := by rw [et, met_snoc]; exact hS2
    have kp : ∀ c o, c ≠ S → s'.heap.get? c = some o → h'.get? c = some o := fun c o nc e => (hsb.2 c nc).trans e
    refine wpAny_pure ⟨plainId_quiet PyProof.Rows.F.plain_set_update_loop _, ih (i + 1) _ (by omega) hlt (W.frame _ s' _ _ hst' (Nat.le_add_right _ _) fun c hc0 o e => kp c o (fun z => hSf (z ▸ hc0)) e) hS3 (hc'.at fun y hy o e => kp _ o (hxS y hy) e) fun s'' hm'' hS'' => ?_⟩
    refine hR s'' (Moved.trans W.gtrans ((hm.mono up).then_heap (Nat.le_add_right _ _) fun c o hc0 e => kp c o (fun z => hc0 (by rw [z]; exact List.mem_cons_self)) e) hm'') hS''
end
end Tb

namespace Tb
open PySem PySem.SetTable
abbrev freshO (P : Params) : Obj := { cls := .type "set", dict := none, data := .set #[] 0 (.fresh 0 0 (!P.followText "set-order")) }
section
variable {prog : Program} {w : World} {K : Type} [DecidableEq K] {knd : KeyKind prog w K} {A : Around} {E : Value → Shared → Prop} {s : Shared}
theorem set_new (x : Value) {Q : Value → Shared → Prop} (q : Q (.ref s.heap.objs.size) { s with heap := s.heap.push (freshO w.params) }) :
    codeAny (model prog w) A (.call (.builtin "set.__new__") ⟨[.type "set", x], []⟩) (wants Q E) s := by
  refine codeAny_of_tree (show wpAny _ A.in1 (do checkBuiltinCall "set.__new__" ⟨[.type "set", x], []⟩; again (.builtin "set.__new__" ⟨[.type "set", x], []⟩)) _ _ s from ?_)
  refine wpAny_bind (wpAny_of_eq (PySem.F.newCall_set_1 x) (wpAny_pure ⟨plainId_quiet PySem.F.plain_set_new _, codeAny_builtin PySem.F.entry_set_new ?_⟩))
  rw [Around.under_plainId PySem.F.plain_set_new _]
  unfold Builtin.«set.__new__» Builtin.Frozenset.newClass
  have hsub := sub_set_self
  obtain ⟨hp, g, d, tk, os⟩ := s
  dsimp only
  wp_walk
  refine wpAny_askSetting (wpAny_pure ?_)
  dsimp only
  simp only [newObj]
  exact wpAny_bind (wpAny_alloc (wpAny_pure (wpAny_pure q)))
theorem tset_fresh {h : Heap} {a : Addr} (P : Params) (e : h.get? a = some (freshO P)) : TSet knd h a (!P.followText "set-order") [] :=
  ⟨_, #[], 0, _, e, ⟨rfl, rfl, rfl⟩, rfl, sok_fresh 0 0 _, rfl, rfl, List.Perm.refl _, .nil, fun _ hx => nomatch hx⟩
set_option maxHeartbeats 3200000 in
theorem call_set_tups {l : Addr} {vs : Array Value} {items : List (List K × Addr)} {Q : Value → Shared → Prop} (hh : A.handled = none) (hu : A.in1.in1.in1.units < cLine) (hl : s.heap.IsList l vs) (hi : vs.toList = items.map fun x => Value.ref x.2) (hb : items.length ≤ 75) (hc : Comes knd s.heap items)
    (q : ∀ (h' : Heap) (tk : Nat), TSet knd h' s.heap.objs.size (!w.params.followText "set-order") (met items) → (∀ b o, b < s.heap.objs.size → s.heap.get? b = some o → h'.get? b = some o) → Q (.ref s.heap.objs.size) { s with heap := h', toks := tk }) :
    wpAny (model prog w) A (call (.type "set") [.ref l]) Q E s := by
  obtain ⟨c, tl, hmro⟩ := PySem.F.called_set.mro
  have hmade := PySem.F.called_set.made
  have hsub := PySem.F.called_set.sub
  refine wpAny_call (codeAny_of_tree (show wpAny _ _ (callAny (.type "set") _) _ _ _ from ?_))
  refine wpAny_pure ⟨Code.quiet_builtin _ (by decide +kernel), codeAny_builtin PySem.F.entry_type_call ?_⟩
  rw [Around.under_plain (weight_type_call_type "set" [.ref l] []) rfl]
  have h1 := PySem.F.called_set.notType
  have h2 := PySem.F.called_set.canCreate
  have hct := PySem.F.typeCall_set_1 (.ref l)
  repeat (any_goals (first | assumption | wp_step))
  refine codeAny_mono (set_new (.ref l) (E := E) (Q := fun obj s₁ => obj = .ref s.heap.objs.size ∧ s₁ = { s with heap := s.heap.push (freshO w.params) }) ⟨rfl, rfl⟩) fun r s₁ hr => ?_
  cases r with
  | error e => exact hr
  | ok fl =>
    cases fl with
    | ret obj =>
      obtain ⟨rfl, rfl⟩ := hr
      have eS : (s.heap.push (freshO w.params)).get? s.heap.objs.size = some (freshO w.params) := Heap.get?_push_size _ rfl
      have hT : Shared.TypeIs { s with heap := s.heap.push (freshO w.params) } (.ref s.heap.objs.size) "set" := ⟨_, eS, rfl⟩
      have hli := PySem.F.called_set.init.lookup
      have hbi := PySem.F.called_set.init.bind (.ref s.heap.objs.size)
      repeat (any_goals (first | assumption | wp_step))
      refine codeAny_mono (codeAny_call_builtin (R := wants (fun r s₂ => r = .none ∧ ∃ h' tk, s₂ = { s with heap := h', toks := tk } ∧ TSet knd h' s.heap.objs.size (!w.params.followText "set-order") (met items) ∧
          (∀ b o, b < s.heap.objs.size → s.heap.get? b = some o → h'.get? b = some o)) E) PySem.F.called_set.init.plain PySem.F.entry_set_init (check_set_init_1 hT ?_)) fun r₂ s₂ hr₂ => ?_
      · obtain ⟨ol, e0, hcl, nl, hdl⟩ := hl
        obtain ⟨ocls, odict, odata, oslots⟩ := ol
        simp only at hcl hdl
        subst hcl; subst hdl
        have e1 : (s.heap.push (freshO w.params)).get? l = some { cls := .type "list", dict := odict, data := .seq vs nl, slots := oslots } := Heap.get?_push_of_some _ e0
        have hsls := PySem.F.sub_list_set
        have hslf := PySem.F.sub_list_frozenset
        have nd : (Value.type "list" == Value.type "dict") = false := by decide
        have l1 : (s.heap.push (freshO w.params)).IsList l vs := ⟨_, e1, rfl, nl, rfl⟩
        unfold Builtin.«set.__init__» noKeywords Builtin.Frozenset.updateFrom
        generalize hJ : pyIter = J0
        wp_walk
        subst hJ
        refine wpAny_pyIter_list l1 (wpAny_bind (wpAny_runValue ?_))
        have lS : l < s.heap.objs.size := Heap.lt_size e0
        have h3 : A.in1.in1.in1.handled = none := by simp [hh]
        have eI : (s.heap.push (freshO w.params)).objs.size = s.heap.objs.size + 1 := Heap.size_push ..
        have nI : l ≠ (s.heap.push (freshO w.params)).objs.size := by rw [eI]; exact Nat.ne_of_lt (Nat.lt_succ_of_lt lS)
        have nS : s.heap.objs.size ∉ [(s.heap.push (freshO w.params)).objs.size, l] := by
          rw [eI]
          simp only [List.mem_cons, List.not_mem_nil, or_false, not_or]
          exact ⟨Nat.ne_of_lt (Nat.lt_succ_self _), Nat.ne_of_gt lS⟩
        have low : ∀ x ∈ items, x.2 < s.heap.objs.size := fun x hx => by
          obtain ⟨⟨o, _, _, e, _⟩, _⟩ := hc x hx
          exact Heap.lt_size e
        have sz : vs.size = items.length := by rw [← Array.length_toList, hi, List.length_map]
        have W := (Walks.list (prog := prog) (w := w) h3 _ l nI vs).toS
        rw [sz] at W
        refine tset_loop (knd := knd) (items := items) W s.heap.objs.size nS (!w.params.followText "set-order") hu (fun i v hv => ?_) hb (fun x hx => ?_) (fun x hx => Nat.ne_of_lt (low x hx)) items.length 0 _ (Nat.sub_zero _) (Nat.zero_le _)
          ⟨⟨_, Heap.get?_push_size _ rfl, rfl, rfl⟩, l1.push _⟩ (tset_fresh w.params (Heap.get?_push_of_some _ eS)) (hc.at fun x hx o e => Heap.get?_push_of_some _ (Heap.get?_push_of_some _ e)) fun s' hm hS' => ?_
        · have hv' : vs.toList[i]? = some v := by rw [Array.getElem?_toList]; exact hv
          rw [hi, List.getElem?_map] at hv'
          obtain ⟨x, ex, rfl⟩ := Option.map_eq_some_iff.mp hv'
          exact ⟨x, ex, rfl⟩
        · rw [eI]
          simp only [List.mem_cons, List.not_mem_nil, or_false]
          exact Nat.ne_of_lt (Nat.lt_succ_of_lt (low x hx))
        · obtain ⟨h', g', d', tk', os'⟩ := s'
          obtain rfl : g' = s.gens := hm.gens
          obtain rfl : d' = s.drawn := hm.drawn
          obtain rfl : os' = s.os := hm.os
          show wpAny _ _ _ _ _ _
          refine wpAny_pure (show wpAny _ _ (ret Value.none) _ _ _ from wpAny_pure ⟨rfl, h', tk', rfl, hS', fun b o hb0 e => ?_⟩)
          refine hm.heap b o ?_ (Heap.get?_push_of_some _ (Heap.get?_push_of_some _ e))
          rw [eI]
          simp only [List.mem_cons, List.not_mem_nil, or_false, not_or]
          exact ⟨Nat.ne_of_lt hb0, Nat.ne_of_lt (Nat.lt_succ_of_lt hb0)⟩
      · cases r₂ with
        | error e => exact hr₂
        | ok fl₂ =>
          cases fl₂ with
          | ret r =>
            obtain ⟨rfl, h', tk, rfl, hS', hk'⟩ := hr₂
            repeat (any_goals (first | assumption | wp_step))
            exact q _ _ hS' hk'
          | _ => exact hr₂.elim
    | _ => exact hr.elim
end
end Tb

set_option maxHeartbeats 1000000
/-! names, sorted -/
namespace L2
open PySem PySem.Spec PyProof.Rows PySem.W Lo
def NmAt (h : Heap) (x : Int × Int) (v : Value) : Prop := ∃ a t1 t2, v = .ref a ∧ h.IsTuple a #[.int x.1 t1, .int x.2 t2]
def ltP (x y : Int × Int) : Bool := if x.1 = y.1 then (if x.2 = y.2 then false else decide (x.2 < y.2)) else decide (x.1 < y.1)
section
variable {prog : Program} {w : World} {A : Around} {E : Value → Shared → Prop} {s : Shared}
theorem nm_lt {x y : Int × Int} {u v : Value} {Q : Bool → Shared → Prop} (h1 : NmAt s.heap x u) (h2 : NmAt s.heap y v) (q : Q (ltP x y) s) : wpAny (model prog w) A (keyLt' (tuples' true) u v) Q E s := by
  obtain ⟨a, t1, t2, rfl, p1⟩ := h1
  obtain ⟨c, u1, u2, rfl, q1⟩ := h2
  obtain ⟨o1, e1, _, n1, d1⟩ := id p1
  obtain ⟨o2, e2, _, n2, d2⟩ := id q1
  refine kat_lt e1 d1 e2 d2 (kat_cons (SeqAt.EqAt.int_int _ t1 _ u1 _ _ _ _ ?_))
  unfold ltP at q
  by_cases en : x.1 = y.1
  · rw [if_pos en] at q
    rw [show (x.1 == y.1) = true from beq_iff_eq.mpr en]
    refine kat_yes (kat_cons (SeqAt.EqAt.int_int _ t2 _ u2 _ _ _ _ ?_))
    by_cases es : x.2 = y.2
    · rw [if_pos es] at q
      rw [show (x.2 == y.2) = true from beq_iff_eq.mpr es]
      exact kat_yes (kat_nil q)
    · rw [if_neg es] at q
      rw [show (x.2 == y.2) = false from beq_eq_false_iff_ne.mpr es]
      exact kat_no (kat_one _ _ (lt_int q))
  · rw [if_neg en] at q
    rw [show (x.1 == y.1) = false from beq_eq_false_iff_ne.mpr en]
    exact kat_no (kat_lt_int q)
abbrev Nms (h : Heap) (es : List (Int × Int)) (vs : List Value) : Prop := Paired (NmAt h) es vs
theorem Nms.tups {h : Heap} : ∀ {es : List (Int × Int)} {vs : List Value}, Nms h es vs → ∃ fs, KatTups h vs fs ∧ fs.length = vs.length ∧ ∀ v ∈ fs, ∀ M : Model, Looks M h (typeOf v) (.type "int")
  | _, _, .nil => ⟨[], KatTups.nil, rfl, fun _ hv => nomatch hv⟩
  | _, _, .cons r t => by
    obtain ⟨fs, k, l, ty⟩ := Nms.tups t
    obtain ⟨a, t1, t2, rfl, ⟨o, e, c, n, d⟩⟩ := r
    refine ⟨_ :: fs, KatTups.cons e c d rfl k, by rw [List.length_cons, List.length_cons, l], fun v hv M => ?_⟩
    rcases List.mem_cons.mp hv with z | hv
    · subst z
      exact .now
    · exact ty v hv M
end
section
variable {prog : Program} {w : World} {A : Around} {E : Value → Shared → Prop} {s : Shared} {h₀ : Heap} {L : Addr} {m : Str → Option Value} {news : List (Addr × Obj)}
theorem nms_sort {es : List (Int × Int)} {vs : List Value} {a n : Nat} {P : PySem.Fin → Shared → Prop} (hu : A.units + 1 < cLine) (F : Fr h₀ L s.heap m) (N : News h₀ L s.heap news) (ho : s.heap.get? a = some (seqObj "list" vs.toArray n)) (haL : a ≠ L) (ha0 : h₀.get? a = none) (hna : ∀ p ∈ news, p.1 ≠ a)
    (he : ∀ h', (∀ b o, (b, o) ∈ news → h'.get? b = some o) → Nms h' es vs) (h2 : 2 ≤ vs.length) (h64 : vs.length < 64)
    (q : ∀ h' c, Fr h₀ L h' m → News h₀ L h' ((a, PySem.W.listOf (List.toArray ((runT (fun i j => ltP (es.getD i default) (es.getD j default)) (kas_sort es.length)).toList.map fun i => vs.getD i Value.none)) c) :: news) → P (.done (.ret .none)) { s with heap := h' }) :
    wpAny (model prog w) A (Builtin.«list.sort» ⟨[.ref a], []⟩) P E s := by
  refine kat_list_sort F N ho haL ha0 hna h2 h64 fun e1 h' F' N' => ?_
  have en : Nms h' es vs := he h' fun b o hb => (N' (b, o) (List.mem_cons_of_mem _ hb)).1
  have hl := en.len
  obtain ⟨fs, kt, lf, ty⟩ := en.tups
  refine kat_kind (s := { s with heap := h' }) kt (by omega) (fun v hv => ty v hv _) rfl ?_
  have e0 : (Value.type "int" != Value.type "tuple") = true := by decide
  rw [e0, ← hl]
  refine KAll.wp (lt := fun i j => ltP (es.getD i default) (es.getD j default)) (fun i j C hi hj hC => ?_) (all_sort (by omega)) fun hp => ?_
  · exact nm_lt (s := { s with heap := h' }) (pr_getD en hi default Value.none) (pr_getD en hj default Value.none) hC
  · exact KasFin.intro (s := { s with heap := h' }) F' N' (.head hna) fun h2 c F2 N2 => q h2 c F2 N2
end
theorem sPa_nm {P : Program} {w : World} {K : PySem.W.Frag} {H : Hp} {h : Heap} {x : Int × Int} {v : V} {u : Value} (ok : HOk P w H h) (q : sPa K H x v) (r : RelV v u) : NmAt h x u := by
  obtain ⟨a, rfl, h1⟩ := q
  cases (show u = Value.ref a from r)
  obtain ⟨_, its, r1, p⟩ := (show ObjOk P w H h a (.tup [.int x.1, .int x.2]) from ok a _ h1)
  obtain ⟨i1, i2, rfl, ⟨t1, rfl⟩, ⟨t2, rfl⟩⟩ := vals2 r1
  exact ⟨a, t1, t2, rfl, p⟩
theorem nms_of {P : Program} {w : World} {K : PySem.W.Frag} {H : Hp} {h : Heap} (ok : HOk P w H h) : ∀ {es : List (Int × Int)} {us : List V} {vs : List Value}, Paired (sPa K H) es us → Vals us vs → Nms h es vs
  | _, _, _, .nil, .nil => .nil
  | _, _, _, .cons a t, .cons r q => .cons (sPa_nm ok a r) (nms_of ok t q)
section
variable {X : Cx} {pins : List (Addr × Obj)} {σ : St} {H : Hp} {s : Shared}
/-- behind the gathering: a new list, sorted: names -/
theorem sorted_restN {vs : List Value} {us : List V} {es : List (Int × Int)} {Q : VK} {E : Value → Shared → Prop} (hu : X.A.units + 4 < cLine) (I : Inv X pins σ H s) (rv : Vals us vs) (pe : Paired (sPa X.K H) es us) (h64 : es.length < 64)
    (q : ∀ l ys, H l = none → Paired (sPa X.K (upd H l (.lst ys))) (srtBy ltP es) ys → Q (.ref l) (upd H l (.lst ys))) :
    wpAny (model X.prog X.w) X.A.in1 (newList vs >>= fun l => holding [l] (call (.builtin "list.sort") [l] []) >>= fun _ => ret l) (fun fin s' => ∃ v, fin = .done (.ret v) ∧ EP X pins σ Q v s') E s := by
  have hl1 : us.length = vs.length := rv.length
  have hl2 : es.length = us.length := pe.len
  have zl : vs.length ≤ sizeLine := by rw [sizeLine_eq]; omega
  refine wpAny_bind (wpAny_newList ?_ zl)
  obtain ⟨m, hn, _⟩ := id I.loc
  have N : News (Att.noObjs s.heap) X.env.locals s.heap (Att.ledger s.heap X.env.locals X.env.locals) := fun ⟨c, o⟩ hp => by
    obtain ⟨n1, _, e⟩ := Att.mem_ledger.mp hp
    exact ⟨e, n1, Att.noObjs_get _ _⟩
  have led : ∀ c o, c ≠ X.env.locals → s.heap.get? c = some o → (c, o) ∈ Att.ledger s.heap X.env.locals X.env.locals := fun c o n1 e => Att.mem_ledger.mpr ⟨n1, n1, e⟩
  have up : ∀ b o, s.heap.get? b = some o → (s.heap.push (seqObj "list" vs.toArray 0)).get? b = some o := fun b o e => Heap.get?_push_of_some _ e
  have F1 : Fr (Att.noObjs s.heap) X.env.locals (s.heap.push (seqObj "list" vs.toArray 0)) m := (Att.fr_all hn).kept up
  have N1 : News (Att.noObjs s.heap) X.env.locals (s.heap.push (seqObj "list" vs.toArray 0)) (Att.ledger s.heap X.env.locals X.env.locals) := N.grown up
  have oL : (s.heap.push (seqObj "list" vs.toArray 0)).get? s.heap.objs.size = some (seqObj "list" vs.toArray 0) := Heap.get?_push_size _ rfl
  have nL : s.heap.objs.size ≠ X.env.locals := Nat.ne_of_gt I.lt
  have na : ∀ p ∈ Att.ledger s.heap X.env.locals X.env.locals, p.1 ≠ s.heap.objs.size := fun p hp => Nat.ne_of_lt (Heap.lt_size (N p hp).1)
  have hnone : H s.heap.objs.size = none := I.hok.fresh (Nat.le_refl _)
  have fin : ∀ (out : List Value) (ys : List V), Vals ys out → ys.length ≤ sizeLine → Q (.ref s.heap.objs.size) (upd H s.heap.objs.size (.lst ys)) → ∀ h' c, Fr (Att.noObjs s.heap) X.env.locals h' m →
      News (Att.noObjs s.heap) X.env.locals h' ((s.heap.objs.size, PySem.W.listOf (List.toArray out) c) :: Att.ledger s.heap X.env.locals X.env.locals) → EP X pins σ Q (.ref s.heap.objs.size) { s with heap := h' } := fun out ys ro hz hQ h' c F2 N2 => by
    have keep : ∀ b o, b ≠ X.env.locals → s.heap.get? b = some o → h'.get? b = some o := fun b o n1 e => (N2 (b, o) (List.mem_cons_of_mem _ (led b o n1 e))).1
    have eD : h'.get? s.heap.objs.size = some (PySem.W.listOf (List.toArray out) c) := (N2 _ List.mem_cons_self).1
    refine ⟨.ref s.heap.objs.size, upd H s.heap.objs.size (.lst ys), ?_, rfl, hQ⟩
    have fresh : ∀ b o, s.heap.get? b = some o → b ≠ s.heap.objs.size := fun b o e => Nat.ne_of_lt (Heap.lt_size e)
    show Inv X pins σ (upd H s.heap.objs.size (.lst ys)) { s with heap := h' }
    refine I.step (h' := h') (g' := s.gens) (d' := s.drawn) (t' := s.toks) (ch := []) (fun _ z => nomatch z) (fun b o n1 _ _ e _ => keep b o n1 e) (fun b o n1 _ _ e _ => ⟨o.slots, keep b o n1 e⟩) (fun b o _ e n => by rw [upd_ne (fresh b o e)]; exact n)
      (fun b o _ e => ?_) (fun b xs e => by rw [upd_ne (ne_of_none e hnone)]; exact e) (fun b o u e => by rw [upd_ne (ne_of_none e hnone)]; exact e) (fun b ps e => ⟨#[], by rw [upd_ne (ne_of_none e hnone), e]; simp⟩) (fun m' hm' => ?_) (fun b o e => ?_) I.bare
    · by_cases hb : b = X.env.locals
      · obtain ⟨o', _, _, e', _⟩ := F2.ns
        exact ⟨o', hb ▸ e'⟩
      · exact ⟨o, keep b o hb e⟩
    · have e : m' = m := funext fun name => hm'.agree hn name
      rw [e]
      exact F2.ns
    · by_cases hb : b = s.heap.objs.size
      · subst hb
        rw [upd_same] at e
        cases e
        exact ⟨hz, out, c, ro, eD⟩
      · rw [upd_ne hb] at e
        have nL' : b ≠ X.env.locals := fun z => by rw [z, I.free] at e; cases e
        refine (I.hok b o e).stay (fun d v hd q => keep d v (fun z => ?_) q) (fun d q => by rw [upd_ne (ne_of_none q hnone)]; exact q) fun d xs q => by rw [upd_ne (ne_of_none q hnone)]; exact q
        rcases hd with hd | hd
        · exact nL' (hd.symm.trans z)
        · rw [z, I.free] at hd; cases hd
  have tsL : ∀ ys, TSame H (upd H s.heap.objs.size (.lst ys)) := fun ys b xs e => by rw [upd_ne (ne_of_none e hnone)]; exact e
  refine wpAny_bind (wpAny_holding (wpAny_call_entry slot_list_sort ⟨_, oL, rfl⟩ entry_list_sort ?body (args_list_sort _)))
  case body =>
    by_cases h2 : vs.length < 2
    · refine few_sort (s := { s with heap := s.heap.push (seqObj "list" vs.toArray 0) }) F1 N1 oL nL (Att.noObjs_get _ _) na h2 fun h' c F2 N2 => ⟨_, rfl, wpAny_pure ⟨_, rfl, fin vs us rv (by omega) (q _ us hnone ?_) h' c F2 N2⟩⟩
      have es2 : srtBy ltP es = es := by
        match es, (by omega : es.length < 2) with
        | [], _ => rfl
        | [x], _ => rfl
      rw [es2]
      exact Paired.mapP pe fun _ _ z => z.keep (tsL us)
    · have h0 : 0 < es.length := by omega
      obtain ⟨hsl, hsi⟩ := srt_len ltP es h0
      refine nms_sort (s := { s with heap := s.heap.push (seqObj "list" vs.toArray 0) }) (es := es) (by show X.A.units + 1 + 1 + 1 < cLine; omega) F1 N1 oL nL (Att.noObjs_get _ _) na (fun h' hk => ?_) (by omega) (by omega) fun h' c F2 N2 => ⟨_, rfl, wpAny_pure ⟨_, rfl, fin _ _ (vals_pick rv _ (fun i hi => by rw [← hl2]; exact hsi i hi)) ?_ (q _ _ hnone ?_) h' c F2 N2⟩⟩
      · have ok' : HOk X.prog X.w H h' := fun b o e => by
          have nL' : b ≠ X.env.locals := fun z => by rw [z, I.free] at e; cases e
          refine (I.hok b o e).stay (fun d v hd q => hk d v (led d v (fun z => ?_) q)) (fun _ q => q) fun _ _ q => q
          rcases hd with hd | hd
          · exact nL' (hd.symm.trans z)
          · rw [z, I.free] at hd; cases hd
        exact nms_of ok' pe rv
      · rw [List.length_map]
        unfold srtBy at hsl
        rw [List.length_map] at hsl
        rw [hsl]
        omega
      · exact pr_pick (Paired.mapP pe fun _ _ z => z.keep (tsL _)) _ _ hsi
end
/-- sorted of a list of names -/
theorem call_sortedN {X : Cx} (hu : X.A.units + 4 < cLine) : CallR X (.builtin "sorted") (fun xs H Q => ∃ p us es, xs = [.ref p] ∧ SqL X.K H p us ∧ Paired (sPa X.K H) es us ∧ es.length < 64 ∧ ∀ l ys, H l = none → Paired (sPa X.K (upd H l (.lst ys))) (srtBy ltP es) ys → Q (.ref l) (upd H l (.lst ys))) := by
  intro pins s σ H xs us Q I r h
  obtain ⟨p, ps, es, rfl, hq, pe, h64, q⟩ := h
  obtain ⟨u, rfl, rx⟩ := vals1 r
  cases (show u = Value.ref p from rx)
  obtain ⟨its, rv, pl, hz⟩ := I.list hq
  have l1 := rv.length
  have l2 := pe.len
  refine Calls.call_function_entry kind_sorted plain_sorted entry_sorted (args_sorted1 _) ?_
  unfold Builtin.«sorted»
  refine wpAny_bind (m := checkCount "sorted" 1 1 _) (wpAny_pure (wpAny_bind (collect_list pl.isList ?_ (by rw [sizeLine_eq]; omega))))
  refine sorted_restN hu (I.kept (t' := s.toks) (h' := (s.heap.push (seqObj "list" #[] 0)).update s.heap.objs.size (Obj.mapSeq (· ++ its.toArray))) fun b o e => ?_) rv pe h64 q
  exact (Heap.get?_update_other _ _ (Nat.ne_of_gt (Heap.lt_size e))).trans (Heap.get?_push_of_some _ e)
/-! ### the order of names -/
theorem ltP_iff {x y : Int × Int} : ltP x y = true ↔ x.1 < y.1 ∨ (x.1 = y.1 ∧ x.2 < y.2) := by
  unfold ltP
  split
  · rename_i h
    split
    · rename_i h2
      simp
      omega
    · simp
      omega
  · rename_i h
    simp
    omega
theorem ltP_tri (a b : Int × Int) (h : a ≠ b) (h2 : ltP a b = false) : ltP b a = true := by
  rw [ltP_iff]
  have h3 : ¬ (a.1 < b.1 ∨ (a.1 = b.1 ∧ a.2 < b.2)) := fun z => by rw [ltP_iff.mpr z] at h2; cases h2
  have h4 : ¬ (a.1 = b.1 ∧ a.2 = b.2) := fun z => h (Prod.ext z.1 z.2)
  omega
theorem ltP_tr (a b c : Int × Int) (h1 : ltP a b = true) (h2 : ltP b c = true) : ltP a c = true := by
  rw [ltP_iff] at *
  omega
theorem ltP_as (a b : Int × Int) (h1 : ltP a b = true) (h2 : ltP b a = true) : False := by
  rw [ltP_iff] at *
  omega
/-- two lists of the same names, none twice, are sorted alike -/
theorem srt_same {xs ys : List (Int × Int)} (n1 : xs.Nodup) (n2 : ys.Nodup) (h : ∀ a, a ∈ xs ↔ a ∈ ys) : srtBy ltP xs = srtBy ltP ys := by
  have p : xs.Perm ys := (List.perm_ext_iff_of_nodup n1 n2).mpr h
  by_cases h0 : 1 ≤ xs.length
  · have h0' : 1 ≤ ys.length := by rw [← p.length_eq]; exact h0
    obtain ⟨a1, a2⟩ := srt_ok ltP_tri ltP_tr n1 h0
    obtain ⟨b1, b2⟩ := srt_ok ltP_tri ltP_tr n2 h0'
    exact srt_one ltP_as ((a1.trans p).trans b1.symm) a2 b2
  · have e1 : xs = [] := List.length_eq_zero_iff.mp (by omega)
    have e2 : ys = [] := List.length_eq_zero_iff.mp (by rw [← p.length_eq]; omega)
    rw [e1, e2]
end L2

set_option maxHeartbeats 1000000
/-! sets of names -/
namespace L2
open PySem PySem.Spec PyProof.Rows PySem.W Lo Tb
theorem perm_map_inv {α β : Type} (f : α → β) : ∀ {l : List β} {xs : List α}, l.Perm (xs.map f) → ∃ ys : List α, ys.Perm xs ∧ l = ys.map f
  | [], xs, h => by
    have : xs = [] := by
      have := h.length_eq
      rw [List.length_map] at this
      exact List.length_eq_zero_iff.mp this.symm
    exact ⟨[], by rw [this], rfl⟩
  | a :: l, xs, h => by
    obtain ⟨x, hx, rfl⟩ := List.mem_map.mp (h.mem_iff.mp List.mem_cons_self)
    obtain ⟨s, t, rfl⟩ := List.append_of_mem hx
    have h2 : (f x :: l).Perm (f x :: (s ++ t).map f) := by
      refine h.trans ?_
      rw [List.map_append, List.map_append, List.map_cons]
      exact List.perm_middle
    obtain ⟨ys, h3, h4⟩ := perm_map_inv f (h2.cons_inv)
    exact ⟨x :: ys, (h3.cons x).trans List.perm_middle.symm, by rw [h4]; rfl⟩
/-- the names met, each once -/
def metN (l : List (Pa × Addr)) : List (Pa × Addr) := l.foldl (fun xs x => if x.1 ∈ xs.map (·.1) then xs else xs ++ [x]) []
theorem met_pk (l : List (Pa × Addr)) : met (l.map fun x => (pk x.1, x.2)) = (metN l).map fun x => (pk x.1, x.2) := by
  have key : ∀ (l xs : List (Pa × Addr)), (l.map fun x => (pk x.1, x.2)).foldl (fun xs x => addX xs x.1 x.2) (xs.map fun x => (pk x.1, x.2)) = (l.foldl (fun xs x => if x.1 ∈ xs.map (·.1) then xs else xs ++ [x]) xs).map fun x => (pk x.1, x.2) := by
    intro l
    induction l with
    | nil => intro xs; rfl
    | cons y r ih =>
      intro xs
      rw [List.map_cons, List.foldl_cons, List.foldl_cons, ← ih]
      congr 1
      unfold addX
      have e : pk y.1 ∈ (xs.map fun x => (pk x.1, x.2)).map (·.1) ↔ y.1 ∈ xs.map (·.1) := by
        rw [List.map_map]
        constructor
        · intro h
          obtain ⟨z, hz, ez⟩ := List.mem_map.mp h
          exact List.mem_map.mpr ⟨z, hz, pk_inj ez⟩
        · intro h
          obtain ⟨z, hz, ez⟩ := List.mem_map.mp h
          exact List.mem_map.mpr ⟨z, hz, by show pk z.1 = pk y.1; rw [ez]⟩
      by_cases h : y.1 ∈ xs.map (·.1)
      · rw [if_pos h, if_pos (e.mpr h)]
      · rw [if_neg h, if_neg (fun z => h (e.mp z)), List.map_append]
        rfl
  exact key l []
theorem metN_mem (l : List (Pa × Addr)) : (∀ p, p ∈ (metN l).map (·.1) ↔ p ∈ l.map (·.1)) ∧ ∀ x ∈ metN l, x ∈ l := by
  have key : ∀ (l xs : List (Pa × Addr)), (∀ p, p ∈ (l.foldl (fun xs x => if x.1 ∈ xs.map (·.1) then xs else xs ++ [x]) xs).map (·.1) ↔ p ∈ xs.map (·.1) ∨ p ∈ l.map (·.1)) ∧ ∀ x ∈ (l.foldl (fun xs x => if x.1 ∈ xs.map (·.1) then xs else xs ++ [x]) xs), x ∈ xs ∨ x ∈ l := by
    intro l
    induction l with
    | nil => intro xs; exact ⟨fun p => ⟨.inl, fun h => h.elim id fun z => nomatch z⟩, fun x hx => .inl hx⟩
    | cons y r ih =>
      intro xs
      rw [List.foldl_cons]
      by_cases h : y.1 ∈ xs.map (·.1)
      · rw [if_pos h]
        obtain ⟨h1, h2⟩ := ih xs
        refine ⟨fun p => ?_, fun x hx => (h2 x hx).imp id (List.mem_cons_of_mem _)⟩
        rw [h1, List.map_cons, List.mem_cons]
        constructor
        · exact fun z => z.imp id .inr
        · rintro (z | rfl | z)
          · exact .inl z
          · exact .inl h
          · exact .inr z
      · rw [if_neg h]
        obtain ⟨h1, h2⟩ := ih (xs ++ [y])
        refine ⟨fun p => ?_, fun x hx => ?_⟩
        · rw [h1]
          simp only [List.map_append, List.mem_append, List.map_cons, List.map_nil, List.mem_cons, List.not_mem_nil, or_false]
          exact or_assoc
        · rcases h2 x hx with z | z
          · rcases List.mem_append.mp z with z | z
            · exact .inl z
            · exact .inr (by rw [List.mem_singleton.mp z]; exact List.mem_cons_self)
          · exact .inr (List.mem_cons_of_mem _ z)
  obtain ⟨h1, h2⟩ := key l []
  exact ⟨fun p => ⟨fun z => ((h1 p).mp z).elim (fun z => nomatch z) id, fun z => (h1 p).mpr (.inr z)⟩, fun x hx => (h2 x hx).elim (fun z => nomatch z) id⟩
/-- the names xs as they lie -/
def NmsAt (H : Hp) (xs : List (Pa × Addr)) : Prop := ∀ x ∈ xs, H x.2 = some (.tup [.int x.1.1, .int x.1.2])
theorem nms_split {K : PySem.W.Frag} {H : Hp} : ∀ {ns : List Pa} {us : List V}, Paired (sPa K H) ns us → ∃ xs : List (Pa × Addr), ns = xs.map (·.1) ∧ us = xs.map (fun x => V.ref x.2) ∧ NmsAt H xs
  | _, _, .nil => ⟨[], rfl, rfl, fun x hx => nomatch hx⟩
  | _, _, .cons (a := p) r t => by
    obtain ⟨xs, rfl, rfl, h⟩ := nms_split t
    obtain ⟨a, rfl, ha⟩ := r
    exact ⟨(p, a) :: xs, rfl, rfl, fun x hx => (List.mem_cons.mp hx).elim (fun z => z ▸ ha) (h x)⟩
theorem nms_pair {K : PySem.W.Frag} {H : Hp} : ∀ {xs : List (Pa × Addr)}, NmsAt H xs → Paired (sPa K H) (xs.map (·.1)) (xs.map fun x => V.ref x.2)
  | [], _ => .nil
  | x :: xs, h => .cons ⟨x.2, rfl, h x List.mem_cons_self⟩ (nms_pair fun y hy => h y (List.mem_cons_of_mem _ hy))
theorem NmsAt.keep {H H' : Hp} {xs : List (Pa × Addr)} (e : TSame H H') (h : NmsAt H xs) : NmsAt H' xs := fun x hx => e _ _ (h x hx)
/-- a set of names -/
def SetD (P : Program) (w : World) (o : Obj) (xs : List (Pa × Addr)) : Prop :=
  ∃ es ep t, o.ExactSet ∧ o.data = .set es ep t ∧ SOk t es.toList ∧ t.led = !w.params.followText "set-order" ∧ t.plain = true ∧ es.toList.Perm (xs.map fun x => (tupleKeyHash (mixKind P w) (pk x.1), Value.ref x.2)) ∧ (xs.map (·.1)).Nodup
section
variable {X : Cx}
theorem plain_at {P : Program} {w : World} {H : Hp} {h : Heap} (ok : HOk P w H h) {a : Addr} {x : Pa} (e : H a = some (.tup [.int x.1, .int x.2])) : PlainAt h a := by
  obtain ⟨_, its, r1, p⟩ := (show ObjOk P w H h a (.tup [.int x.1, .int x.2]) from ok a _ e)
  obtain ⟨i1, i2, rfl, ⟨t1, rfl⟩, ⟨t2, rfl⟩⟩ := vals2 r1
  obtain ⟨o, e1, _, n, e2⟩ := p
  exact ⟨o, _, n, e1, e2, fun v hv => by
    have hv' : v ∈ [Value.int x.1 t1, Value.int x.2 t2] := hv
    simp only [List.mem_cons, List.not_mem_nil, or_false] at hv'
    rcases hv' with z | z <;> subst z <;> rfl⟩
theorem call_setN (hc : X.calm = true) (hu : X.A.units + 4 < cLine) : CallR X (.type "set") (fun xs H Q => ∃ p us ns, xs = [.ref p] ∧ SqL X.K H p us ∧ Paired (sPa X.K H) ns us ∧ ns.length ≤ 75 ∧
    ∀ a o ys, H a = none → SetD X.prog X.w o ys → NmsAt H ys → (∀ n, n ∈ ys.map (·.1) ↔ n ∈ ns) → Q (.ref a) (upd H a (Fz a o))) := by
  intro pins s σ H xs us Q I r h
  obtain ⟨p, ps, ns, rfl, hq, pe, h75, q⟩ := h
  obtain ⟨u, rfl, rx⟩ := vals1 r
  cases (show u = Value.ref p from rx)
  obtain ⟨its, rv, pl, hz⟩ := I.list hq
  obtain ⟨items, rfl, rfl, na⟩ := nms_split pe
  have ei : its = items.map fun x => Value.ref x.2 := vals_refs (xs := items.map fun x => V.ref x.2) (fun x hx => by obtain ⟨y, _, rfl⟩ := List.mem_map.mp hx; exact ⟨y.2, rfl⟩) rv (by
    clear rv hq pe h75 q na hz r pl
    induction items with
    | nil => exact .nil
    | cons y r ih => exact .cons rfl ih)
  have hcm : Comes (mixKind X.prog X.w) s.heap (items.map fun x => (pk x.1, x.2)) := fun y hy => by
    obtain ⟨x, hx, rfl⟩ := List.mem_map.mp hy
    exact ⟨key_of I.hok (show H x.2 = some (.tup ((pk x.1).map kV)) from na x hx), plain_at I.hok (na x hx)⟩
  refine call_set_tups (knd := mixKind X.prog X.w) (items := items.map fun x => (pk x.1, x.2)) (I.ok.hd hc) (by show X.A.units + 1 + 1 + 1 < cLine; omega) pl.isList (by rw [List.map_map, ei]; rfl) (by rw [List.length_map]; rw [List.length_map] at h75; exact h75) hcm fun h' tk hS hk => ?_
  rw [met_pk] at hS
  obtain ⟨o, es, ep, t, ho, hex, hd, hk1, hl, hp, h1, h2, h3⟩ := hS
  obtain ⟨m1, m2⟩ := metN_mem items
  have hn : H s.heap.objs.size = none := I.hok.fresh (Nat.le_refl _)
  refine ⟨.ref s.heap.objs.size, _, I.laid (a := s.heap.objs.size) (o := Fz s.heap.objs.size o) (t' := tk) (fun b ob e => hk b ob (Heap.lt_size e) e) (Nat.le_refl _) ⟨ho, ⟨_, ho⟩, fun g1 g2 p k => k _ p⟩, rfl, q _ o (metN items) hn ⟨es, ep, t, hex, hd, hk1, hl, hp, by rw [List.map_map] at h1; exact h1, ?_⟩ (fun x hx => na x (m2 x hx)) m1⟩
  rw [List.map_map] at h2
  have h4 : ((metN items).map (·.1)).map pk = ((metN items).map ((fun x => x.1) ∘ fun x => (pk x.1, x.2))) := by rw [List.map_map]; rfl
  rw [← h4] at h2
  exact (List.pairwise_map.mp h2).imp fun hne e => hne (by rw [e])
theorem call_sortedS (hc : X.calm = true) (hu : X.A.units + 4 < cLine) : CallR X (.builtin "sorted") (fun xs H Q => ∃ a o es, xs = [.ref a] ∧ H a = some (Fz a o) ∧ SetD X.prog X.w o es ∧ NmsAt H es ∧ es.length < 64 ∧
    ∀ l ys, H l = none → Paired (sPa X.K (upd H l (.lst ys))) (srtBy ltP (es.map (·.1))) ys → Q (.ref l) (upd H l (.lst ys))) := by
  intro pins s σ H xs us Q I r h
  obtain ⟨a, o, items, rfl, ha, ⟨es, ep, t, hex, hd, hk, hl, hp, pm, ndp⟩, na, h64, q⟩ := h
  obtain ⟨u, rfl, rx⟩ := vals1 r
  cases (show u = Value.ref a from rx)
  obtain ⟨ho, _⟩ := (show ObjOk X.prog X.w H s.heap a (Fz a o) from I.hok a _ ha)
  have hsz : es.size = items.length := by have := pm.length_eq; rw [Array.length_toList, List.length_map] at this; exact this
  refine Calls.call_function_entry kind_sorted plain_sorted entry_sorted (args_sorted1 _) ?_
  unfold Builtin.«sorted»
  refine wpAny_bind (m := checkCount "sorted" 1 1 _) (wpAny_pure (wpAny_bind (set_collect (A := X.A.in1) (I.ok.hd hc) ⟨⟨o, ho, hex, hd⟩, hk, hl, hp⟩ (by rw [hsz, sizeLine_eq]; omega) fun h' tk k' => ?_)))
  obtain ⟨ys, p1, e1⟩ := perm_map_inv (fun x : Pa × Addr => (tupleKeyHash (mixKind X.prog X.w) (pk x.1), Value.ref x.2)) ((walk_perm X.w.params a ep es).trans pm)
  have e2 : (walkO X.w.params a ep es).toList.map (·.2) = ys.map fun x => Value.ref x.2 := by rw [e1, List.map_map]; rfl
  rw [e2]
  have ny : NmsAt H ys := fun x hx => na x (p1.mem_iff.mp hx)
  have rv : Vals (ys.map fun x => V.ref x.2) (ys.map fun x => Value.ref x.2) := by
    clear e1 e2 p1 ny
    induction ys with
    | nil => exact .nil
    | cons y r ih => exact .cons rfl ih
  refine sorted_restN hu (I.kept (t' := tk) k') rv (nms_pair ny) (by rw [List.length_map, p1.length_eq]; exact h64) fun l zs hl2 hp2 => q l zs hl2 ?_
  have pf : (ys.map (·.1)).Perm (items.map (·.1)) := p1.map _
  rw [srt_same (pf.symm.nodup ndp) ndp fun n => pf.mem_iff] at hp2
  exact hp2
end
end L2

set_option maxHeartbeats 1000000
/-! rows in a list; plain things -/
namespace L2
open PySem PySem.Spec PyProof.Rows
section
variable {X : Cx}
/-- isinstance, of scalars, lists and tuples -/
theorem call_isA : CallR X (.builtin "isinstance") (fun xs H Q => (∃ x t n b, xs = [x, .ty n] ∧ TyOf X.K H x t ∧ PySem.W.kitOne X.K t (.type n) = some b ∧ Q (.bl b) H) ∨ ∃ a ys, xs = [.ref a, .ty "tuple"] ∧ SqT X.K H a ys ∧ Q (.bl true) H) := by
  intro pins s σ H xs us Q I r h
  rcases h with h | h
  · exact call_isinst pins s σ H xs us Q I r h
  · exact Lo.call_isinstT pins s σ H xs us Q I r h
/-- == of a list and an empty one -/
theorem op_eqNil (hu : X.A.units < cLine) : OpR X (compareOp .Eq) (fun x y H Q => ∃ a b us, x = .ref a ∧ y = .ref b ∧ SqL X.K H a us ∧ SqL X.K H b [] ∧ Q (.bl (decide (us = []))) H) := by
  intro pins s σ H x y v u Q I rx ry h
  obtain ⟨a, b, us, rfl, rfl, ha, hb, q⟩ := h
  cases rx
  cases ry
  obtain ⟨i1, v1, p1, _⟩ := I.list ha
  obtain ⟨i2, v2, p2, _⟩ := I.list hb
  cases v2
  have l1 := v1.length
  by_cases e : us = []
  · subst e
    cases v1
    have z := PySem.SeqAt.RcAt.lists (A := X.A) (s := s) (e := fun _ => true) p1.isList p2.isList rfl hu (fun j h1 h2 => by cases h1)
    rw [decide_eq_true rfl] at q
    exact z X.prog X.w X.xe _ ⟨.bl true, H, I, rfl, q⟩
  · have hsz : (i1.toArray.size != ([] : List Value).toArray.size) = true := by
      have : i1.length ≠ 0 := fun z => e (List.length_eq_zero_iff.mp (by rw [l1]; exact z))
      simpa using this
    rw [decide_eq_false e] at q
    exact PySem.SeqAt.RcAt.lists_lengths p1.isList p2.isList hsz hu X.prog X.w X.xe _ ⟨.bl false, H, I, rfl, q⟩
/-- a call with no arguments -/
theorem pc0 {CX : CXT} {j k : Nat} {x : Str} {sp : Sp} {E : XK} {p pos : Pos} (G : GF X.prog X.w X.K X.mg X.base CX j x [] sp) (hr : Room k X.A) (hx : Passes CX X E := by exact pass0) (hk : j ≤ k := by decide) (hg : Gl X x := by rfl)
    (hdb : (x == ("__debug__" : Str)) = false := by decide) : PE X (.Call (.Name x p) [] [] pos) (tCall sp [] E tNil) := pe_call0 G.ok (hr.mono hk) hg G.mgx G.kp G.bd .nil hx hdb
/-- != of two lists: of the same objects, of names, of names with texts -/
theorem op_neA (hu : X.A.units + 4 < cLine) : OpR X (compareOp .NotEq) (fun x y H Q => (∃ a b xs, x = .ref a ∧ y = .ref b ∧ SqL X.K H a xs ∧ SqL X.K H b xs ∧ (∀ x ∈ xs, ∃ r, x = V.ref r) ∧ Q (.bl false) H) ∨
    (∃ xs ys, LsOf Lo.cPa X.K H xs x ∧ LsOf Lo.cPa X.K H ys y ∧ Q (.bl (!decide (xs = ys))) H) ∨ ∃ xs ys, LsOf Lo.cPS X.K H xs x ∧ LsOf Lo.cPS X.K H ys y ∧ Q (.bl (!decide (xs = ys))) H) := by
  intro pins s σ H x y v u Q I rx ry h
  rcases h with h | h | h
  · exact op_ne_refs (by omega) pins s σ H x y v u Q I rx ry h
  · exact op_neL Lo.cPa (by show X.A.units + 1 + 1 < cLine; omega) pins s σ H x y v u Q I rx ry h
  · exact op_neL Lo.cPS (by show X.A.units + 2 + 1 < cLine; omega) pins s σ H x y v u Q I rx ry h
end
end L2
namespace Lo
open PySem L2
/-- plain things, at most d deep -/
def Pl (K : PySem.W.Frag) (H : Hp) : Nat → V → Prop
  | 0, v => (∃ i, v = .int i) ∨ ∃ t, v = .str t
  | d + 1, v => (∃ i, v = .int i) ∨ (∃ t, v = .str t) ∨ ∃ a us, v = .ref a ∧ SqU K H a us ∧ us.length ≤ 900 ∧ ∀ u ∈ us, Pl K H d u
theorem Pl.keep {K : PySem.W.Frag} {H H' : Hp} (e : TSame H H') : ∀ {d : Nat} {v : V}, Pl K H d v → Pl K H' d v
  | 0, _, h => h
  | d + 1, _, h => h.imp id fun h => h.imp id fun ⟨a, us, h1, h2, h3, h4⟩ => ⟨a, us, h1, h2.keep e, h3, fun u hu => Pl.keep e (h4 u hu)⟩
theorem Pl.int {K : PySem.W.Frag} {H : Hp} {d : Nat} (i : Int) : Pl K H d (.int i) := by cases d <;> exact .inl ⟨i, rfl⟩
theorem Pl.str {K : PySem.W.Frag} {H : Hp} {d : Nat} (t : Str) : Pl K H d (.str t) := by
  cases d with
  | zero => exact .inr ⟨t, rfl⟩
  | succ d => exact .inr (.inl ⟨t, rfl⟩)
theorem Pl.tup {K : PySem.W.Frag} {H : Hp} {d : Nat} {a : Addr} {us : List V} (h : H a = some (.tup us)) (h2 : us.length ≤ 900) (h3 : ∀ u ∈ us, Pl K H d u) : Pl K H (d + 1) (.ref a) := .inr (.inr ⟨a, us, rfl, .inl h, h2, h3⟩)
theorem Pl.nm {K : PySem.W.Frag} {H : Hp} {d : Nat} {p : Pa} {v : V} (h : sPa K H p v) : Pl K H (d + 1) v := by
  obtain ⟨a, rfl, h⟩ := h
  refine Pl.tup h (by show 2 ≤ 900; decide) fun u hu => ?_
  simp only [List.mem_cons, List.not_mem_nil, or_false] at hu
  rcases hu with rfl | rfl <;> exact Pl.int _
theorem Pl.ps {K : PySem.W.Frag} {H : Hp} {d : Nat} {x : Pa × Str} {v : V} (h : cPS.rp K H x v) : Pl K H (d + 2) v := by
  obtain ⟨a, u1, u2, rfl, h1, ⟨b, w1, w2, rfl, h2, e1, e2⟩, e3⟩ := h
  obtain rfl : w1 = .int x.1.1 := e1
  obtain rfl : w2 = .int x.1.2 := e2
  obtain rfl : u2 = .str x.2 := e3
  refine .inr (.inr ⟨a, _, rfl, h1, by show 2 ≤ 900; decide, fun u hu => ?_⟩)
  simp only [List.mem_cons, List.not_mem_nil, or_false] at hu
  rcases hu with rfl | rfl
  · refine .inr (.inr ⟨b, _, rfl, h2, by show 2 ≤ 900; decide, fun u hu => ?_⟩)
    simp only [List.mem_cons, List.not_mem_nil, or_false] at hu
    rcases hu with rfl | rfl <;> exact Pl.int _
  · exact Pl.str _
/-! ### rows -/
abbrev RA := Rw × Addr
def RowOk (K : PySem.W.Frag) (H : Hp) (x : RA) : Prop := RwAt K H x.1 x.2 ∧ Pl K H 3 (.ref x.2)
theorem RowOk.keep {K : PySem.W.Frag} {H H' : Hp} {x : RA} (e : TSame H H') (h : RowOk K H x) : RowOk K H' x := ⟨h.1.keep e, h.2.keep e⟩
def rV (xs : List RA) : List V := xs.map fun x => V.ref x.2
def RsAt (K : PySem.W.Frag) (H : Hp) (q : Addr) (xs : List RA) : Prop := H q = some (.lst (rV xs)) ∧ ∀ x ∈ xs, RowOk K H x
theorem RsAt.keep {K : PySem.W.Frag} {H H' : Hp} {q : Addr} {xs : List RA} (e : Same H H') (h : RsAt K H q xs) : RsAt K H' q xs := ⟨e _ _ h.1, fun x hx => (h.2 x hx).keep e.ts⟩
theorem rV_refs (xs : List RA) : ∀ x ∈ rV xs, ∃ r, x = V.ref r := fun x hx => by
  obtain ⟨y, _, rfl⟩ := List.mem_map.mp hx
  exact ⟨y.2, rfl⟩
def hasR (xs : List RA) (z : Str) (p : Pa) : Bool := xs.any fun x => decide (x.1.wd = z) && decide (x.1.nm = p)
theorem hasR_iff {xs : List RA} {z : Str} {p : Pa} : hasR xs z p = true ↔ ∃ x ∈ xs, x.1.wd = z ∧ x.1.nm = p := by
  unfold hasR
  rw [List.any_eq_true]
  constructor
  · rintro ⟨x, hx, h⟩
    rw [Bool.and_eq_true, decide_eq_true_eq, decide_eq_true_eq] at h
    exact ⟨x, hx, h⟩
  · rintro ⟨x, hx, h1, h2⟩
    exact ⟨x, hx, by rw [decide_eq_true h1, decide_eq_true h2]; rfl⟩
section
variable {K : PySem.W.Frag} {H : Hp} {a : Addr} {bl : L2.St} {tt : TT} {te : TE} {Fin : List V → Hp → Prop}
/-- [e(x) for x in a list if t(x)] -/
theorem lc_gen {α : Type} {xs : List α} {us : List V} {R0 : Hp → α → V → Prop} (k0 : ∀ H1 H2 x v, Same H1 H2 → R0 H1 x v → R0 H2 x v) (px : Paired (R0 H) xs us) (hq : H a = some (.lst us)) (hn : us.length ≤ sizeLine) (ft : α → Bool) (R : Hp → α → V → Prop) (hk : ∀ H1 H2 x v, Same H1 H2 → R H1 x v → R H2 x v)
    (ht : ∀ x u H1 (Q : Bool → Hp → Prop), x ∈ xs → R0 H1 x u → Same H H1 → (∀ H2, Same H1 H2 → Q (ft x) H2) → tt (some u :: bl) H1 Q)
    (he : ∀ x u H1 (Q : VK), x ∈ xs → ft x = true → R0 H1 x u → Same H H1 → (∀ v H2, Same H1 H2 → R H2 x v → Q v H2) → te (some u :: bl) H1 Q)
    (hd : ∀ ys H1, Same H H1 → Paired (R H1) (xs.filter ft) ys → Fin ys H1) :
    ∃ (W : Nat → List V → Hp → Prop) (n : Nat), W 0 [] H ∧ n ≤ sizeLine ∧ ∀ i ys H, W i ys H → ((Itl K a).stop i H ∧ Fin ys H) ∨
      ((Itl K a).go i H ∧ i < n ∧ ∀ x H', (Itl K a).yld i H x H' → tt (some x :: bl) H' fun c H2 => if c = true then te (some x :: bl) H2 fun y H3 => W (i + 1) (ys ++ [y]) H3 else W (i + 1) ys H2) := by
  refine lc_list (xs := us) (fun i ys H1 => Same H H1 ∧ Paired (R H1) ((xs.take i).filter ft) ys) ⟨Same.refl _, .nil⟩ hn (fun i ys H1 _ z => SqL.of (z.1 _ _ hq)) ?_ ?_
  · rintro i u ys H1 hu ⟨s1, py⟩
    obtain ⟨x, ex, rx⟩ := px.get hu
    have hx : x ∈ xs := List.mem_of_getElem? ex
    have et : xs.take (i + 1) = xs.take i ++ [x] := by rw [List.take_add_one, ex]; rfl
    refine ht x u H1 _ hx (k0 _ _ _ _ s1 rx) s1 fun H2 s2 => ?_
    cases hf : ft x with
    | true =>
      refine he x u H2 _ hx hf (k0 _ _ _ _ (s1.trans s2) rx) (s1.trans s2) fun v H3 s3 rv => ⟨s1.trans (s2.trans s3), ?_⟩
      rw [et, List.filter_append, List.filter_cons, hf]
      exact (Paired.mapP py fun _ _ z => hk _ _ _ _ (s2.trans s3) z).app (.cons rv .nil)
    | false =>
      refine ⟨s1.trans s2, ?_⟩
      rw [et, List.filter_append, List.filter_cons, hf]
      show Paired _ (_ ++ []) _
      rw [List.append_nil]
      exact Paired.mapP py fun _ _ z => hk _ _ _ _ s2 z
  · rintro ys H1 ⟨s1, py⟩
    refine hd ys H1 s1 ?_
    rw [← px.len, List.take_length] at py
    exact py
theorem pd_map {α β : Type} {R : β → V → Prop} {g : α → β} {xs : List α} {ys : List V} (h : Paired (fun x v => R (g x) v) xs ys) : Paired R (xs.map g) ys := by
  induction h with
  | nil => exact .nil
  | cons r _ ih => exact .cons r ih
theorem pd_any {α : Type} {R : α → V → Prop} {xs : List α} {ft : α → Bool} {us : List V} (h : Paired R (xs.filter ft) us) : (!decide (us = [])) = xs.any ft := by
  cases e : xs.filter ft with
  | nil =>
    rw [e] at h
    cases h
    rw [List.filter_eq_nil_iff] at e
    have z : xs.any ft = false := List.any_eq_false.mpr e
    rw [z, decide_eq_true rfl]
    rfl
  | cons a r =>
    rw [e] at h
    cases h with
    | cons r1 r2 =>
      have ha : a ∈ xs.filter ft := by rw [e]; exact List.mem_cons_self
      have z : xs.any ft = true := List.any_eq_true.mpr ⟨a, (List.mem_filter.mp ha).1, (List.mem_filter.mp ha).2⟩
      rw [z, decide_eq_false (fun z => nomatch z)]
      rfl
theorem filt_all {α : Type} (xs : List α) : xs.filter (fun _ => true) = xs := List.filter_eq_self.mpr fun _ _ => rfl
theorem rV_pd (xs : List RA) : Paired (fun (x : RA) (v : V) => v = V.ref x.2) xs (rV xs) := by
  induction xs with
  | nil => exact .nil
  | cons x r ih => exact .cons rfl ih
end
/-! ### what the rows tell -/
def begR (xs : List RA) : List (Pa × Str) := xs.filterMap fun x => match x.1 with | .beg p t => some (p, t) | _ => none
def wrkR (xs : List RA) : List Pa := xs.filterMap fun x => match x.1 with | .work p => some p | _ => none
def rdyR (xs : List RA) : List (Pa × Addr × List Pa) := xs.filterMap fun x => match x.1 with | .ready p ch => some (p, x.2, ch) | _ => none
def endR (xs : List RA) : List (Pa × Str) := xs.filterMap fun x => match x.1 with | .fin p o => some (p, o) | _ => none
/-- the rows that the law writes -/
def Ok33 (xs : List RA) : Rw → Prop
  | .beg _ _ => True
  | .work p => hasR xs "work" p = false
  | .ready p ch => hasR xs "ready" p = false ∧ ∀ c ∈ ch, c.1 = 0
  | .fin p _ => hasR xs "end" p = false
  | _ => False
end Lo
namespace L2
open PySem PySem.Spec PyProof.Rows Lo
theorem pe_dgetFK {X : Cx} {o i : Expr} {pos : Pos} {td ty : TE} (P : Program) (w : World) (hu : X.A.units + 1 < cLine) (ho : PE X o td) (hi : PE X i ty) (hs : NoSl i) (hP : X.prog = P := by rfl) (hw : X.w = w := by rfl) : PE X (.Subscript o i pos) (tDGetF P w td ty) := by
  subst hP hw
  exact pe_dgetF hu ho hi hs
/-- thawed behind a statement -/
def tThawS (P : Program) (w : World) (t : TS) : TS := fun D σ H => t ⟨fun σ1 H1 => ∃ a o kvs, H1 a = some (Fz a o) ∧ FzD P w H1 a o kvs ∧ D.nx σ1 (upd H1 a (.dT kvs)), D.rt, D.bk, D.ct⟩ σ H
theorem ps_thaw {X : Cx} {st : Stmt} {t : TS} (h : PS X st t) : PS X st (tThawS X.prog X.w t) := by
  intro pins s σ H D I hq
  refine wpAny_mono (h pins s σ H _ I hq) (fun f s1 z => ?_) fun _ _ e => e
  cases f with
  | next => obtain ⟨σ', H', I', a, o, kvs, e1, f1, q⟩ := z; exact ⟨σ', _, th_inv I' e1 f1, q⟩
  | brk => exact z
  | cont => exact z
  | ret v => exact z
section
variable {P : Program} {w : World} {K : PySem.W.Frag} {H : Hp} {D : Addr} {o : Obj} {bl : L2.St} {tt : TT} {te : TE} {Fin : List V → Hp → Prop}
/-- a dict's keys walked, names all -/
theorem lc_dic {α : Type} {xs : List α} {k : α → Pa} {vf : α → V} (f : FzD P w H D o (xs.map fun x => (pk (k x), vf x))) (hD : H D = some (Fz D o)) (ft : α → Bool) (R : Hp → α → V → Prop) (hk : ∀ H1 H2 x v, Same H1 H2 → R H1 x v → R H2 x v)
    (ht : ∀ x b H1 (Q : Bool → Hp → Prop), x ∈ xs → sPa K H1 (k x) (.ref b) → Same H H1 → Q (ft x) H1 → tt (some (.ref b) :: bl) H1 Q)
    (he : ∀ x b H1 (Q : VK), x ∈ xs → ft x = true → sPa K H1 (k x) (.ref b) → Same H H1 → (∀ v, R H1 x v → Q v H1) → te (some (.ref b) :: bl) H1 Q)
    (hd : ∀ ys H1, Same H H1 → Paired (R H1) (xs.filter ft) ys → Fin ys H1) :
    ∃ (W : Nat → List V → Hp → Prop) (n : Nat), W 0 [] H ∧ n ≤ sizeLine ∧ ∀ i ys H, W i ys H → ((Itk D o).stop i H ∧ Fin ys H) ∨
      ((Itk D o).go i H ∧ i < n ∧ ∀ x H', (Itk D o).yld i H x H' → tt (some x :: bl) H' fun c H2 => if c = true then te (some x :: bl) H2 fun y H3 => W (i + 1) (ys ++ [y]) H3 else W (i + 1) ys H2) := by
  have len : (xs.map fun x => (pk (k x), vf x)).length = xs.length := List.length_map _
  refine lc_keys f (fun i ys H1 => Same H H1 ∧ Paired (R H1) ((xs.take i).filter ft) ys) ⟨Same.refl _, .nil⟩ (fun i ys H' _ z => ⟨z.1 _ _ hD, z.1.ts⟩) ?_ ?_
  · rintro i e b ys H1 he1 hb ⟨s1, py⟩
    rw [List.getElem?_map] at he1
    obtain ⟨x, ex, rfl⟩ := Option.map_eq_some_iff.mp he1
    have hx : x ∈ xs := List.mem_of_getElem? ex
    have et : xs.take (i + 1) = xs.take i ++ [x] := by rw [List.take_add_one, ex]; rfl
    have sb : sPa K H1 (k x) (.ref b) := ⟨b, rfl, hb⟩
    refine ht x b H1 _ hx sb s1 ?_
    cases hf : ft x with
    | true =>
      refine he x b H1 _ hx hf sb s1 fun v rv => ⟨s1, ?_⟩
      rw [et, List.filter_append, List.filter_cons, hf]
      exact py.app (.cons rv .nil)
    | false =>
      refine ⟨s1, ?_⟩
      rw [et, List.filter_append, List.filter_cons, hf]
      show Paired _ (_ ++ []) _
      rw [List.append_nil]
      exact py
  · rintro ys H1 ⟨s1, py⟩
    rw [len, List.take_length] at py
    exact hd ys H1 s1 py
/-- the dict thawed, a list made meanwhile -/
theorem thaw_same {H1 : Hp} {kvs : List (List Key × V)} {p : Addr} {o2 : HO} (hD : H D = some (.dT kvs)) (s1 : Same (upd H D (Fz D o)) H1) (hp : H1 p = none) :
    Same H (upd (upd H1 p o2) D (.dT kvs)) ∧ (upd (upd H1 p o2) D (.dT kvs)) p = some o2 ∧ (upd H1 p o2) D = some (Fz D o) ∧ H p = none := by
  have e1 : H1 D = some (Fz D o) := s1 _ _ upd_same
  have npD : p ≠ D := Ne.symm (ne_of_none e1 hp)
  refine ⟨fun b ob e => ?_, by rw [upd_ne npD]; exact upd_same, by rw [upd_ne (Ne.symm npD)]; exact e1, ?_⟩
  · by_cases hb : b = D
    · subst hb
      rw [upd_same, ← e, hD]
    · rw [upd_ne hb]
      have e2 : H1 b = some ob := s1 _ _ (by rw [upd_ne hb]; exact e)
      rw [upd_ne (ne_of_none e2 hp)]
      exact e2
  · cases e : H p with
    | none => rfl
    | some u =>
      have := s1 p u (by rw [upd_ne npD]; exact e)
      rw [hp] at this
      cases this
end
end L2

set_option maxHeartbeats 4000000
namespace K33
open PySem L2 Lo
def top (i : Nat) : Stmt := PySem.Challenge.pw_pactroom_k33_bound_and_lost.main.body.getD i (.Pass ⟨0, 0, 0, 0⟩)
abbrev s__wall : Stmt := top 0
abbrev m_Stand_init : Stmt := inClass (top 2) 0
abbrev m_Stand_keep : Stmt := inClass (top 2) 1
abbrev m_Stand_changes_of : Stmt := inClass (top 2) 2
abbrev m_Stand_cell_at : Stmt := inClass (top 2) 3
abbrev m_Stand_cells_told : Stmt := inClass (top 2) 4
abbrev m_Stand_outcome : Stmt := inClass (top 2) 5
abbrev m_Stand_news : Stmt := inClass (top 2) 6
abbrev m_Stand_bound : Stmt := inClass (top 2) 7
abbrev m_Stand_lost : Stmt := inClass (top 2) 8
abbrev m_Stand_begun : Stmt := inClass (top 2) 9
abbrev m_Stand_walked_at : Stmt := inClass (top 2) 10
abbrev m_Stand_is_over : Stmt := inClass (top 2) 11
abbrev s__law_cell_at : Stmt := top 4
abbrev s__law_name : Stmt := top 5
abbrev s__law_has : Stmt := top 6
abbrev s__law_texts : Stmt := top 7
abbrev s__law_row : Stmt := top 8
abbrev s__law_lost : Stmt := top 9
abbrev s__law_plain : Stmt := top 10
abbrev s__law_right : Stmt := top 11
abbrev s_law : Stmt := top 12
theorem sc_Stand_init : FnScope ["self", "cells"] ["self", "cells"] (defScope m_Stand_init) := ⟨rfl, rfl, rfl, by decide +kernel, rfl, by decide +kernel, by decide +kernel⟩
theorem sc_Stand_keep : FnScope ["self", "row", "change", "p"] ["self", "row"] (defScope m_Stand_keep) := ⟨rfl, rfl, rfl, by decide +kernel, rfl, by decide +kernel, by decide +kernel⟩
theorem sc_Stand_changes_of : FnScope ["self", "row"] ["self", "row"] (defScope m_Stand_changes_of) := ⟨rfl, rfl, rfl, by decide +kernel, rfl, by decide +kernel, by decide +kernel⟩
theorem sc_Stand_bound : FnScope ["self"] ["self"] (defScope m_Stand_bound) := ⟨rfl, rfl, rfl, by decide +kernel, rfl, by decide +kernel, by decide +kernel⟩
def cm_Stand_bound_0 : Scope := match defBody m_Stand_bound with
  | .Return (some (.ListComp _ _ sc _)) _ :: _ => sc
  | _ => default
theorem sb_Stand_bound_0 : BlkScope ["self"] (defScope m_Stand_bound) cm_Stand_bound_0 "p" ["p", "self"] [0] := ⟨by decide +kernel, rfl, by decide +kernel, rfl, by decide +kernel, by decide +kernel, rfl, rfl, by decide +kernel⟩
theorem sc_Stand_lost : FnScope ["self", "led", "helped"] ["self"] (defScope m_Stand_lost) := ⟨rfl, rfl, rfl, by decide +kernel, rfl, by decide +kernel, by decide +kernel⟩
def cm_Stand_lost_0 : Scope := match defBody m_Stand_lost with
  | .Assign _ (.ListComp _ _ sc _) _ :: _ => sc
  | _ => default
theorem sb_Stand_lost_0 : BlkScope ["self", "led", "helped"] (defScope m_Stand_lost) cm_Stand_lost_0 "pair" ["pair", "self"] [0] := ⟨by decide +kernel, rfl, by decide +kernel, rfl, by decide +kernel, by decide +kernel, rfl, rfl, by decide +kernel⟩
def cm_Stand_lost_1 : Scope := match defBody m_Stand_lost with
  | _ :: .Assign _ (.ListComp _ _ sc _) _ :: _ => sc
  | _ => default
theorem sb_Stand_lost_1 : BlkScope ["self", "led", "helped"] (defScope m_Stand_lost) cm_Stand_lost_1 "p" ["p", "self"] [0] := ⟨by decide +kernel, rfl, by decide +kernel, rfl, by decide +kernel, by decide +kernel, rfl, rfl, by decide +kernel⟩
theorem sc_Stand_begun : FnScope ["self"] ["self"] (defScope m_Stand_begun) := ⟨rfl, rfl, rfl, by decide +kernel, rfl, by decide +kernel, by decide +kernel⟩
theorem sc__law_cell_at : FnScope ["_law_script", "_law_k"] ["_law_script", "_law_k"] (defScope s__law_cell_at) := ⟨rfl, rfl, rfl, by decide +kernel, rfl, by decide +kernel, by decide +kernel⟩
theorem sc__law_name : FnScope ["_law_number", "_law_k", "_law_rows", "_law_name_here"] ["_law_number", "_law_k", "_law_rows"] (defScope s__law_name) := ⟨rfl, rfl, rfl, by decide +kernel, rfl, by decide +kernel, by decide +kernel⟩
def cm__law_name_0 : Scope := match defBody s__law_name with
  | _ :: _ :: .While (.Compare _ _ [.ListComp _ _ sc _] _) _ _ _ :: _ => sc
  | _ => default
theorem sb__law_name_0 : BlkScope ["_law_number", "_law_k", "_law_rows", "_law_name_here"] (defScope s__law_name) cm__law_name_0 "_law_row_here" ["_law_row_here"] [] := ⟨by decide +kernel, rfl, by decide +kernel, rfl, by decide +kernel, by decide +kernel, rfl, rfl, fun j h => absurd h (Nat.not_lt_zero j)⟩
theorem sc__law_has : FnScope ["_law_rows", "_law_word", "_law_name_here"] ["_law_rows", "_law_word", "_law_name_here"] (defScope s__law_has) := ⟨rfl, rfl, rfl, by decide +kernel, rfl, by decide +kernel, by decide +kernel⟩
def cm__law_has_0 : Scope := match defBody s__law_has with
  | .Return (some (.Compare (.ListComp _ _ sc _) _ _ _)) _ :: _ => sc
  | _ => default
theorem sb__law_has_0 : BlkScope ["_law_rows", "_law_word", "_law_name_here"] (defScope s__law_has) cm__law_has_0 "_law_row_here" ["_law_row_here", "_law_word", "_law_name_here"] [1, 2] := ⟨by decide +kernel, rfl, by decide +kernel, rfl, by decide +kernel, by decide +kernel, rfl, rfl, by decide +kernel⟩
theorem sc__law_texts : FnScope [] [] (defScope s__law_texts) := ⟨rfl, rfl, rfl, by decide +kernel, rfl, by decide +kernel, by decide +kernel⟩
theorem sc__law_row : FnScope ["_law_number", "_law_k", "_law_rows", "_law_name_here", "_law_old", "_law_ended"] ["_law_number", "_law_k", "_law_rows"] (defScope s__law_row) := ⟨rfl, rfl, rfl, by decide +kernel, rfl, by decide +kernel, by decide +kernel⟩
theorem sc__law_lost : FnScope ["_law_rows", "_law_found", "_law_row_here", "_law_name_here", "_law_free"] ["_law_rows"] (defScope s__law_lost) := ⟨rfl, rfl, rfl, by decide +kernel, rfl, by decide +kernel, by decide +kernel⟩
theorem sc__law_plain : FnScope ["_law_found"] ["_law_found"] (defScope s__law_plain) := ⟨rfl, rfl, rfl, by decide +kernel, rfl, by decide +kernel, by decide +kernel⟩
def cm__law_plain_0 : Scope := match defBody s__law_plain with
  | .If _ (.Return (some (.Call _ [.ListComp _ _ sc _] _ _)) _ :: _) _ _ :: _ => sc
  | _ => default
theorem sb__law_plain_0 : BlkScope ["_law_found"] (defScope s__law_plain) cm__law_plain_0 "_law_part" ["_law_part"] [] := ⟨by decide +kernel, rfl, by decide +kernel, rfl, by decide +kernel, by decide +kernel, rfl, rfl, fun j h => absurd h (Nat.not_lt_zero j)⟩
theorem sc__law_right : FnScope ["_law_stand", "_law_rows", "_law_bound", "_law_begun", "_law_found", "_law_due"] ["_law_stand", "_law_rows"] (defScope s__law_right) := ⟨rfl, rfl, rfl, by decide +kernel, rfl, by decide +kernel, by decide +kernel⟩
def cm__law_right_0 : Scope := match defBody s__law_right with
  | .Assign _ (.ListComp _ _ sc _) _ :: _ => sc
  | _ => default
theorem sb__law_right_0 : BlkScope ["_law_stand", "_law_rows", "_law_bound", "_law_begun", "_law_found", "_law_due"] (defScope s__law_right) cm__law_right_0 "_law_row_here" ["_law_row_here", "_law_rows"] [1] := ⟨by decide +kernel, rfl, by decide +kernel, rfl, by decide +kernel, by decide +kernel, rfl, rfl, by decide +kernel⟩
def cm__law_right_1 : Scope := match defBody s__law_right with
  | _ :: .Assign _ (.ListComp _ _ sc _) _ :: _ => sc
  | _ => default
theorem sb__law_right_1 : BlkScope ["_law_stand", "_law_rows", "_law_bound", "_law_begun", "_law_found", "_law_due"] (defScope s__law_right) cm__law_right_1 "_law_row_here" ["_law_row_here"] [] := ⟨by decide +kernel, rfl, by decide +kernel, rfl, by decide +kernel, by decide +kernel, rfl, rfl, fun j h => absurd h (Nat.not_lt_zero j)⟩
def cm__law_right_2 : Scope := match defBody s__law_right with
  | _ :: _ :: .For _ _ (.If (.BoolOp _ [_, (.UnaryOp _ (.Call _ [.ListComp _ _ sc _] _ _) _), _] _) _ _ _ :: _) _ _ :: _ => sc
  | _ => default
theorem sb__law_right_2 : BlkScope ["_law_stand", "_law_rows", "_law_bound", "_law_begun", "_law_found", "_law_due"] (defScope s__law_right) cm__law_right_2 "_law_one" ["_law_one"] [] := ⟨by decide +kernel, rfl, by decide +kernel, rfl, by decide +kernel, by decide +kernel, rfl, rfl, fun j h => absurd h (Nat.not_lt_zero j)⟩
theorem sc_law : FnScope ["_law_script", "_law_stand", "_law_rows", "_law_k", "_law_number", "_law_row_here"] ["_law_script"] (defScope s_law) := ⟨rfl, rfl, rfl, by decide +kernel, rfl, by decide +kernel, by decide +kernel⟩
end K33

set_option maxHeartbeats 4000000
namespace K33
open PySem L2 Lo
section
variable {P : Program} {w : World} {K : PySem.W.Frag} {mg : Str → Option Value} {base : Heap} {f CS : Addr} {fd : FuncData}
/-! ### what stands -/
theorem ok_sinit (F : Fun K "__init__" "Stand.__init__" m_Stand_init f fd) (B : TxB mg) (D : TxD K CS) : FnOk P w K mg base CX0 1 f fd ["self", "cells"] (spSInit CS K) := by
  refine F.ok sc_Stand_init (fun vs H Q E h => ?_) (fun cdv A outer s H vs Q E hr h => ?_)
  · obtain ⟨l, dx, c, cs, rfl, _⟩ := h
    rfl
  obtain ⟨l, dx, c, cs, rfl, hl, hc, hz, q⟩ := h
  refine ⟨_, pss_cons (ps_fld (pv 0) (pe_callTy call_list_of rfl B.list PyProof.Rows.boot_list (pa_cons (pv 1) pa_nil)) rfl)
    (pss_cons (ps_fld (pv 0) (pe_lst pa_nil) rfl) (pss_cons (ps_fld (pv 0) pe_dnewT rfl) (pss_cons (ps_fld (pv 0) pe_dnewT rfl) (pss_cons (ps_fld (pv 0) pe_dnewT rfl) (pss_cons (ps_fld (pv 0) pe_dnewN rfl) (pss_one (ps_fld (pv 0) pe_dnewT rfl))))))), ?_⟩
  refine ⟨_, rfl, c, _, rfl, .inl (SqL.of hc), fun cl n1 => ?_⟩
  obtain ⟨a1, a2, a3, k1⟩ := fld_new (o := .lst (cs.map V.int)) (fs' := putF "cells" (.ref cl) []) hl n1
  refine ⟨_, rfl, l, CS, dx, _, rfl, a1, D.cl, D.nc, (by show 0 < 1000; decide), ?_⟩
  have z1 : cl ≠ l := ne_of a3 a2 (by intro z; cases z)
  generalize (upd (upd H cl (.lst (cs.map V.int))) l (.ins CS dx (putF "cells" (.ref cl) []))) = H1 at a2 a3 k1 ⊢
  refine ⟨(by show 0 ≤ sizeLine; decide), fun bg n2 => ?_⟩
  obtain ⟨b1, b2, b3, k2⟩ := fld_new (o := .lst []) (fs' := putF "begins" (.ref bg) (putF "cells" (.ref cl) [])) a2 n2
  refine ⟨_, rfl, l, CS, dx, _, rfl, b1, D.cl, D.nb, (fewF (n := 999) (by show 0 < 999; decide)), ?_⟩
  have z2 : bg ≠ l := ne_of b3 b2 (by intro z; cases z)
  generalize (upd (upd H1 bg (.lst [])) l (.ins CS dx (putF "begins" (.ref bg) (putF "cells" (.ref cl) [])))) = H2 at b2 b3 k2 ⊢
  refine fun wk n3 => ?_
  obtain ⟨c1, c2, c3, k3⟩ := fld_new (o := .dT []) (fs' := putF "worked" (.ref wk) (putF "begins" (.ref bg) (putF "cells" (.ref cl) []))) b2 n3
  refine ⟨_, rfl, l, CS, dx, _, rfl, c1, D.cl, D.nw, (fewF (n := 999) (fewF (n := 998) (by show 0 < 998; decide))), ?_⟩
  have z3 : wk ≠ l := ne_of c3 c2 (by intro z; cases z)
  generalize (upd (upd H2 wk (.dT [])) l (.ins CS dx (putF "worked" (.ref wk) (putF "begins" (.ref bg) (putF "cells" (.ref cl) []))))) = H3 at c2 c3 k3 ⊢
  refine fun rd n4 => ?_
  obtain ⟨d1, d2, d3, k4⟩ := fld_new (o := .dT []) (fs' := putF "readies" (.ref rd) (putF "worked" (.ref wk) (putF "begins" (.ref bg) (putF "cells" (.ref cl) [])))) c2 n4
  refine ⟨_, rfl, l, CS, dx, _, rfl, d1, D.cl, D.nr, (fewF (n := 999) (fewF (n := 998) (fewF (n := 997) (by show 0 < 997; decide)))), ?_⟩
  have z4 : rd ≠ l := ne_of d3 d2 (by intro z; cases z)
  generalize (upd (upd H3 rd (.dT [])) l (.ins CS dx (putF "readies" (.ref rd) (putF "worked" (.ref wk) (putF "begins" (.ref bg) (putF "cells" (.ref cl) [])))))) = H4 at d2 d3 k4 ⊢
  refine fun en n5 => ?_
  obtain ⟨e1, e2, e3, k5⟩ := fld_new (o := .dT []) (fs' := putF "ends" (.ref en) (putF "readies" (.ref rd) (putF "worked" (.ref wk) (putF "begins" (.ref bg) (putF "cells" (.ref cl) []))))) d2 n5
  refine ⟨_, rfl, l, CS, dx, _, rfl, e1, D.cl, D.ne, (fewF (n := 999) (fewF (n := 998) (fewF (n := 997) (fewF (n := 996) (by show 0 < 996; decide))))), ?_⟩
  have z5 : en ≠ l := ne_of e3 e2 (by intro z; cases z)
  generalize (upd (upd H4 en (.dT [])) l (.ins CS dx (putF "ends" (.ref en) (putF "readies" (.ref rd) (putF "worked" (.ref wk) (putF "begins" (.ref bg) (putF "cells" (.ref cl) []))))))) = H5 at e2 e3 k5 ⊢
  refine fun wa n6 => ?_
  obtain ⟨f1, f2, f3, k6⟩ := fld_new (o := NDt wa []) (fs' := putF "walks" (.ref wa) (putF "ends" (.ref en) (putF "readies" (.ref rd) (putF "worked" (.ref wk) (putF "begins" (.ref bg) (putF "cells" (.ref cl) [])))))) e2 n6
  refine ⟨_, rfl, l, CS, dx, _, rfl, f1, D.cl, D.na, (fewF (n := 999) (fewF (n := 998) (fewF (n := 997) (fewF (n := 996) (fewF (n := 995) (by show 0 < 995; decide)))))), ?_⟩
  have z6 : wa ≠ l := ne_of f3 f2 (by intro z; cases z)
  generalize (upd (upd H5 wa (NDt wa [])) l (.ins CS dx (putF "walks" (.ref wa) (putF "ends" (.ref en) (putF "readies" (.ref rd) (putF "worked" (.ref wk) (putF "begins" (.ref bg) (putF "cells" (.ref cl) [])))))))) = H6 at f2 f3 k6 ⊢
  refine fun ov n7 => ?_
  obtain ⟨g1, g2, g3, k7⟩ := fld_new (o := .dT []) (fs' := sf ⟨l, dx, cl, bg, wk, rd, en, wa, ov⟩) f2 n7
  refine ⟨_, rfl, l, CS, dx, _, rfl, g1, D.cl, D.no, (fewF (n := 999) (fewF (n := 998) (fewF (n := 997) (fewF (n := 996) (fewF (n := 995) (fewF (n := 994) (by show 0 < 994; decide))))))), ?_⟩
  have z7 : ov ≠ l := ne_of g3 g2 (by intro z; cases z)
  have a4 := k2 _ _ z1 a3
  have a5 := k3 _ _ z1 a4
  have a6 := k4 _ _ z1 a5
  have a7 := k5 _ _ z1 a6
  have a8 := k6 _ _ z1 a7
  have a9 := k7 _ _ z1 a8
  have b4 := k3 _ _ z2 b3
  have b5 := k4 _ _ z2 b4
  have b6 := k5 _ _ z2 b5
  have b7 := k6 _ _ z2 b6
  have b8 := k7 _ _ z2 b7
  have c4 := k4 _ _ z3 c3
  have c5 := k5 _ _ z3 c4
  have c6 := k6 _ _ z3 c5
  have c7 := k7 _ _ z3 c6
  have d4 := k5 _ _ z4 d3
  have d5 := k6 _ _ z4 d4
  have d6 := k7 _ _ z4 d5
  have e4 := k6 _ _ z5 e3
  have e5 := k7 _ _ z5 e4
  have f4 := k7 _ _ z6 f3
  refine q ⟨l, dx, cl, bg, wk, rd, en, wa, ov⟩ _ rfl ⟨[], g2, ?_, .nil, (fun x hx => nomatch hx), ⟨(fun x hx => nomatch hx), List.nodup_nil⟩, ?_⟩ ?_ ((((((k1.trans k2).trans k3).trans k4).trans k5).trans k6).trans k7)
  · intro x hx
    simp only [conts, List.mem_cons, List.not_mem_nil, or_false] at hx
    rcases hx with e | e | e | e | e | e | e <;> subst e
    · exact a9
    · exact b8
    · exact c7
    · exact d6
    · exact e5
    · exact f4
    · exact g3
  · show [cl, bg, wk, rd, en, wa, ov].Nodup
    have y12 : cl ≠ bg := ne_of_none a3 n2
    have y13 : cl ≠ wk := ne_of_none a4 n3
    have y14 : cl ≠ rd := ne_of_none a5 n4
    have y15 : cl ≠ en := ne_of_none a6 n5
    have y16 : cl ≠ wa := ne_of_none a7 n6
    have y17 : cl ≠ ov := ne_of_none a8 n7
    have y23 : bg ≠ wk := ne_of_none b3 n3
    have y24 : bg ≠ rd := ne_of_none b4 n4
    have y25 : bg ≠ en := ne_of_none b5 n5
    have y26 : bg ≠ wa := ne_of_none b6 n6
    have y27 : bg ≠ ov := ne_of_none b7 n7
    have y34 : wk ≠ rd := ne_of_none c3 n4
    have y35 : wk ≠ en := ne_of_none c4 n5
    have y36 : wk ≠ wa := ne_of_none c5 n6
    have y37 : wk ≠ ov := ne_of_none c6 n7
    have y45 : rd ≠ en := ne_of_none d3 n5
    have y46 : rd ≠ wa := ne_of_none d4 n6
    have y47 : rd ≠ ov := ne_of_none d5 n7
    have y56 : en ≠ wa := ne_of_none e3 n6
    have y57 : en ≠ ov := ne_of_none e4 n7
    have y67 : wa ≠ ov := ne_of_none f3 n7
    simp [*]
  · intro b hb
    have hb' : b ∈ [cl, bg, wk, rd, en, wa, ov] := hb
    simp only [List.mem_cons, List.not_mem_nil, or_false] at hb'
    rcases hb' with e | e | e | e | e | e | e <;> subst e
    · exact n1
    · exact none_back k1 a2 n2
    · exact none_back (k1.trans k2) b2 n3
    · exact none_back ((k1.trans k2).trans k3) c2 n4
    · exact none_back (((k1.trans k2).trans k3).trans k4) d2 n5
    · exact none_back ((((k1.trans k2).trans k3).trans k4).trans k5) e2 n6
    · exact none_back (((((k1.trans k2).trans k3).trans k4).trans k5).trans k6) f2 n7
theorem ok_chg (F : Fun K "changes_of" "Stand.changes_of" m_Stand_changes_of f fd) (D : TxD K CS) : FnOk P w K mg base CX0 1 f fd ["self", "row"] (spChg CS K) := by
  refine F.ok sc_Stand_changes_of (fun vs H Q E h => ?_) (fun cdv A outer s H vs Q E hr h => ?_)
  · obtain ⟨A, d, r, w, rfl, _⟩ := h
    rfl
  obtain ⟨S, d, r, w, rfl, ⟨us0, st⟩, ⟨pv0, us, hrow, ⟨pa, rfl, hpa⟩, hm⟩, q⟩ := h
  refine ⟨_, pss_cons (ps_if (PW.pt (pw_and (pt_cmpR op_eq (pe_ix (r := rIxT K) ix_tup (pv 1) pe_int (fun _ _ => rfl)) pe_str (nomark _)) (pw_and (pt_cmpR op_eq (pe_ix (r := rIxT K) ix_tup (pv 1) pe_int (fun _ _ => rfl)) pe_str (nomark _)) (pw_and1 (pt_cmp (pc_din (hun1 hr) (pe_ix (r := rIxT K) ix_tup (pv 1) pe_int (fun _ _ => rfl)) (pe_fld (pv 0) rfl)))))))
      (pss_one (ps_ret (pe_ix (r := rIxT K) ix_tup (pe_dget (hun1 hr) (pe_fld (pv 0) rfl) (pe_ix (r := rIxT K) ix_tup (pv 1) pe_int (fun _ _ => rfl)) (fun _ _ => rfl)) pe_int (fun _ _ => rfl)))) pss_nil)
    (pss_cons (ps_if (PW.pt (pw_or (pt_cmpR op_eq (pe_ix (r := rIxT K) ix_tup (pv 1) pe_int (fun _ _ => rfl)) pe_str (nomark _)) (pw_or1 (pt_cmpR op_eq (pe_ix (r := rIxT K) ix_tup (pv 1) pe_int (fun _ _ => rfl)) pe_str (nomark _))))) (pss_one (ps_ret (pe_ix (r := rIxT K) ix_tup (pv 1) pe_int (fun _ _ => rfl)))) pss_nil)
    (pss_one (ps_ret (pe_tup pa_nil)))), ?_⟩
  refine ⟨_, rfl, r, _, _, _, rfl, rfl, SqT.of hrow, at0, rfl, _, rfl, ?_⟩
  by_cases e1 : w.wd = "end"
  · cases w with
    | fin p o =>
      obtain ⟨a, rfl⟩ := hm
      refine ite2 (fun _ => ?_) (fun c => absurd (decide_eq_true rfl) c)
      refine ⟨_, rfl, r, _, _, _, rfl, rfl, SqT.of hrow, rfl, rfl, _, rfl, ?_⟩
      by_cases eo : o = "done"
      · refine ite2 (fun _ => ?_) (fun c => absurd (decide_eq_true (congrArg V.str eo)) c)
        refine ⟨_, rfl, r, _, _, _, rfl, rfl, SqT.of hrow, rfl, _, rfl, S.l, CS, S.dx, _, _, rfl, st.ins, D.cl, D.nr, sf_rd S, S.rd, _, rfl, DGet.t (k := pk p) st.rdd hpa, _, rfl, ?_⟩
        rw [val_dR]
        cases er : rdOf d.ready p with
        | some x =>
          refine iteT ?_
          obtain ⟨x1, x2, x3⟩ := x
          have hmem : (x1, x2, x3) ∈ d.ready := List.mem_of_find?_eq_some er
          obtain ⟨pv', us', hrow', _, ⟨a', b', d', rfl, hch⟩⟩ := st.rd _ hmem
          refine ⟨_, rfl, S.l, CS, S.dx, _, _, rfl, st.ins, D.cl, D.nr, sf_rd S, _, rfl, r, _, _, _, rfl, rfl, SqT.of hrow, rfl, S.rd, .ref x2, rfl, ?_, x2, _, _, _, rfl, rfl, SqT.of hrow', rfl, ?_⟩
          · have g := DGet.t (k := pk p) st.rdd hpa
            rw [val_dR, er] at g
            exact g
          · refine q _ H (Same.refl H) ?_
            have e : d.chs (.fin p o) = x3 := by
              show (if o = "done" then ((rdOf d.ready p).map fun x => x.2.2).getD [] else []) = x3
              rw [if_pos eo, er]
              rfl
            rw [e]
            exact hch
        | none =>
          refine iteF ?_
          refine ⟨_, rfl, r, _, _, _, rfl, rfl, SqT.of hrow, rfl, rfl, _, rfl, ite2 (fun c => absurd (V.str.inj (of_decide_eq_true c)) (by simp only [Rw.wd]; decide +kernel)) (fun _ => ?_)⟩
          refine ⟨_, rfl, r, _, _, _, rfl, rfl, SqT.of hrow, rfl, rfl, _, rfl, ite2 (fun c => absurd (V.str.inj (of_decide_eq_true c)) (by simp only [Rw.wd]; decide +kernel)) (fun _ => ?_)⟩
          refine ⟨(by show 0 ≤ sizeLine; decide), fun t ht => q _ _ (same_new ht) ?_⟩
          have e : d.chs (.fin p o) = [] := by
            show (if o = "done" then ((rdOf d.ready p).map fun x => x.2.2).getD [] else []) = []
            rw [if_pos eo, er]
            rfl
          rw [e]
          exact ⟨t, [], rfl, .inl upd_same, .nil⟩
      · refine ite2 (fun c => absurd (V.str.inj (of_decide_eq_true c)) eo) (fun _ => iteF ?_)
        refine ⟨_, rfl, r, _, _, _, rfl, rfl, SqT.of hrow, rfl, rfl, _, rfl, ite2 (fun c => absurd (V.str.inj (of_decide_eq_true c)) (by simp only [Rw.wd]; decide +kernel)) (fun _ => ?_)⟩
        refine ⟨_, rfl, r, _, _, _, rfl, rfl, SqT.of hrow, rfl, rfl, _, rfl, ite2 (fun c => absurd (V.str.inj (of_decide_eq_true c)) (by simp only [Rw.wd]; decide +kernel)) (fun _ => ?_)⟩
        refine ⟨(by show 0 ≤ sizeLine; decide), fun t ht => q _ _ (same_new ht) ?_⟩
        have e : d.chs (.fin p o) = [] := by
          show (if o = "done" then ((rdOf d.ready p).map fun x => x.2.2).getD [] else []) = []
          rw [if_neg eo]
        rw [e]
        exact ⟨t, [], rfl, .inl upd_same, .nil⟩
    | _ => exact absurd e1 (by simp only [Rw.wd]; decide +kernel)
  refine ite2 (fun c => absurd (V.str.inj (of_decide_eq_true c)) e1) (fun _ => iteF ?_)
  refine ⟨_, rfl, r, _, _, _, rfl, rfl, SqT.of hrow, at0, rfl, _, rfl, ?_⟩
  by_cases e2 : w.wd = "walked"
  · cases w with
    | walk p i ch =>
      obtain ⟨c, h, rfl, hch⟩ := hm
      refine ite2 (fun _ => ?_) (fun c => absurd (decide_eq_true rfl) c)
      refine iteT ⟨_, rfl, r, _, _, _, rfl, rfl, SqT.of hrow, rfl, q _ H (Same.refl H) hch⟩
    | _ => exact absurd e2 (by simp only [Rw.wd]; decide +kernel)
  refine ite2 (fun c => absurd (V.str.inj (of_decide_eq_true c)) e2) (fun _ => ?_)
  refine ⟨_, rfl, r, _, _, _, rfl, rfl, SqT.of hrow, at0, rfl, _, rfl, ?_⟩
  by_cases e3 : w.wd = "undone"
  · cases w with
    | undo p i ch =>
      obtain ⟨c, rfl, hch⟩ := hm
      refine ite2 (fun _ => ?_) (fun c => absurd (decide_eq_true rfl) c)
      exact ⟨_, rfl, r, _, _, _, rfl, rfl, SqT.of hrow, rfl, q _ H (Same.refl H) hch⟩
    | _ => exact absurd e3 (by simp only [Rw.wd]; decide +kernel)
  refine ite2 (fun c => absurd (V.str.inj (of_decide_eq_true c)) e3) (fun _ => ?_)
  refine ⟨(by show 0 ≤ sizeLine; decide), fun t ht => q _ _ (same_new ht) ?_⟩
  have e : d.chs w = [] := by
    cases w with
    | fin p o => exact absurd rfl e1
    | walk p i ch => exact absurd rfl e2
    | undo p i ch => exact absurd rfl e3
    | _ => rfl
  rw [e]
  exact ⟨t, [], rfl, .inl upd_same, .nil⟩
end
end K33

set_option maxHeartbeats 4000000
namespace K33
open PySem L2 Lo
section
variable {P : Program} {w : World} {K : PySem.W.Frag} {mg : Str → Option Value} {base : Heap} {f CS : Addr} {fd : FuncData}
theorem ok_keep (F : Fun K "keep" "Stand.keep" m_Stand_keep f fd) (D : TxD K CS) (GC : GM P w K mg base CX0 1 CS "changes_of" ["self", "row"] (spChg CS K)) : FnOk P w K mg base CX0 2 f fd ["self", "row"] (spKeep CS K) := by
  refine F.ok sc_Stand_keep (fun vs H Q E h => ?_) (fun cdv A outer s H vs Q E hr h => ?_)
  · obtain ⟨A, d, r, w, rfl, _⟩ := h
    rfl
  obtain ⟨S, d, r, w, rfl, ⟨us0, st⟩, rw0, sm, hcl, ⟨fit1, fit2⟩, q⟩ := h
  have nd := sc_Stand_keep.nd
  refine ⟨_, pss_cons (ps_for PassesOwn.never rfl (pi_tup (pm GC (pv 0) D.cl hr (pa_cons (pv 1) pa_nil))) (pg_name (i := 2) nd rfl (Or.inl rfl)) (pss_one (ps_asg (pe_ix (r := rIxT K) ix_tup (pv 2) pe_int (fun _ _ => rfl)) (pg_sub (pe_fld (pv 0) rfl) (pe_ix (r := rIxT K) ix_tup (pv 2) pe_int (fun _ _ => rfl)) set_list))))
    (pss_cons (ps_set (i := 3) nd rfl (Or.inl rfl) (pe_ix (r := rIxT K) ix_tup (pv 1) pe_int (fun _ _ => rfl)))
    (pss_one (ps_if (pt_cmpR op_eq (pe_ix (r := rIxT K) ix_tup (pv 1) pe_int (fun _ _ => rfl)) pe_str (nomark _)) (pss_one (ps_expr (pe_bm PySem.F.plainAttrs_list PySem.F.slot_list_append PySem.F.type_list_append mt_append (pe_fld (pv 0) rfl) (pa_cons (pe_tup (pa_cons (pv 3) (pa_cons (pe_ix (r := rIxT K) ix_tup (pv 1) pe_int (fun _ _ => rfl)) pa_nil))) pa_nil))))
    (pss_one (ps_if (pt_cmpR op_eq (pe_ix (r := rIxT K) ix_tup (pv 1) pe_int (fun _ _ => rfl)) pe_str (nomark _)) (pss_one (ps_dput (hun1 hr) (pe_fld (pv 0) rfl) (pv 3) pe_bl rfl))
    (pss_one (ps_if (pt_cmpR op_eq (pe_ix (r := rIxT K) ix_tup (pv 1) pe_int (fun _ _ => rfl)) pe_str (nomark _)) (pss_one (ps_dput (hun1 hr) (pe_fld (pv 0) rfl) (pv 3) (pv 1) rfl))
    (pss_one (ps_if (pt_cmpR op_eq (pe_ix (r := rIxT K) ix_tup (pv 1) pe_int (fun _ _ => rfl)) pe_str (nomark _)) (pss_one (ps_expr (pe_ddef (hun1 hr) (pe_fld (pv 0) rfl) (pv 3) (pe_ix (r := rIxT K) ix_tup (pv 1) pe_int (fun _ _ => rfl)) ⟨rfl, rfl, rfl, rfl⟩)))
    (pss_one (ps_if (pt_cmpR op_eq (pe_ix (r := rIxT K) ix_tup (pv 1) pe_int (fun _ _ => rfl)) pe_str (nomark _)) (pss_one (ps_dput (hun1 hr) (pe_fld (pv 0) rfl) (pv 3) pe_bl rfl))
    (pss_one (ps_nput (hun2 hr) (pe_fld (pv 0) rfl) (pe_tup (pa_cons (pv 3) (pa_cons (pe_ix (r := rIxT K) ix_tup (pv 1) pe_int (fun _ _ => rfl)) pa_nil))) (pv 1) rfl))))))))))))), ?_⟩
  refine ⟨_, rfl, S.l, S.dx, _, rfl, st.ins, sf_no (by decide +kernel), _, rfl, S, d, r, w, rfl, ⟨us0, st⟩, rw0, fun v H1 s1 hch => ?_⟩
  obtain ⟨dc, cus, rfl, hdc, pch⟩ := hch
  refine ⟨dc, rfl, ⟨_, hdc.sq⟩, ?_⟩
  have st1 := st.keep s1
  have hlen := pch.len
  refine for_tup (xs := cus) (fun i σ H' => ∃ x2 x3, σ = [some (.ref S.l), some (.ref r), x2, x3] ∧ StU CS K H' S { d with cells := apply d.cells ((d.chs w).take i) } us0 ∧ KpS S H1 H') ⟨none, none, rfl, st1, KpS.of (Same.refl _)⟩
    (fun i σ H' _ z => by obtain ⟨_, _, _, _, k⟩ := z; exact (hdc.keep (st1.ts k)).sq) ?_ ?_
  · rintro i u σ H2 hu ⟨x2, x3, rfl, st2, k2⟩
    obtain ⟨c, ec, rc⟩ := pch.get hu
    have t2 := st1.ts k2
    obtain ⟨ca, u1, u2, rfl, hca, e1, e2⟩ := cPa.keep t2 rc
    have e1' : u1 = .int c.1 := e1
    have e2' : u2 = .int c.2 := e2
    subst e1' e2'
    obtain ⟨f1, f2⟩ := fit1 c (List.mem_of_getElem? ec)
    have hc2 : ((apply d.cells ((d.chs w).take i)).map V.int).length = d.cells.length := by rw [List.length_map, apply_len]
    refine ⟨_, rfl, ca, _, _, _, rfl, rfl, hca.sq, rfl, _, rfl, S.l, CS, S.dx, _, _, rfl, st2.ins, D.cl, D.nc, sf_cl S, _, rfl, ca, _, _, _, rfl, rfl, hca.sq, rfl, S.cl, _, c.1, c.1.toNat, rfl, rfl, st2.cl, ?_, ?_⟩
    · rw [hc2]
      exact ixN_in f1 f2
    · have e : (d.chs w).take (i + 1) = (d.chs w).take i ++ [c] := by rw [List.take_succ, ec]; rfl
      have e3 : ((apply d.cells ((d.chs w).take i)).map V.int).set c.1.toNat (.int c.2) = (apply d.cells ((d.chs w).take (i + 1))).map V.int := by rw [e, apply_snoc, List.map_set]
      rw [e3]
      obtain ⟨st3, k3⟩ := st2.put 0 (a := S.cl) (o' := .lst ((apply d.cells ((d.chs w).take (i + 1))).map V.int)) (d' := { d with cells := apply d.cells ((d.chs w).take (i + 1)) }) rfl rfl st2.bg st2.rd st2.wa
      exact ⟨_, _, rfl, st3, k2.trans k3⟩
  · rintro σ H2 ⟨x2, x3, rfl, st2, k2⟩
    rw [← hlen, List.take_length] at st2
    have k02 : KpS S H H2 := (KpS.of s1).trans k2
    have rw2 := rw0.keep (st.ts k02)
    obtain ⟨pv0, us, hrow, ⟨pa, rfl, hpa⟩, hm⟩ := rw2
    refine ⟨_, rfl, r, _, _, _, rfl, rfl, SqT.of hrow, at1, ?_⟩
    refine ⟨_, rfl, r, _, _, _, rfl, rfl, SqT.of hrow, at0, rfl, _, rfl, ?_⟩
    by_cases e1 : w.wd = "begin"
    · cases w with
      | beg p t =>
        have hm' : us = [.str t] := hm
        subst hm'
        refine ite2 (fun _ => ?_) (fun c => absurd (decide_eq_true rfl) c)
        refine ⟨_, rfl, S.l, CS, S.dx, _, _, rfl, st2.ins, D.cl, D.nb, sf_bg S, .inl ⟨rfl, _, SqL.of st2.bgl⟩, _, rfl, _, rfl, r, _, _, _, rfl, rfl, SqT.of hrow, rfl, (by show 2 ≤ sizeLine; decide), fun tt ht => ?_⟩
        have s3 := same_new (o := .tup [.ref pa, .str t]) ht
        have st3 := st2.keep s3
        refine ⟨S.bg, _, _, rfl, rfl, st3.bgl, small1000 (by rw [← st3.bg.len]; have := sm.bg; show d.begins.length ≤ 1000; omega), ?_⟩
        obtain ⟨st4, k4⟩ := st3.put 1 (a := S.bg) (o' := .lst (us0 ++ [.ref tt])) (us' := us0 ++ [.ref tt]) (d' := d.keep r r (.beg p t)) rfl rfl (st3.bg.app (.cons ⟨tt, _, rfl, upd_same, s3 _ _ hpa⟩ .nil)) st3.rd st3.wa
        exact q r _ ⟨_, st4⟩ ((k02.trans (KpS.of s3)).trans k4)
      | _ => exact absurd e1 (by simp only [Rw.wd]; decide +kernel)
    refine ite2 (fun c => absurd (V.str.inj (of_decide_eq_true c)) e1) (fun _ => ?_)
    refine ⟨_, rfl, r, _, _, _, rfl, rfl, SqT.of hrow, at0, rfl, _, rfl, ?_⟩
    by_cases e2 : w.wd = "work"
    · cases w with
      | work p =>
        refine ite2 (fun _ => ?_) (fun c => absurd (decide_eq_true rfl) c)
        refine ⟨_, rfl, S.l, CS, S.dx, _, _, rfl, st2.ins, D.cl, D.nw, sf_wk S, _, rfl, S.wk, _, rfl, DPut.t (k := pk p) st2.wk hpa (small1000 (by unfold dW; rw [List.length_map]; have := sm.wk; show d.worked.length ≤ 1000; omega)), ?_⟩
        rw [show ({ d with cells := apply d.cells (d.chs (Rw.work p)) } : Sd).worked = d.worked from rfl, put_dW]
        obtain ⟨st4, k4⟩ := st2.put 2 (a := S.wk) (o' := .dT (dW (addP d.worked p))) (d' := d.keep r r (.work p)) rfl rfl st2.bg st2.rd st2.wa
        exact q r _ ⟨_, st4⟩ (k02.trans k4)
      | _ => exact absurd e2 (by simp only [Rw.wd]; decide +kernel)
    refine ite2 (fun c => absurd (V.str.inj (of_decide_eq_true c)) e2) (fun _ => ?_)
    refine ⟨_, rfl, r, _, _, _, rfl, rfl, SqT.of hrow, at0, rfl, _, rfl, ?_⟩
    by_cases e3 : w.wd = "ready"
    · cases w with
      | ready p ch =>
        refine ite2 (fun _ => ?_) (fun c => absurd (decide_eq_true rfl) c)
        refine ⟨_, rfl, _, rfl, S.l, CS, S.dx, _, _, rfl, st2.ins, D.cl, D.nr, sf_rd S, _, rfl, S.rd, _, rfl, DPut.t (k := pk p) st2.rdd hpa (small1000 (by unfold dR; rw [List.length_map]; have := sm.rd; show d.ready.length ≤ 1000; omega)), ?_⟩
        rw [show ({ d with cells := apply d.cells (d.chs (Rw.ready p ch)) } : Sd).ready = d.ready from rfl, put_dR _ _ _ ch (fit2 p ch rfl)]
        obtain ⟨st4, k4⟩ := st2.put 3 (a := S.rd) (o' := .dT (dR (d.ready ++ [(p, r, ch)]))) (d' := d.keep r r (.ready p ch)) rfl rfl st2.bg (fun x hx => by
          rcases List.mem_append.mp hx with hx | hx
          · exact st2.rd x hx
          · have := List.mem_singleton.mp hx
            subst this
            exact ⟨_, us, hrow, ⟨pa, rfl, hpa⟩, hm⟩) st2.wa
        exact q r _ ⟨_, st4⟩ (k02.trans k4)
      | _ => exact absurd e3 (by simp only [Rw.wd]; decide +kernel)
    refine ite2 (fun c => absurd (V.str.inj (of_decide_eq_true c)) e3) (fun _ => ?_)
    refine ⟨_, rfl, r, _, _, _, rfl, rfl, SqT.of hrow, at0, rfl, _, rfl, ?_⟩
    by_cases e4 : w.wd = "end"
    · cases w with
      | fin p o =>
        obtain ⟨a, rfl⟩ := hm
        refine ite2 (fun _ => ?_) (fun c => absurd (decide_eq_true rfl) c)
        refine ⟨_, rfl, S.l, CS, S.dx, _, _, rfl, st2.ins, D.cl, D.ne, sf_en S, S.en, rfl, .inr ⟨_, .inl st2.en⟩, _, rfl, _, rfl, r, _, _, _, rfl, rfl, SqT.of hrow, rfl, _, pk p, pa, st2.en, rfl, hpa, (small1000 (by unfold dE; rw [List.length_map]; have := sm.en; show d.ends.length ≤ 1000; omega)), ?_, ?_⟩
        · intro v hv
          have hv' : (endOf d.ends p).map V.str = some v := by rw [← val_dE]; exact hv
          have es : (endOf d.ends p).isSome = true := by
            cases z : endOf d.ends p with
            | none => rw [z] at hv'; cases hv'
            | some y => rfl
          refine q r _ ⟨us0, ?_⟩ k02
          have : d.keep r r (.fin p o) = { d with cells := apply d.cells (d.chs (.fin p o)) } := by
            show ({ d with cells := apply d.cells (d.chs (.fin p o)), ends := setE d.ends p o } : Sd) = _
            unfold setE
            rw [if_pos es]
          rw [this]
          exact st2
        · intro hv
          have hv' : (endOf d.ends p).map V.str = none := by rw [← val_dE]; exact hv
          have es : ¬ (endOf d.ends p).isSome = true := by
            cases z : endOf d.ends p with
            | none => decide
            | some y => rw [z] at hv'; cases hv'
          have e : dE d.ends ++ [(pk p, V.str o)] = dE (setE d.ends p o) := by
            unfold setE dE
            rw [if_neg es, List.map_append]
            rfl
          rw [show ({ d with cells := apply d.cells (d.chs (Rw.fin p o)) } : Sd).ends = d.ends from rfl, e]
          obtain ⟨st4, k4⟩ := st2.put 4 (a := S.en) (o' := .dT (dE (setE d.ends p o))) (d' := d.keep r r (.fin p o)) rfl rfl st2.bg st2.rd st2.wa
          exact q r _ ⟨_, st4⟩ (k02.trans k4)
      | _ => exact absurd e4 (by simp only [Rw.wd]; decide +kernel)
    refine ite2 (fun c => absurd (V.str.inj (of_decide_eq_true c)) e4) (fun _ => ?_)
    refine ⟨_, rfl, r, _, _, _, rfl, rfl, SqT.of hrow, at0, rfl, _, rfl, ?_⟩
    by_cases e5 : w.wd = "over"
    · cases w with
      | over p =>
        refine ite2 (fun _ => ?_) (fun c => absurd (decide_eq_true rfl) c)
        refine ⟨_, rfl, S.l, CS, S.dx, _, _, rfl, st2.ins, D.cl, D.no, sf_ov S, _, rfl, S.ov, _, rfl, DPut.t (k := pk p) st2.ov hpa (small1000 (by unfold dW; rw [List.length_map]; have := sm.ov; show d.overs.length ≤ 1000; omega)), ?_⟩
        rw [show ({ d with cells := apply d.cells (d.chs (Rw.over p)) } : Sd).overs = d.overs from rfl, put_dW]
        obtain ⟨st4, k4⟩ := st2.put 6 (a := S.ov) (o' := .dT (dW (addP d.overs p))) (d' := d.keep r r (.over p)) rfl rfl st2.bg st2.rd st2.wa
        exact q r _ ⟨_, st4⟩ (k02.trans k4)
      | _ => exact absurd e5 (by simp only [Rw.wd]; decide +kernel)
    refine ite2 (fun c => absurd (V.str.inj (of_decide_eq_true c)) e5) (fun _ => ?_)
    obtain ⟨i, rest, rfl, ew⟩ : ∃ i rest, us = .int i :: rest ∧ ∀ b, d.keep r b w = { d with cells := apply d.cells (d.chs w), walks := nput d.walks (w.nm, i) b r } := by
      cases w with
      | walk p i ch => obtain ⟨c, h, rfl, _⟩ := hm; exact ⟨i, _, rfl, fun _ => rfl⟩
      | undo p i ch => obtain ⟨c, rfl, _⟩ := hm; exact ⟨i, _, rfl, fun _ => rfl⟩
      | void p i => exact ⟨i, [], hm, fun _ => rfl⟩
      | beg p t => exact absurd rfl e1
      | work p => exact absurd rfl e2
      | ready p ch => exact absurd rfl e3
      | fin p o => exact absurd rfl e4
      | over p => exact absurd rfl e5
    refine ⟨_, rfl, _, rfl, S.l, CS, S.dx, _, _, rfl, st2.ins, D.cl, D.na, sf_wa S, _, rfl, _, rfl, r, _, _, _, rfl, rfl, SqT.of hrow, at2, (by show 2 ≤ sizeLine; decide), fun tt ht => ?_⟩
    have s3 := same_new (o := .tup [.ref pa, .int i]) ht
    have st3 := st2.keep s3
    have nk : NKeyAt (upd H2 tt (.tup [.ref pa, .int i])) (w.nm, i) tt := ⟨pa, upd_same, s3 _ _ hpa⟩
    refine ⟨S.wa, tt, r, _, (w.nm, i), rfl, rfl, rfl, st3.wad, st3.wa, nk, (by have := sm.wa; exact small (by show d.walks.length ≤ 1000; omega)), ?_⟩
    obtain ⟨st4, k4⟩ := st3.put 5 (a := S.wa) (o' := NDt S.wa (nput d.walks (w.nm, i) tt r)) (d' := { d with cells := apply d.cells (d.chs w), walks := nput d.walks (w.nm, i) tt r }) rfl rfl st3.bg st3.rd (st3.wa.put r nk)
    refine q tt _ ⟨us0, ?_⟩ ((k02.trans (KpS.of s3)).trans k4)
    rw [ew tt]
    exact st4
theorem ok_cell (F : Fun K "_law_cell_at" "_law_cell_at" s__law_cell_at f fd) (B : TxB mg) : FnOk P w K mg base CX0 1 f fd ["_law_script", "_law_k"] (spCell K) := by
  refine F.ok sc__law_cell_at (fun vs H Q E h => ?_) (fun cdv A outer s H vs Q E hr h => ?_)
  · obtain ⟨a, ns, k, rfl, _⟩ := h
    rfl
  obtain ⟨a, ns, k, rfl, hS, q⟩ := h
  refine ⟨_, pss_cons (ps_if (pt_cmpR op_lt (pv 1) (pe_callB call_len_seq rfl B.len PySem.boot_len (pa_cons (pv 0) pa_nil)) (nomark _)) (pss_one (ps_ret (pe_ix ix_list (pv 0) (pv 1) (fun _ _ => rfl)))) pss_nil)
    (pss_one (ps_ret pe_int)), ?_⟩
  refine ⟨_, rfl, _, rfl, a, _, rfl, .inl hS, _, _, rfl, rfl, _, rfl, ?_⟩
  refine ite2 (fun c => ?_) (fun c => ?_)
  · have c' : (k : Int) < (((ns.map V.int).length : Nat) : Int) := of_decide_eq_true c
    rw [List.length_map] at c'
    have hk : k < ns.length := by omega
    have q1 : atI (ns.map V.int) ((k : Nat) : Int) = some (.int ns[k]) := atI_nat (by rw [List.getElem?_map, List.getElem?_eq_getElem hk] <;> rfl)
    have e : cellAt ns k = ns[k] := by unfold cellAt; rw [List.getElem?_eq_getElem hk]; rfl
    rw [e] at q
    exact ⟨_, rfl, _, rfl, a, _, _, _, rfl, rfl, hS, q1, q⟩
  · have c' : ¬ (k : Int) < (((ns.map V.int).length : Nat) : Int) := fun z => c (decide_eq_true z)
    rw [List.length_map] at c'
    have e : cellAt ns k = 0 := by unfold cellAt; rw [List.getElem?_eq_none (by omega)]; rfl
    rw [e] at q
    exact q
end
end K33

set_option maxHeartbeats 4000000
namespace K33
open PySem L2 Lo
section
variable {P : Program} {w : World} {K : PySem.W.Frag} {mg : Str → Option Value} {base : Heap} {f CS : Addr} {fd : FuncData}
/-! ### bound, lost, begun -/
def noEnd (es : List (Pa × Str)) (p : Pa) : Bool := (endOf es p).isNone
theorem not_some {es : List (Pa × Str)} {p : Pa} : (!(Option.map V.str (endOf es p)).isSome) = noEnd es p := by
  unfold noEnd
  cases endOf es p <;> rfl
def spBound (CS : Addr) (K : PySem.W.Frag) : Sp := fun vs H Q _ => ∃ S d, vs = [.ref (S : Ad).l] ∧ St CS K H S d ∧ (d.ready.map (·.1)).Nodup ∧ ∀ l H', Same H H' → H l = none → H' l = some (.lst ((d.ready.filter fun x => noEnd d.ends x.1).map fun x => V.ref x.2.1)) → Q (.ref l) H'
theorem rd_of {rs : List (Pa × Addr × List Pa)} (nd : (rs.map (·.1)).Nodup) {x : Pa × Addr × List Pa} (hx : x ∈ rs) : rdOf rs x.1 = some x := by
  unfold rdOf
  induction rs with
  | nil => cases hx
  | cons y r ih =>
    rw [List.map_cons, List.nodup_cons] at nd
    rw [List.find?_cons]
    by_cases e : y.1 = x.1
    · rw [decide_eq_true e]
      rcases List.mem_cons.mp hx with z | z
      · rw [z]
      · exact absurd (List.mem_map.mpr ⟨x, z, e.symm⟩) nd.1
    · rw [decide_eq_false e]
      rcases List.mem_cons.mp hx with z | z
      · exact absurd (by rw [z]) e
      · exact ih nd.2 z
theorem ok_bound (F : Fun K "bound" "Stand.bound" m_Stand_bound f fd) (D : TxD K CS) : FnOk P w K mg base CX0 1 f fd ["self"] (spBound CS K) := by
  refine F.ok sc_Stand_bound (fun vs H Q E h => ?_) (fun cdv A outer s H vs Q E hr h => ?_)
  · obtain ⟨S, d, rfl, _⟩ := h
    rfl
  obtain ⟨S, d, rfl, ⟨us0, st⟩, ndr, q⟩ := h
  refine ⟨_, pss_one (ps_ret (pe_thaw (pe_lc sb_Stand_bound_0 rfl (pi_keys (pe_fld (pv 0) rfl)) (fun _ _ _ _ => pts_one (pt_cmp (pc_dnotin (hun1 hr) (pv 0) (pfK K 1)))) (fun _ _ _ _ => pe_dgetFK P w (hun1 hr) (pfK K 1) (pv 0) (fun _ _ => rfl))))), ?_⟩
  refine ⟨_, rfl, S.l, CS, S.dx, _, _, rfl, st.ins, D.cl, D.nr, sf_rd S, S.rd, _, rfl, st.rdd, fun o f => ?_⟩
  have nl : S.l ≠ S.rd := fun z => st.nl (by rw [z]; simp [Ad.own])
  have ne : S.en ≠ S.rd := by have := st.nd; simp [Ad.own] at this; exact fun z => by simp_all
  have ins0 : (upd H S.rd (Fz S.rd o)) S.l = some (.ins CS S.dx (sf S)) := by rw [upd_ne nl]; exact st.ins
  have en0 : (upd H S.rd (Fz S.rd o)) S.en = some (.dT (dE d.ends)) := by rw [upd_ne ne]; exact st.en
  refine lc_dic (K := K) (xs := d.ready) (k := fun x => x.1) (vf := fun x => V.ref x.2.1) f upd_same (fun x => noEnd d.ends x.1) (fun _ x v => v = .ref x.2.1) (fun _ _ _ _ _ z => z) (fun x b H1 Q hx sb s1 h => ?_) (fun x b H1 Q hx hf sb s1 h => ?_) (fun ys H1 s1 py p hp => ?_)
  · obtain ⟨b', eb, hb⟩ := sb
    cases eb
    refine ⟨_, rfl, _, rfl, S.l, CS, S.dx, _, _, rfl, s1 _ _ ins0, D.cl, D.ne, sf_en S, S.en, _, rfl, DGet.t (k := pk x.1) (s1 _ _ en0) hb, _, rfl, ?_⟩
    rw [val_dE, not_some]
    exact h
  · obtain ⟨b', eb, hb⟩ := sb
    cases eb
    refine ⟨_, rfl, S.l, CS, S.dx, _, _, rfl, s1 _ _ ins0, D.cl, D.nr, sf_rd S, _, rfl, S.rd, o, _, pk x.1, b, .ref x.2.1, rfl, rfl, s1 _ _ upd_same, f.keep s1.ts, hb, ?_, h _ rfl⟩
    show valV (dR d.ready) (pk x.1) = _
    rw [val_dR, rd_of ndr hx]
    rfl
  · obtain ⟨t1, t2, t3, t4⟩ := thaw_same (o2 := .lst ys) st.rdd s1 hp
    have ey : ys = (d.ready.filter fun x => noEnd d.ends x.1).map fun x => V.ref x.2.1 := by
      have : ∀ {xs : List (Pa × Addr × List Pa)} {ys : List V}, Paired (fun x v => v = V.ref x.2.1) xs ys → ys = xs.map fun x => V.ref x.2.1 := fun h => by
        induction h with
        | nil => rfl
        | cons r _ ih => rw [List.map_cons, ← ih, r]
      exact this py
    refine ⟨S.rd, o, _, t3, (f.keep s1.ts).keep (same_new hp).ts, ?_⟩
    rw [ey] at t2 ⊢
    refine q p _ ?_ t4 t2
    rw [← ey]
    exact t1
def spBegun (CS : Addr) (K : PySem.W.Frag) : Sp := fun vs H Q _ => ∃ S d, vs = [.ref (S : Ad).l] ∧ St CS K H S d ∧ ∀ l us H', Same H H' → H l = none → H' l = some (.lst us) → Paired (cPS.rp K H') d.begins us → Q (.ref l) H'
theorem ok_begun (F : Fun K "begun" "Stand.begun" m_Stand_begun f fd) (B : TxB mg) (D : TxD K CS) : FnOk P w K mg base CX0 1 f fd ["self"] (spBegun CS K) := by
  refine F.ok sc_Stand_begun (fun vs H Q E h => ?_) (fun cdv A outer s H vs Q E hr h => ?_)
  · obtain ⟨S, d, rfl, _⟩ := h
    rfl
  obtain ⟨S, d, rfl, ⟨us0, st⟩, q⟩ := h
  refine ⟨_, pss_one (ps_ret (pe_callTy call_list_of rfl B.list PyProof.Rows.boot_list (pa_cons (pe_fld (pv 0) rfl) pa_nil))), ?_⟩
  refine ⟨_, rfl, S.l, CS, S.dx, _, _, rfl, st.ins, D.cl, D.nb, sf_bg S, S.bg, _, rfl, .inl (SqL.of st.bgl), fun l hl => ?_⟩
  have s1 := same_new (o := .lst us0) hl
  exact q l us0 _ s1 hl upd_same (pp st.bg fun _ _ z => cPS.keep s1.ts z.c)
def lostD (d : Sd) : List Pa := ((d.begins.map (·.1)).filter fun p => noEnd d.ends p) ++ (d.worked.filter fun p => (rdOf d.ready p).isNone && noEnd d.ends p)
def spLost (CS : Addr) (K : PySem.W.Frag) : Sp := fun vs H Q _ => ∃ S d, vs = [.ref (S : Ad).l] ∧ St CS K H S d ∧ (lostD d).length < 64 ∧ d.begins.length ≤ 900 ∧ ∀ l ns us H', Same H H' → H l = none → H' l = some (.lst us) → Paired (sPa K H') (srtBy ltP ns) us → ns.Nodup → (∀ p, p ∈ ns ↔ p ∈ lostD d) → Q (.ref l) H'
theorem ok_lost (F : Fun K "lost" "Stand.lost" m_Stand_lost f fd) (B : TxB mg) (mSet : mg "set" = none) (D : TxD K CS) : FnOk P w K mg base CX0 1 f fd ["self"] (spLost CS K) := by
  refine F.ok sc_Stand_lost (fun vs H Q E h => ?_) (fun cdv A outer s H vs Q E hr h => ?_)
  · obtain ⟨S, d, rfl, _⟩ := h
    rfl
  obtain ⟨S, d, rfl, ⟨us0, st⟩, h64, h900, q⟩ := h
  have nd := sc_Stand_lost.nd
  refine ⟨_, pss_cons (ps_lcset (iy := 1) sb_Stand_lost_0 rfl (pi_list (pe_fld (pv 0) rfl)) (fun _ _ _ _ => pts_one (pt_cmp (pc_dnotin (hun1 hr) (pe_ix (r := rIxT K) ix_tup (pv 0) pe_int (fun _ _ => rfl)) (pfK K 1)))) (fun _ _ _ _ => pe_ix (r := rIxT K) ix_tup (pv 0) pe_int (fun _ _ => rfl)) nd rfl (Or.inl rfl))
    (pss_cons (ps_thaw (ps_lcset (iy := 2) sb_Stand_lost_1 rfl (pi_keys (pe_fld (pv 0) rfl)) (fun _ _ _ _ => pts_one (PW.pt (pw_and (pt_cmp (pc_dnotin (hun1 hr) (pv 0) (pfK K 1))) (pw_and1 (pt_cmp (pc_dnotin (hun1 hr) (pv 0) (pfK K 1))))))) (fun _ _ _ _ => pv 0) nd rfl (Or.inl rfl)))
    (pss_one (ps_ret (pe_callB (call_sortedS rfl (hun (c := 3) hr)) rfl B.sorted PyProof.Rows.boot_sorted (pa_cons (pe_callTy (call_setN rfl (hun (c := 3) hr)) rfl mSet PyProof.Rows.boot_set (pa_cons (pe_op op_cat (pv 1) (pv 2)) pa_nil)) pa_nil))))), ?_⟩
  refine ⟨_, rfl, S.l, CS, S.dx, _, _, rfl, st.ins, D.cl, D.nb, sf_bg S, S.bg, rfl, ⟨_, SqL.of st.bgl⟩, ?_⟩
  have h9 : (900 : Nat) ≤ sizeLine := by decide
  refine lc_gen (R0 := fun H x v => sPB K H x v) (fun _ _ _ _ e z => z.keep e.ts) st.bg st.bgl (by rw [← st.bg.len]; omega) (fun x => noEnd d.ends x.1) (fun H x v => sPa K H x.1 v) (fun _ _ _ _ e z => z.keep e.ts) (fun x u H1 Q hx rx s1 h => ?_) (fun x u H1 Q hx hf rx s1 h => ?_) (fun ys H1 s1 py l1 hl1 => ?_)
  · obtain ⟨a, b, rfl, ha, hb⟩ := rx
    have st1 := st.keep s1
    refine ⟨_, rfl, a, _, _, _, rfl, rfl, SqT.of ha, at0, _, rfl, S.l, CS, S.dx, _, _, rfl, st1.ins, D.cl, D.ne, sf_en S, S.en, _, rfl, DGet.t (k := pk x.1) st1.en hb, _, rfl, ?_⟩
    rw [val_dE, not_some]
    exact h H1 (Same.refl _)
  · obtain ⟨a, b, rfl, ha, hb⟩ := rx
    exact ⟨_, rfl, a, _, _, _, rfl, rfl, SqT.of ha, at0, h _ H1 (Same.refl _) ⟨b, rfl, hb⟩⟩
  have s2 := s1.trans (same_new (o := .lst ys) hl1)
  have st2 := st.keep s2
  have py2 : Paired (sPa K (upd H1 l1 (.lst ys))) ((d.begins.filter fun x => noEnd d.ends x.1).map (·.1)) ys := by
    have : ∀ {xs : List (Pa × Str)} {ys : List V}, Paired (fun x v => sPa K H1 x.1 v) xs ys → Paired (sPa K H1) (xs.map (·.1)) ys := fun h => by
      induction h with
      | nil => exact .nil
      | cons r _ ih => exact .cons r ih
    exact Paired.mapP (this py) fun _ _ z => z.keep (same_new hl1).ts
  have hl2 : (upd H1 l1 (.lst ys)) l1 = some (.lst ys) := upd_same
  generalize (upd H1 l1 (.lst ys)) = H2 at s2 st2 py2 hl2 ⊢
  refine ⟨_, rfl, S.l, CS, S.dx, _, _, rfl, st2.ins, D.cl, D.nw, sf_wk S, S.wk, _, rfl, st2.wk, fun o f => ?_⟩
  have nl : S.l ≠ S.wk := fun z => st2.nl (by rw [z]; simp [Ad.own])
  have ne : S.en ≠ S.wk ∧ S.rd ≠ S.wk := by have := st2.nd; simp [Ad.own] at this; exact ⟨fun z => by simp_all, fun z => by simp_all⟩
  have ins0 : (upd H2 S.wk (Fz S.wk o)) S.l = some (.ins CS S.dx (sf S)) := by rw [upd_ne nl]; exact st2.ins
  have en0 : (upd H2 S.wk (Fz S.wk o)) S.en = some (.dT (dE d.ends)) := by rw [upd_ne ne.1]; exact st2.en
  have rd0 : (upd H2 S.wk (Fz S.wk o)) S.rd = some (.dT (dR d.ready)) := by rw [upd_ne ne.2]; exact st2.rdd
  refine lc_dic (K := K) (xs := d.worked) (k := fun x => x) (vf := fun _ => V.bl true) f upd_same (fun p => (rdOf d.ready p).isNone && noEnd d.ends p) (fun H x v => sPa K H x v) (fun _ _ _ _ e z => z.keep e.ts) (fun x b H3 Q hx sb s3 h => ?_) (fun x b H3 Q hx hf sb s3 h => ⟨_, rfl, h _ sb⟩) (fun zs H3 s3 pz p hp => ?_)
  · obtain ⟨b', eb, hb⟩ := sb
    cases eb
    refine ⟨_, rfl, _, rfl, S.l, CS, S.dx, _, _, rfl, s3 _ _ ins0, D.cl, D.nr, sf_rd S, S.rd, _, rfl, DGet.t (k := pk x) (s3 _ _ rd0) hb, _, rfl, ?_⟩
    rw [val_dR]
    cases hrd : rdOf d.ready x with
    | some y =>
      rw [hrd] at h
      exact iteF h
    | none =>
      rw [hrd] at h
      refine iteT ⟨_, rfl, _, rfl, S.l, CS, S.dx, _, _, rfl, s3 _ _ ins0, D.cl, D.ne, sf_en S, S.en, _, rfl, DGet.t (k := pk x) (s3 _ _ en0) hb, _, rfl, ?_⟩
      rw [val_dE, not_some]
      exact h
  obtain ⟨t1, t2, t3, t4⟩ := thaw_same (o2 := .lst zs) st2.wk s3 hp
  refine ⟨S.wk, o, _, t3, (f.keep s3.ts).keep (same_new hp).ts, ?_⟩
  have e0 : (List.map (fun x : Pa => (pk x, V.bl true)) d.worked) = dW d.worked := rfl
  have hl4 := t1 _ _ hl2
  have py4 := Paired.mapP py2 fun _ _ z => z.keep t1.ts
  have ts4 : TSame H3 (upd (upd H3 p (.lst zs)) S.wk (.dT (dW d.worked))) := fun b xs e => by
    have hb1 : b ≠ S.wk := fun z => by
      have := s3 _ _ (upd_same (H := H2) (a := S.wk) (o := Fz S.wk o))
      rw [z, this] at e
      cases e
    rw [upd_ne hb1, upd_ne (ne_of_none e hp)]
    exact e
  have pz4 := Paired.mapP pz fun _ _ z => sPa.keep (K := K) ts4 z
  have np1 : p ≠ l1 := fun z => by rw [z, hl2] at t4; cases t4
  have s4 := s2.trans t1
  generalize (upd (upd H3 p (.lst zs)) S.wk (.dT (dW d.worked))) = H4 at t1 t2 hl4 py4 pz4 s4 ⊢
  have lenL : (lostD d).length = ys.length + zs.length := by
    unfold lostD
    rw [List.length_append, ← pz4.len, ← py4.len, List.length_map, List.filter_map, List.length_map]
    rfl
  refine ⟨_, rfl, _, rfl, l1, p, ys, zs, rfl, rfl, hl4, t2, (by rw [← lenL]; omega), fun l5 hl5 => ?_⟩
  have s5 := same_new (o := .lst (ys ++ zs)) hl5
  have ecat : lostD d = ((d.begins.filter fun x => noEnd d.ends x.1).map (·.1)) ++ d.worked.filter (fun p => (rdOf d.ready p).isNone && noEnd d.ends p) := by
    unfold lostD
    rw [List.filter_map]
    rfl
  refine ⟨l5, _, lostD d, rfl, SqL.of upd_same, ?_, by omega, fun a6 o6 is6 ha6 sd6 na6 m6 => ?_⟩
  · rw [ecat]
    exact (Paired.mapP py4 fun _ _ z => z.keep s5.ts).app (Paired.mapP pz4 fun _ _ z => z.keep s5.ts)
  have s6 := same_new (o := Fz a6 o6) ha6
  obtain ⟨_, _, _, _, _, _, _, _, _, nd6⟩ := id sd6
  refine ⟨a6, o6, is6, rfl, upd_same, sd6, na6.keep s6.ts, ?_, fun l7 ys7 hl7 py7 => ?_⟩
  · have : (is6.map (·.1)).length ≤ (lostD d).length := List.Nodup.length_le_of_subset nd6 fun n hn => (m6 n).mp hn
    rw [List.length_map] at this
    omega
  have s7 := same_new (o := .lst ys7) hl7
  have sA := s4.trans (s5.trans (s6.trans s7))
  refine q l7 _ ys7 _ sA ?_ upd_same py7 nd6 m6
  cases e : H l7 with
  | none => rfl
  | some u =>
    have := (s4.trans (s5.trans s6)) _ _ e
    rw [hl7] at this
    cases this
end
end K33

set_option maxHeartbeats 4000000
namespace K33
open PySem L2 Lo
section
variable {P : Program} {w : World} {K : PySem.W.Frag} {mg : Str → Option Value} {base : Heap} {f CS : Addr} {fd : FuncData}
/-! ### plain things, names, rows -/
theorem decT {c : Prop} {i : Decidable c} (h : c) : @decide c i = true := @decide_eq_true c i h
theorem decO {c : Prop} {i : Decidable c} (h : @decide c i = true) : c := @of_decide_eq_true c i h
theorem kit_it : PySem.W.kitOne K (.type "int") (.type "tuple") = some false := by kernel_rfl
theorem kit_st : PySem.W.kitOne K (.type "str") (.type "tuple") = some false := by kernel_rfl
theorem kit_sb : PySem.W.kitOne K (.type "str") (.type "bool") = some false := by kernel_rfl
theorem kit_si : PySem.W.kitOne K (.type "str") (.type "int") = some false := by kernel_rfl
def spPlain (K : PySem.W.Frag) : Nat → Sp
  | 0 => fun _ _ _ _ => False
  | d + 1 => fun vs H Q _ => ∃ v, vs = [v] ∧ Pl K H d v ∧ ∀ H', Same H H' → Q (.bl true) H'
theorem ok_plain0 (F : Fun K "_law_plain" "_law_plain" s__law_plain f fd) : FnOk P w K mg base CX0 1 f fd ["_law_found"] (spPlain K 0) := by
  refine F.ok sc__law_plain (fun vs H Q E h => ?_) (fun cdv A outer s H vs Q E hr h => ?_)
  · exact False.elim h
  · exact False.elim h
theorem pl_cases {H : Hp} {n : Nat} {v : V} (h : Pl K H n v) : (∃ i, v = .int i) ∨ (∃ t, v = .str t) ∨ ∃ d a us, n = d + 1 ∧ v = .ref a ∧ SqU K H a us ∧ us.length ≤ 900 ∧ ∀ u ∈ us, Pl K H d u := by
  cases n with
  | zero => exact h.imp id .inl
  | succ d => exact h.imp id fun h => h.imp id fun ⟨a, us, h⟩ => ⟨d, a, us, rfl, h⟩
theorem all_true (n : Nat) : (List.replicate n true).all id = true := by
  induction n with
  | zero => rfl
  | succ n ih => rw [List.replicate_succ, List.all_cons, ih]; rfl
theorem ok_plain {n k : Nat} (F : Fun K "_law_plain" "_law_plain" s__law_plain f fd) (B : TxB mg) (G : GF P w K mg base CX0 k "_law_plain" ["_law_found"] (spPlain K n)) : FnOk P w K mg base CX0 (k + 1) f fd ["_law_found"] (spPlain K (n + 1)) := by
  refine F.ok sc__law_plain (fun vs H Q E h => ?_) (fun cdv A outer s H vs Q E hr h => ?_)
  · obtain ⟨v, rfl, _⟩ := h
    rfl
  obtain ⟨v, rfl, pl, q⟩ := h
  refine ⟨_, pss_cons (ps_if (pt_val (pe_callB call_isA rfl B.isi PyProof.Rows.boot_isinstance (pa_cons (pv 0) (pa_cons (pe_bltn (v := .ty "tuple") rfl B.tuple PyProof.Rows.boot_tuple rfl) pa_nil))))
      (pss_one (ps_ret (pe_callB (call_all_bl rfl) rfl B.all PyProof.Rows.boot_all (pa_cons (pe_lc sb__law_plain_0 rfl (pi_tup (pv 0)) (fun _ _ _ _ => pts_nil) (fun _ _ _ _ => pc G hr (pa_cons (pv 0) pa_nil) pass0 (Nat.le_refl k))) pa_nil)))) pss_nil)
    (pss_cons (ps_if (pt_val (pe_callB call_isinst rfl B.isi PyProof.Rows.boot_isinstance (pa_cons (pv 0) (pa_cons (pe_bltn (v := .ty "bool") rfl B.bool PyProof.Rows.boot_bool rfl) pa_nil)))) pss_never pss_nil)
    (pss_one (ps_ret (pe_or (pe_callB call_isinst rfl B.isi PyProof.Rows.boot_isinstance (pa_cons (pv 0) (pa_cons (pe_bltn (v := .ty "int") rfl B.int PyProof.Rows.boot_int rfl) pa_nil)))
      (pe_one (pe_callB call_isinst rfl B.isi PyProof.Rows.boot_isinstance (pa_cons (pv 0) (pa_cons (pe_bltn (v := .ty "str") rfl B.str PyProof.Rows.boot_str rfl) pa_nil)))))))), ?_⟩
  rcases pl_cases pl with ⟨i, rfl⟩ | ⟨t, rfl⟩ | ⟨d, a, us, rfl, rfl, hU, h9, hp⟩
  · refine ⟨_, rfl, .inl ⟨_, _, _, _, rfl, TyOf.int i, kit_it, _, rfl, iteF ?_⟩⟩
    refine ⟨_, rfl, _, _, _, _, rfl, TyOf.int i, kit_ib, _, rfl, iteF ?_⟩
    exact ⟨_, rfl, _, _, _, _, rfl, TyOf.int i, kit_ii, _, rfl, iteT (q H (Same.refl H))⟩
  · refine ⟨_, rfl, .inl ⟨_, _, _, _, rfl, TyOf.str t, kit_st, _, rfl, iteF ?_⟩⟩
    refine ⟨_, rfl, _, _, _, _, rfl, TyOf.str t, kit_sb, _, rfl, iteF ?_⟩
    exact ⟨_, rfl, _, _, _, _, rfl, TyOf.str t, kit_si, _, rfl, iteF ⟨_, rfl, _, _, _, _, rfl, TyOf.str t, kit_ss, q H (Same.refl H)⟩⟩
  · refine ⟨_, rfl, .inr ⟨a, us, rfl, hU.sq, _, rfl, iteT ?_⟩⟩
    refine ⟨_, rfl, a, rfl, ⟨us, hU.sq⟩, ?_⟩
    have h9' : (900 : Nat) ≤ sizeLine := by decide
    refine lc_tup (xs := us) (fun i ys H1 => Same H H1 ∧ ys = List.replicate i (V.bl true)) ⟨Same.refl _, rfl⟩ (by omega) (fun i ys H1 _ z => (hU.keep z.1.ts).sq) ?_ ?_
    · rintro i u ys H1 hu ⟨s1, rfl⟩
      refine tAllT ⟨_, rfl, u, rfl, (hp u (List.mem_of_getElem? hu)).keep s1.ts, fun H2 s2 => ⟨s1.trans s2, ?_⟩⟩
      rw [List.replicate_succ']
    · rintro ys H1 ⟨s1, rfl⟩ l hl
      refine ⟨l, List.replicate us.length true, rfl, ?_, ?_⟩
      · rw [List.map_replicate]
        exact SqL.of upd_same
      · rw [all_true]
        exact q _ (s1.trans (same_new hl))
def nmsR (xs : List RA) : List Pa := xs.map fun x => x.1.nm
theorem no_has {xs : List RA} {p : Pa} (h : p ∉ nmsR xs) (z : Str) : hasR xs z p = false := by
  cases e : hasR xs z p with
  | false => rfl
  | true =>
    obtain ⟨x, hx, _, e2⟩ := hasR_iff.mp e
    exact absurd (List.mem_map.mpr ⟨x, hx, e2⟩) h
theorem more_than {ps : List Pa} {p : Pa} (h : p ∈ ps) : (ps.filter fun x => decide (p.2 + 1 ≤ x.2)).length < (ps.filter fun x => decide (p.2 ≤ x.2)).length := by
  induction ps with
  | nil => cases h
  | cons x r ih =>
    have le : (r.filter fun x => decide (p.2 + 1 ≤ x.2)).length ≤ (r.filter fun x => decide (p.2 ≤ x.2)).length := by
      clear ih h
      induction r with
      | nil => exact Nat.le_refl _
      | cons y r ih =>
        rw [List.filter_cons, List.filter_cons]
        by_cases h1 : p.2 + 1 ≤ y.2
        · rw [decide_eq_true h1, decide_eq_true (by omega : p.2 ≤ y.2)]
          exact Nat.succ_le_succ ih
        · rw [decide_eq_false h1]
          by_cases h2 : p.2 ≤ y.2
          · rw [decide_eq_true h2]; exact Nat.le_succ_of_le ih
          · rw [decide_eq_false h2]; exact ih
    rw [List.filter_cons, List.filter_cons]
    rcases List.mem_cons.mp h with e | h'
    · subst e
      rw [decide_eq_false (by omega : ¬ p.2 + 1 ≤ p.2), decide_eq_true (Int.le_refl p.2)]
      exact Nat.lt_succ_of_le le
    · have := ih h'
      by_cases h1 : p.2 + 1 ≤ x.2
      · rw [decide_eq_true h1, decide_eq_true (by omega : p.2 ≤ x.2)]
        exact Nat.succ_lt_succ this
      · rw [decide_eq_false h1]
        by_cases h2 : p.2 ≤ x.2
        · rw [decide_eq_true h2]; exact Nat.lt_succ_of_lt this
        · rw [decide_eq_false h2]; exact this
def spName (K : PySem.W.Frag) : Sp := fun vs H Q _ => ∃ n k q xs, vs = [.int n, .int k, .ref q] ∧ RsAt K H q xs ∧ xs.length ≤ 900 ∧ ∀ v p H', Same H H' → sPa K H' p v → p ∉ nmsR xs → Q v H'
def vNm (K : PySem.W.Frag) : TS := fun D σ H => ∃ n k q xs v p, σ = [some (.int n), some (.int k), some (.ref q), some v] ∧ RsAt K H q xs ∧ xs.length ≤ 900 ∧ sPa K H p v ∧ ∀ v p H', Same H H' → sPa K H' p v → p ∉ nmsR xs → D.rt v H'
theorem len_rV (xs : List RA) : (rV xs).length = xs.length := List.length_map _
theorem ok_name (F : Fun K "_law_name" "_law_name" s__law_name f fd) : FnOk P w K mg base CX0 1 f fd ["_law_number", "_law_k", "_law_rows"] (spName K) := by
  refine F.ok sc__law_name (fun vs H Q E h => ?_) (fun cdv A outer s H vs Q E hr h => ?_)
  · obtain ⟨n, k, q, xs, rfl, _⟩ := h
    rfl
  obtain ⟨n, k, q, xs, rfl, hn, hl, qr⟩ := h
  have nd := sc__law_name.nd
  refine ⟨_, pss_cons (ps_set (i := 3) nd rfl (Or.inl rfl) (pe_tup (pa_cons (pe_op op_mod (pv 0) pe_int) (pa_cons (pv 1) pa_nil))))
    (pss_cons (ps_if (pt_cmpR op_eq (pe_op op_mod (pe_op op_fdiv (pv 0) pe_int) pe_int) pe_int (nomark _)) (pss_one (ps_set (i := 3) nd rfl (Or.inl rfl) (pe_tup (pa_cons (pe_op op_mod (pv 0) pe_int) (pa_cons (pe_op op_mod (pe_op op_fdiv (pv 0) pe_int) (pe_op op_pow pe_int pe_int)) pa_nil))))) pss_nil)
    (pss_weak (vNm K) (pss_cons (ps_while PassesOwn.never (pt_cmpR (op_inC cPa (hun hr)) (pv 3) (pe_lc sb__law_name_0 rfl (pi_list (pv 2)) (fun _ _ _ _ => pts_nil) (fun _ _ _ _ => pe_ix (r := rIxT K) ix_tup (pv 0) pe_int (fun _ _ => rfl))) rfl)
      (pss_one (ps_set (i := 3) nd rfl (Or.inl rfl) (pe_tup (pa_cons (pe_ix (r := rIxT K) ix_tup (pv 3) pe_int (fun _ _ => rfl)) (pa_cons (pe_op op_add (pe_ix (r := rIxT K) ix_tup (pv 3) pe_int (fun _ _ => rfl)) pe_int) pa_nil))))))
    (pss_one (ps_ret (pv 3)))) ?v2)), ?_⟩
  case v2 =>
    rintro D0 σ H ⟨n, k, q, xs, v, p, rfl, hn, hl, hp, qr⟩
    refine ⟨fun m σ H' => ∃ v p, σ = [some (.int n), some (.int k), some (.ref q), some v] ∧ Same H H' ∧ sPa K H' p v ∧ m = ((nmsR xs).filter fun x => decide (p.2 ≤ x.2)).length, ⟨_, v, p, rfl, Same.refl _, hp, rfl⟩, ?_⟩
    rintro m σ H1 ⟨v, p, rfl, s1, hp, rfl⟩
    have hn1 := hn.keep s1
    have h9 : (900 : Nat) ≤ sizeLine := by decide
    refine ⟨_, rfl, _, rfl, q, rfl, ⟨_, SqL.of hn1.1⟩, ?_⟩
    refine lc_gen (α := RA) (R0 := fun _ x v => v = V.ref x.2) (fun _ _ _ _ _ z => z) (rV_pd xs) hn1.1 (by rw [len_rV]; omega) (fun _ => true) (fun H x v => sPa K H x.1.nm v) (fun _ _ _ _ e z => z.keep e.ts) (fun x u H2 Q hx e2 s2 h => h H2 (Same.refl _)) (fun x u H2 Q hx _ e2 s2 h => ?_) (fun ys H2 s2 py pl hpl => ?_)
    · obtain ⟨⟨pv0, us, hrow, hpv, _⟩, _⟩ := (hn1.2 x hx).keep s2.ts
      rw [e2]
      exact ⟨_, rfl, x.2, _, _, _, rfl, rfl, SqT.of hrow, at1, h _ H2 (Same.refl _) hpv⟩
    rw [filt_all] at py
    have s3 := same_new (o := .lst ys) hpl
    have hp3 := hp.keep (s2.trans s3).ts
    refine ⟨p, pl, ys, nmsR xs, hp3.c, rfl, .inl (SqL.of upd_same), Paired.mapP (pd_map (R := sPa K H2) py) fun _ _ z => (z.keep s3.ts).c, _, rfl, ?_⟩
    have s03 := s1.trans (s2.trans s3)
    by_cases hm : p ∈ nmsR xs
    · refine ite2 (fun _ => ?_) (fun c => (c (decT hm)).elim)
      refine ⟨fun σ H' => ∃ v p', σ = [some (.int n), some (.int k), some (.ref q), some v] ∧ Same H H' ∧ sPa K H' p' v ∧ p'.2 = p.2 + 1, ?_, ?_⟩
      · rintro σ H2 ⟨v2, p2, rfl, s2, hp2, e2⟩
        exact ⟨_, more_than hm, v2, p2, rfl, s2, hp2, by rw [e2]⟩
      · obtain ⟨pa, rfl, hpa⟩ := hp3
        refine ⟨_, rfl, pa, _, _, _, rfl, rfl, SqT.of hpa, at0, _, rfl, pa, _, _, _, rfl, rfl, SqT.of hpa, at1, _, _, rfl, rfl, (by show 2 ≤ sizeLine; decide), fun t ht => ?_⟩
        exact ⟨_, (p.1, p.2 + 1), rfl, s03.trans (same_new ht), ⟨t, rfl, upd_same⟩, rfl⟩
    · refine ite2 (fun c => (hm (decO c)).elim) (fun _ => ?_)
      exact ⟨_, rfl, qr v p _ s03 hp3 hm⟩
  refine ⟨_, rfl, _, _, rfl, rfl, (by show (0 : Int) < 5; decide), _, rfl, (by show 2 ≤ sizeLine; decide), fun t ht => ?_⟩
  have s1 := same_new (o := .tup [.int (n % 5), .int k]) ht
  refine ⟨_, rfl, _, _, rfl, rfl, ⟨by decide, by decide⟩, _, _, rfl, rfl, (by show (0 : Int) < 2; decide), rfl, _, rfl, ite2 (fun _ => ?_) (fun _ => ?_)⟩
  · refine ⟨_, rfl, _, _, rfl, rfl, (by show (0 : Int) < 5; decide), _, rfl, _, _, rfl, rfl, ⟨by decide, by decide⟩, _, _, rfl, rfl, ⟨by decide, by decide, by decide⟩, _, _, rfl, rfl, (by show (0 : Int) < 10 ^ 15; decide +kernel), (by show 2 ≤ sizeLine; decide), fun t2 ht2 => ?_⟩
    have s2 := same_new (o := .tup [.int (n % 5), .int (n / 10 % 10 ^ 15)]) ht2
    exact ⟨n, k, q, xs, _, (n % 5, n / 10 % 10 ^ 15), rfl, hn.keep (s1.trans s2), hl, ⟨t2, rfl, upd_same⟩, fun v p H' s' => qr v p H' ((s1.trans s2).trans s')⟩
  · exact ⟨n, k, q, xs, _, (n % 5, k), rfl, hn.keep s1, hl, ⟨t, rfl, upd_same⟩, fun v p H' s' => qr v p H' (s1.trans s')⟩
def spHas (K : PySem.W.Frag) : Sp := fun vs H Q _ => ∃ q xs z v p, vs = [.ref q, .str z, v] ∧ RsAt K H q xs ∧ xs.length ≤ 900 ∧ sPa K H p v ∧ ∀ H', Same H H' → Q (.bl (hasR xs z p)) H'
theorem ok_has (F : Fun K "_law_has" "_law_has" s__law_has f fd) : FnOk P w K mg base CX0 1 f fd ["_law_rows", "_law_word", "_law_name_here"] (spHas K) := by
  refine F.ok sc__law_has (fun vs H Q E h => ?_) (fun cdv A outer s H vs Q E hr h => ?_)
  · obtain ⟨q, xs, z, v, p, rfl, _⟩ := h
    rfl
  obtain ⟨q, xs, z, v, p, rfl, hn, hl, hp, qr⟩ := h
  refine ⟨_, pss_one (ps_ret (pe_cmpR (op_neNil (Nat.lt_of_succ_lt (hun1 hr))) (pe_lc sb__law_has_0 rfl (pi_list (pv 0))
    (fun _ _ _ _ => pts_one (PW.pt (pw_and (pt_cmpR op_eq (pe_ix (r := rIxT K) ix_tup (pv 0) pe_int (fun _ _ => rfl)) (pv 1) (nomark _)) (pw_and1 (pt_cmpR (op_eqCK K cPa (hun hr)) (pe_ix (r := rIxT K) ix_tup (pv 0) pe_int (fun _ _ => rfl)) (pv 2) (nomark _))))))
    (fun _ _ _ _ => pv 0)) (pe_lst pa_nil) (nomark _))), ?_⟩
  have h9 : (900 : Nat) ≤ sizeLine := by decide
  refine ⟨_, rfl, q, rfl, ⟨_, SqL.of hn.1⟩, ?_⟩
  refine lc_gen (α := RA) (R0 := fun _ x v => v = V.ref x.2) (fun _ _ _ _ _ z => z) (rV_pd xs) hn.1 (by rw [len_rV]; omega) (fun x => decide (x.1.wd = z) && decide (x.1.nm = p)) (fun _ x v => v = V.ref x.2) (fun _ _ _ _ _ z => z) (fun x u H2 Q hx e2 s2 h => ?_) (fun x u H2 Q hx _ e2 s2 h => ?_) (fun ys H2 s2 py pl hpl => ?_)
  · obtain ⟨⟨pv0, us, hrow, hpv, _⟩, _⟩ := (hn.2 x hx).keep s2.ts
    rw [e2]
    refine ⟨_, rfl, x.2, _, _, _, rfl, rfl, SqT.of hrow, at0, _, rfl, rfl, _, rfl, ?_⟩
    by_cases e1 : x.1.wd = z
    · refine ite2 (fun _ => ?_) (fun c => (c (decT (congrArg V.str e1))).elim)
      refine ⟨_, rfl, x.2, _, _, _, rfl, rfl, SqT.of hrow, at1, _, rfl, x.1.nm, p, hpv.c, (hp.keep s2.ts).c, _, rfl, ?_⟩
      have := h H2 (Same.refl _)
      rw [decide_eq_true e1, Bool.true_and] at this
      exact this
    · refine ite2 (fun c => absurd (V.str.inj (decO c)) e1) (fun _ => ?_)
      have := h H2 (Same.refl _)
      rw [decide_eq_false e1, Bool.false_and] at this
      exact this
  · rw [e2]
    exact ⟨_, rfl, h _ H2 (Same.refl _) rfl⟩
  · have s3 := same_new (o := .lst ys) hpl
    refine ⟨(by show 0 ≤ sizeLine; decide), fun e0 he0 => ?_⟩
    have s4 := same_new (o := .lst []) he0
    refine ⟨pl, e0, ys, rfl, rfl, SqL.of (s4 _ _ upd_same), SqL.of upd_same, ?_⟩
    rw [pd_any py]
    exact qr _ (s2.trans (s3.trans s4))
def tx33 : List Str := ["held take 0 0", "walked add 0 1 -5; give 1 0", "held plus 3; need 4", "walked take 1 1"]
def spTx : Sp := fun vs H Q _ => vs = [] ∧ ∀ l, H l = none → Q (.ref l) (upd H l (.lst (tx33.map V.str)))
theorem ok_texts (F : Fun K "_law_texts" "_law_texts" s__law_texts f fd) : FnOk P w K mg base CX0 1 f fd [] spTx := by
  refine F.ok sc__law_texts (fun vs H Q E h => ?_) (fun cdv A outer s H vs Q E hr h => ?_)
  · obtain ⟨rfl, _⟩ := h
    rfl
  obtain ⟨rfl, q⟩ := h
  exact ⟨_, pss_one (ps_ret (pe_lst (pa_cons pe_str (pa_cons pe_str (pa_cons pe_str (pa_cons pe_str pa_nil)))))), (by show 4 ≤ sizeLine; decide), fun l hl => q l hl⟩
end
end K33

set_option maxHeartbeats 4000000
namespace K33
open PySem L2 Lo
section
variable {P : Program} {w : World} {K : PySem.W.Frag} {mg : Str → Option Value} {base : Heap} {f CS : Addr} {fd : FuncData}
/-! ### a row -/
theorem at_mod {xs : List RA} (hx : xs ≠ []) (m : Int) : ∃ x, x ∈ xs ∧ atI (rV xs) (m % (((rV xs).length : Nat) : Int)) = some (.ref x.2) := by
  have h0 : 0 < xs.length := List.length_pos_iff.mpr hx
  rw [len_rV]
  have e0 : 0 ≤ m % (xs.length : Int) := Int.emod_nonneg _ (by omega)
  have e1 : m % (xs.length : Int) < xs.length := Int.emod_lt_of_pos _ (by omega)
  obtain ⟨j, ej⟩ : ∃ j : Nat, m % (xs.length : Int) = (j : Int) := ⟨_, (Int.toNat_of_nonneg e0).symm⟩
  rw [ej] at e1 ⊢
  have hj : j < xs.length := by omega
  exact ⟨xs[j], List.getElem_mem hj, atI_nat (by unfold rV; rw [List.getElem?_map, List.getElem?_eq_getElem hj]; rfl)⟩
theorem at_tx (m : Int) : ∃ t : Str, atI (tx33.map V.str) (m % 4) = some (.str t) := by
  have e0 : 0 ≤ m % 4 := Int.emod_nonneg _ (by decide)
  have e4 : m % 4 < 4 := Int.emod_lt_of_pos _ (by decide)
  rcases (by omega : m % 4 = 0 ∨ m % 4 = 1 ∨ m % 4 = 2 ∨ m % 4 = 3) with e | e | e | e <;> rw [e] <;> exact ⟨_, rfl⟩
theorem at_db (m : Int) : ∃ t : Str, atI [V.str "done", V.str "broken"] (m % 2) = some (.str t) := by
  have e0 : 0 ≤ m % 2 := Int.emod_nonneg _ (by decide)
  have e4 : m % 2 < 2 := Int.emod_lt_of_pos _ (by decide)
  rcases (by omega : m % 2 = 0 ∨ m % 2 = 1) with e | e <;> rw [e] <;> exact ⟨_, rfl⟩
def RowTo (K : PySem.W.Frag) (xs : List RA) (H : Hp) (Q : VK) : Prop := ∀ w r H', Same H H' → RowOk K H' (w, r) → Ok33 xs w → Q (.ref r) H'
theorem RowTo.keep {xs : List RA} {H H' : Hp} {Q : VK} (e : Same H H') (h : RowTo K xs H Q) : RowTo K xs H' Q := fun w r H2 s => h w r H2 (e.trans s)
theorem row_beg {xs : List RA} {H : Hp} {Q : VK} {p : Pa} {pa t : Addr} {z : Str} (hpa : H pa = some (.tup [.int p.1, .int p.2])) (ht : H t = none) (h : RowTo K xs H Q) : Q (.ref t) (upd H t (.tup [.str "begin", .ref pa, .str z])) := by
  have s1 := same_new (o := .tup [.str "begin", .ref pa, .str z]) ht
  have e : sPa K (upd H t (.tup [.str "begin", .ref pa, .str z])) p (.ref pa) := ⟨pa, rfl, s1 _ _ hpa⟩
  refine h (.beg p z) t _ s1 ⟨⟨_, _, upd_same, e, rfl⟩, Pl.tup upd_same (by show 3 ≤ 900; decide) fun u hu => ?_⟩ trivial
  simp only [List.mem_cons, List.not_mem_nil, or_false] at hu
  rcases hu with rfl | rfl | rfl
  · exact Pl.str _
  · exact Pl.nm e
  · exact Pl.str _
theorem row_work {xs : List RA} {H : Hp} {Q : VK} {p : Pa} {pa t : Addr} (hpa : H pa = some (.tup [.int p.1, .int p.2])) (ht : H t = none) (hn : hasR xs "work" p = false) (h : RowTo K xs H Q) : Q (.ref t) (upd H t (.tup [.str "work", .ref pa])) := by
  have s1 := same_new (o := .tup [.str "work", .ref pa]) ht
  have e : sPa K (upd H t (.tup [.str "work", .ref pa])) p (.ref pa) := ⟨pa, rfl, s1 _ _ hpa⟩
  refine h (.work p) t _ s1 ⟨⟨_, _, upd_same, e, rfl⟩, Pl.tup upd_same (by show 2 ≤ 900; decide) fun u hu => ?_⟩ hn
  simp only [List.mem_cons, List.not_mem_nil, or_false] at hu
  rcases hu with rfl | rfl
  · exact Pl.str _
  · exact Pl.nm e
def spRow (K : PySem.W.Frag) : Sp := fun vs H Q _ => ∃ n k q xs, vs = [.int n, .int k, .ref q] ∧ RsAt K H q xs ∧ xs.length ≤ 900 ∧ RowTo K xs H Q
def rBeg (K : PySem.W.Frag) : TS := fun D σ H => ∃ n y1 y2 y4 y5 nv np xs, σ = [some (.int n), y1, y2, some nv, y4, y5] ∧ sPa K H np nv ∧ RowTo K xs H D.rt
def r0 (K : PySem.W.Frag) : TS := fun D σ H => ∃ n k q xs nv np, σ = [some (.int n), some (.int k), some (.ref q), some nv, none, none] ∧ RsAt K H q xs ∧ xs.length ≤ 900 ∧ sPa K H np nv ∧ np ∉ nmsR xs ∧ RowTo K xs H D.rt
def r1 (K : PySem.W.Frag) : TS := fun D σ H => ∃ n k q xs nv np, σ = [some (.int n), some (.int k), some (.ref q), some nv, none, none] ∧ RsAt K H q xs ∧ xs.length ≤ 900 ∧ xs ≠ [] ∧ sPa K H np nv ∧ np ∉ nmsR xs ∧ RowTo K xs H D.rt
def r2 (K : PySem.W.Frag) : TS := fun D σ H => ∃ n k q xs nv np ov op, σ = [some (.int n), some (.int k), some (.ref q), some nv, some ov, some (.bl (hasR xs "end" op))] ∧ RsAt K H q xs ∧ xs.length ≤ 900 ∧ sPa K H np nv ∧ sPa K H op ov ∧ RowTo K xs H D.rt
theorem not_tt {b : Bool} (h : (!b) = true) : b = false := by
  cases b with
  | false => rfl
  | true => cases h
theorem ok_row (F : Fun K "_law_row" "_law_row" s__law_row f fd) (B : TxB mg) (GN : GF P w K mg base CX0 1 "_law_name" ["_law_number", "_law_k", "_law_rows"] (spName K)) (GH : GF P w K mg base CX0 1 "_law_has" ["_law_rows", "_law_word", "_law_name_here"] (spHas K))
    (GT : GF P w K mg base CX0 1 "_law_texts" [] spTx) : FnOk P w K mg base CX0 2 f fd ["_law_number", "_law_k", "_law_rows"] (spRow K) := by
  refine F.ok sc__law_row (fun vs H Q E h => ?_) (fun cdv A outer s H vs Q E hr h => ?_)
  · obtain ⟨n, k, q, xs, rfl, _⟩ := h
    rfl
  obtain ⟨n, k, q, xs, rfl, hn, hl, qr⟩ := h
  have nd := sc__law_row.nd
  refine ⟨_, pss_cons (ps_set (i := 3) nd rfl (Or.inl rfl) (pc GN hr (pa_cons (pe_op op_fdiv (pv 0) pe_int) (pa_cons (pv 1) (pa_cons (pv 2) pa_nil)))))
    (pss_weak (r0 K) (pss_cons (ps_if (PW.pt (pw_or (pt_cmpR (op_eqNil (Nat.lt_of_succ_lt (hun1 hr))) (pv 2) (pe_lst pa_nil) (nomark _)) (pw_or1 (pt_cmpR op_eq (pe_op op_mod (pv 0) pe_int) pe_int (nomark _)))))
        (pss_weak (rBeg K) (pss_one (ps_ret (pe_tup (pa_cons pe_str (pa_cons (pv 3) (pa_cons (pe_ix (r := rIxL K) ix_list (pc0 GT hr) (pe_op op_mod (pe_op op_fdiv (pv 0) pe_int) pe_int) (fun _ _ => rfl)) pa_nil)))))) ?vb) pss_nil)
    (pss_weak (r1 K) (pss_cons (ps_if (pt_cmpR op_eq (pe_op op_mod (pv 0) pe_int) pe_int (nomark _)) (pss_one (ps_ret (pe_tup (pa_cons pe_str (pa_cons (pv 3) pa_nil))))) pss_nil)
    (pss_cons (ps_set (i := 4) nd rfl (Or.inl rfl) (pe_ix (r := rIxT K) ix_tup (pe_ix (r := rIxL K) ix_list (pv 2) (pe_op op_mod (pe_op op_fdiv (pv 0) pe_int) (pe_callB call_len_seq rfl B.len PySem.boot_len (pa_cons (pv 2) pa_nil))) (fun _ _ => rfl)) pe_int (fun _ _ => rfl)))
    (pss_cons (ps_set (i := 5) nd rfl (Or.inl rfl) (pc GH hr (pa_cons (pv 2) (pa_cons pe_str (pa_cons (pv 4) pa_nil)))))
    (pss_weak (r2 K) (pss_cons (ps_if (PW.pt (pw_and (pt_cmpR op_lt (pe_op op_mod (pv 0) pe_int) pe_int (nomark _)) (pw_and (pt_not (pt_val (pv 5))) (pw_and1 (pt_not (pt_val (pc GH hr (pa_cons (pv 2) (pa_cons pe_str (pa_cons (pv 4) pa_nil))))))))))
        (pss_one (ps_ret (pe_tup (pa_cons pe_str (pa_cons (pv 4) pa_nil))))) pss_nil)
    (pss_weak (r2 K) (pss_cons (ps_if (PW.pt (pw_and (pt_cmpR op_lt (pe_op op_mod (pv 0) pe_int) pe_int (nomark _)) (pw_and (pt_not (pt_val (pv 5))) (pw_and1 (pt_not (pt_val (pc GH hr (pa_cons (pv 2) (pa_cons pe_str (pa_cons (pv 4) pa_nil))))))))))
        (pss_one (ps_ret (pe_tup (pa_cons pe_str (pa_cons (pv 4) (pa_cons (pe_tup (pa_cons pe_int (pa_cons pe_int pa_nil))) (pa_cons (pe_tup (pa_cons (pe_tup (pa_cons pe_str (pa_cons pe_int (pa_cons pe_int pa_nil)))) pa_nil)) (pa_cons (pe_tup (pa_cons (pe_tup (pa_cons pe_int (pa_cons (pe_op op_mod (pe_op op_fdiv (pv 0) pe_int) (pe_op op_pow pe_int pe_int)) pa_nil))) pa_nil)) pa_nil)))))))) pss_nil)
    (pss_weak (r2 K) (pss_cons (ps_if (pt_not (pt_val (pv 5)))
        (pss_one (ps_ret (pe_tup (pa_cons pe_str (pa_cons (pv 4) (pa_cons (pe_ix (r := rIxL K) ix_list (pe_lst (pa_cons pe_str (pa_cons pe_str pa_nil))) (pe_op op_mod (pe_op op_fdiv (pv 0) pe_int) pe_int) (fun _ _ => rfl)) (pa_cons (pe_tup pa_nil) pa_nil))))))) pss_nil)
    (pss_one (ps_ret (pe_tup (pa_cons pe_str (pa_cons (pv 3) (pa_cons (pe_ix (r := rIxL K) ix_list (pc0 GT hr) (pe_op op_mod (pe_op op_fdiv (pv 0) pe_int) pe_int) (fun _ _ => rfl)) pa_nil))))))) ?v5)) ?v4)) ?v3)))) ?v2)) ?v1), ?_⟩
  case vb =>
    rintro D0 σ H ⟨n, y1, y2, y4, y5, nv, np, xs, rfl, ⟨pa, rfl, hpa⟩, qr⟩
    obtain ⟨t, et⟩ := at_tx (n / 6)
    refine ⟨_, rfl, rfl, fun l hl => ⟨_, rfl, _, _, rfl, rfl, ⟨by decide, by decide⟩, _, _, rfl, rfl, (by show (0 : Int) < 4; decide), l, _, _, _, rfl, rfl, SqL.of upd_same, et, (by show 3 ≤ sizeLine; decide), fun r hr => ?_⟩⟩
    have s1 := same_new (o := .lst (tx33.map V.str)) hl
    exact row_beg (s1 _ _ hpa) hr (qr.keep s1)
  case v1 =>
    rintro D0 σ H ⟨n, k, q, xs, nv, np, rfl, hn, hl, hp, hnp, qr⟩
    refine ⟨_, rfl, (by show 0 ≤ sizeLine; decide), fun e0 he0 => ?_⟩
    have s1 := same_new (o := .lst []) he0
    refine ⟨q, e0, rV xs, rfl, rfl, SqL.of (hn.keep s1).1, SqL.of upd_same, _, rfl, ?_⟩
    by_cases en : rV xs = []
    · refine ite2 (fun _ => iteT ?_) (fun c => absurd (decT en) c)
      exact ⟨n, _, _, _, _, nv, np, xs, rfl, hp.keep s1.ts, qr.keep s1⟩
    · refine ite2 (fun c => absurd (decO c) en) (fun _ => ?_)
      refine ⟨_, rfl, _, _, rfl, rfl, (by show (0 : Int) < 6; decide), rfl, _, rfl, ite2 (fun _ => ?_) (fun _ => ?_)⟩
      · exact ⟨n, _, _, _, _, nv, np, xs, rfl, hp.keep s1.ts, qr.keep s1⟩
      · exact ⟨n, k, q, xs, nv, np, rfl, hn.keep s1, hl, fun z => en (by rw [z]; rfl), hp.keep s1.ts, hnp, qr.keep s1⟩
  case v2 =>
    rintro D0 σ H ⟨n, k, q, xs, nv, np, rfl, hn, hl, hne, hp, hnp, qr⟩
    refine ⟨_, rfl, _, _, rfl, rfl, (by show (0 : Int) < 6; decide), rfl, _, rfl, ite2 (fun _ => ?_) (fun _ => ?_)⟩
    · obtain ⟨pa, rfl, hpa⟩ := hp
      exact ⟨_, rfl, (by show 2 ≤ sizeLine; decide), fun t ht => row_work hpa ht (no_has hnp _) qr⟩
    · obtain ⟨x, hx, ex⟩ := at_mod hne (n / 6)
      obtain ⟨⟨pv0, us, hrow, hpv, _⟩, _⟩ := hn.2 x hx
      have hpos : (0 : Int) < (((rV xs).length : Nat) : Int) := by
        have := List.length_pos_iff.mpr hne
        rw [len_rV]
        omega
      refine ⟨_, rfl, _, rfl, _, _, rfl, rfl, ⟨by decide, by decide⟩, _, rfl, q, _, rfl, .inl (SqL.of hn.1), _, _, rfl, rfl, hpos, q, _, _, _, rfl, rfl, SqL.of hn.1, ex, x.2, _, _, _, rfl, rfl, SqT.of hrow, at1, ?_⟩
      refine ⟨_, rfl, _, rfl, q, xs, _, pv0, x.1.nm, rfl, hn, hl, hpv, fun H1 s1 => ?_⟩
      exact ⟨n, k, q, xs, nv, np, pv0, x.1.nm, rfl, hn.keep s1, hl, hp.keep s1.ts, hpv.keep s1.ts, qr.keep s1⟩
  case v3 =>
    rintro D0 σ H ⟨n, k, q, xs, nv, np, ov, op, rfl, hn, hl, hp, ho, qr⟩
    have nx : r2 K D0 [some (.int n), some (.int k), some (.ref q), some nv, some ov, some (.bl (hasR xs "end" op))] H := ⟨n, k, q, xs, nv, np, ov, op, rfl, hn, hl, hp, ho, qr⟩
    refine ⟨_, rfl, _, _, rfl, rfl, (by show (0 : Int) < 6; decide), _, _, rfl, rfl, _, rfl, ite2 (fun _ => ?_) (fun _ => iteF nx)⟩
    refine ⟨_, rfl, _, rfl, ite2 (fun _ => ?_) (fun _ => iteF nx)⟩
    refine ⟨_, rfl, _, rfl, q, xs, _, ov, op, rfl, hn, hl, ho, fun H1 s1 => ⟨_, rfl, ite2 (fun c => ?_) (fun _ => ?_)⟩⟩
    · obtain ⟨oa, rfl, hoa⟩ := ho
      exact ⟨_, rfl, (by show 2 ≤ sizeLine; decide), fun t ht => row_work (s1 _ _ hoa) ht (not_tt c) (qr.keep s1)⟩
    · exact ⟨n, k, q, xs, nv, np, ov, op, rfl, hn.keep s1, hl, hp.keep s1.ts, ho.keep s1.ts, qr.keep s1⟩
  case v4 =>
    rintro D0 σ H ⟨n, k, q, xs, nv, np, ov, op, rfl, hn, hl, hp, ho, qr⟩
    have nx : r2 K D0 [some (.int n), some (.int k), some (.ref q), some nv, some ov, some (.bl (hasR xs "end" op))] H := ⟨n, k, q, xs, nv, np, ov, op, rfl, hn, hl, hp, ho, qr⟩
    refine ⟨_, rfl, _, _, rfl, rfl, (by show (0 : Int) < 6; decide), _, _, rfl, rfl, _, rfl, ite2 (fun _ => ?_) (fun _ => iteF nx)⟩
    refine ⟨_, rfl, _, rfl, ite2 (fun _ => ?_) (fun _ => iteF nx)⟩
    refine ⟨_, rfl, _, rfl, q, xs, _, ov, op, rfl, hn, hl, ho, fun H1 s0 => ⟨_, rfl, ite2 (fun c => ?_) (fun _ => ?_)⟩⟩
    · obtain ⟨oa, rfl, hoa⟩ := ho
      refine ⟨_, rfl, (by show 2 ≤ sizeLine; decide), fun a1 h1 => ⟨(by show 3 ≤ sizeLine; decide), fun a2 h2 => ⟨(by show 1 ≤ sizeLine; decide), fun a3 h3 => ⟨_, rfl, _, _, rfl, rfl, ⟨by decide, by decide⟩, _, _, rfl, rfl, ⟨by decide, by decide, by decide⟩, _, _, rfl, rfl, (by show (0 : Int) < 10 ^ 30; decide +kernel), (by show 2 ≤ sizeLine; decide), fun a4 h4 => ⟨(by show 1 ≤ sizeLine; decide), fun a5 h5 => ⟨(by show 5 ≤ sizeLine; decide), fun t ht => ?_⟩⟩⟩⟩⟩⟩
      have s1 := same_new (o := .tup [.int 0, .int 1]) h1
      have s2 := same_new (o := .tup [.str "read", .int 0, .int 1]) h2
      have s3 := same_new (o := .tup [.ref a2]) h3
      have s4 := same_new (o := .tup [.int 0, .int (n / 7 % 10 ^ 30)]) h4
      have s5 := same_new (o := .tup [.ref a4]) h5
      have s6 := same_new (o := .tup [.str "ready", .ref oa, .ref a1, .ref a3, .ref a5]) ht
      have k5 := s6 _ _ (upd_same (a := a5) (o := .tup [.ref a4]))
      have k4 := s6 _ _ (s5 _ _ (upd_same (a := a4) (o := .tup [.int 0, .int (n / 7 % 10 ^ 30)])))
      have k3 := s6 _ _ (s5 _ _ (s4 _ _ (upd_same (a := a3) (o := .tup [.ref a2]))))
      have k2 := s6 _ _ (s5 _ _ (s4 _ _ (s3 _ _ (upd_same (a := a2) (o := .tup [.str "read", .int 0, .int 1])))))
      have k1 := s6 _ _ (s5 _ _ (s4 _ _ (s3 _ _ (s2 _ _ (upd_same (a := a1) (o := .tup [.int 0, .int 1]))))))
      have sA := s1.trans (s2.trans (s3.trans (s4.trans (s5.trans s6))))
      have k0 := sA _ _ (s0 _ _ hoa)
      refine qr (.ready op [(0, n / 7 % 10 ^ 30)]) t _ (s0.trans sA) ⟨⟨_, _, upd_same, ⟨oa, rfl, k0⟩, _, _, _, rfl, a5, _, rfl, .inl k5, .cons (cPa_mk (k := (0, n / 7 % 10 ^ 30)) k4) .nil⟩, Pl.tup upd_same (by show 5 ≤ 900; decide) fun u hu => ?_⟩ ⟨not_tt c, fun x hx => ?_⟩
      · simp only [List.mem_cons, List.not_mem_nil, or_false] at hu
        rcases hu with rfl | rfl | rfl | rfl | rfl
        · exact Pl.str _
        · exact Pl.nm (p := op) ⟨oa, rfl, k0⟩
        · exact Pl.nm (p := (0, 1)) ⟨a1, rfl, k1⟩
        · refine Pl.tup k3 (by show 1 ≤ 900; decide) fun u hu => ?_
          simp only [List.mem_cons, List.not_mem_nil, or_false] at hu
          subst hu
          refine Pl.tup k2 (by show 3 ≤ 900; decide) fun u hu => ?_
          simp only [List.mem_cons, List.not_mem_nil, or_false] at hu
          rcases hu with rfl | rfl | rfl
          · exact Pl.str _
          · exact Pl.int _
          · exact Pl.int _
        · refine Pl.tup k5 (by show 1 ≤ 900; decide) fun u hu => ?_
          simp only [List.mem_cons, List.not_mem_nil, or_false] at hu
          subst hu
          exact Pl.nm (p := (0, n / 7 % 10 ^ 30)) ⟨a4, rfl, k4⟩
      · rw [List.mem_singleton.mp hx]
    · exact ⟨n, k, q, xs, nv, np, ov, op, rfl, hn.keep s0, hl, hp.keep s0.ts, ho.keep s0.ts, qr.keep s0⟩
  case v5 =>
    rintro D0 σ H ⟨n, k, q, xs, nv, np, ov, op, rfl, hn, hl, ⟨pa, rfl, hpa⟩, ⟨oa, rfl, hoa⟩, qr⟩
    refine ⟨_, rfl, _, rfl, ite2 (fun c => ?_) (fun _ => ?_)⟩
    · obtain ⟨o, eo⟩ := at_db (n / 12)
      refine ⟨_, rfl, (by show 2 ≤ sizeLine; decide), fun l hl => ⟨_, rfl, _, _, rfl, rfl, ⟨by decide, by decide⟩, _, _, rfl, rfl, (by show (0 : Int) < 2; decide), l, _, _, _, rfl, rfl, SqL.of upd_same, eo, (by show 0 ≤ sizeLine; decide), fun t0 h0 => ⟨(by show 4 ≤ sizeLine; decide), fun t ht => ?_⟩⟩⟩
      have s1 := same_new (o := .lst [.str "done", .str "broken"]) hl
      have s2 := same_new (o := .tup []) h0
      have s3 := same_new (o := .tup [.str "end", .ref oa, .str o, .ref t0]) ht
      have k2 := s3 _ _ (upd_same (a := t0) (o := .tup []))
      have k0 := s3 _ _ (s2 _ _ (s1 _ _ hoa))
      refine qr (.fin op o) t _ (s1.trans (s2.trans s3)) ⟨⟨_, _, upd_same, ⟨oa, rfl, k0⟩, _, rfl⟩, Pl.tup upd_same (by show 4 ≤ 900; decide) fun u hu => ?_⟩ (not_tt c)
      simp only [List.mem_cons, List.not_mem_nil, or_false] at hu
      rcases hu with rfl | rfl | rfl | rfl
      · exact Pl.str _
      · exact Pl.nm (p := op) ⟨oa, rfl, k0⟩
      · exact Pl.str _
      · exact Pl.tup k2 (by show 0 ≤ 900; decide) fun u hu => nomatch hu
    · obtain ⟨t, et⟩ := at_tx (n / 24)
      refine ⟨_, rfl, rfl, fun l hl => ⟨_, rfl, _, _, rfl, rfl, ⟨by decide, by decide⟩, _, _, rfl, rfl, (by show (0 : Int) < 4; decide), l, _, _, _, rfl, rfl, SqL.of upd_same, et, (by show 3 ≤ sizeLine; decide), fun r hr => ?_⟩⟩
      have s1 := same_new (o := .lst (tx33.map V.str)) hl
      exact row_beg (s1 _ _ hpa) hr (qr.keep s1)
  refine ⟨_, rfl, _, _, rfl, rfl, ⟨by decide, by decide⟩, _, rfl, _, rfl, _, _, q, xs, rfl, hn, hl, fun v p H1 s1 hp hnp => ?_⟩
  exact ⟨n, k, q, xs, v, p, rfl, hn.keep s1, hl, hp, hnp, fun w r H' s' => qr w r H' (s1.trans s')⟩
end
end K33

set_option maxHeartbeats 4000000
namespace K33
open PySem L2 Lo
section
variable {P : Program} {w : World} {K : PySem.W.Frag} {mg : Str → Option Value} {base : Heap} {f CS : Addr} {fd : FuncData}
/-! ### what the law finds lost -/
def lz (xs : List RA) (x : RA) : Bool := (!hasR xs "end" x.1.nm) && (decide (x.1.wd = "begin") || (decide (x.1.wd = "work") && !hasR xs "ready" x.1.nm))
def LostIs (xs ys : List RA) (ns : List Pa) : Prop := ns.Nodup ∧ ∀ p, p ∈ ns ↔ ∃ x, x ∈ ys ∧ lz xs x = true ∧ x.1.nm = p
theorem LostIs.add {xs ys : List RA} {ns : List Pa} {x : RA} (h : LostIs xs ys ns) (h1 : lz xs x = true) (h2 : x.1.nm ∉ ns) : LostIs xs (ys ++ [x]) (ns ++ [x.1.nm]) := by
  refine ⟨?_, fun p => ?_⟩
  · rw [List.nodup_append]
    refine ⟨h.1, by simp, fun a ha b hb e => ?_⟩
    rw [List.mem_singleton.mp hb] at e
    exact h2 (e ▸ ha)
  · rw [List.mem_append, h.2]
    constructor
    · rintro (⟨y, hy, e⟩ | hp)
      · exact ⟨y, List.mem_append_left _ hy, e⟩
      · exact ⟨x, List.mem_append_right _ List.mem_cons_self, h1, (List.mem_singleton.mp hp).symm⟩
    · rintro ⟨y, hy, e⟩
      rcases List.mem_append.mp hy with hy | hy
      · exact .inl ⟨y, hy, e⟩
      · rw [List.mem_singleton.mp hy] at e
        exact .inr (List.mem_singleton.mpr e.2.symm)
theorem LostIs.skip {xs ys : List RA} {ns : List Pa} {x : RA} (h : LostIs xs ys ns) (h1 : lz xs x = true → x.1.nm ∈ ns) : LostIs xs (ys ++ [x]) ns := by
  refine ⟨h.1, fun p => ?_⟩
  rw [h.2]
  constructor
  · rintro ⟨y, hy, e⟩
    exact ⟨y, List.mem_append_left _ hy, e⟩
  · rintro ⟨y, hy, e⟩
    rcases List.mem_append.mp hy with hy | hy
    · exact ⟨y, hy, e⟩
    · rw [List.mem_singleton.mp hy] at e
      have := h1 e.1
      rw [e.2] at this
      exact (h.2 p).mp this
theorem RsAt.kp {H H' : Hp} {q fl : Addr} {xs : List RA} (h : RsAt K H q xs) (k : Kp fl H H') (n : q ≠ fl) (t : TSame H H') : RsAt K H' q xs := ⟨k _ _ n h.1, fun x hx => (h.2 x hx).keep t⟩
theorem kp_ts {H H' : Hp} {l : Addr} {us : List V} (k : Kp l H H') (h : H l = some (.lst us)) : TSame H H' := fun b ys e => k b _ (fun z => by rw [z, h] at e; cases e) e
def goL (xs : List RA) (w : Rw) (fr : Bool) : Bool := fr && (decide (w.wd = "begin") || (decide (w.wd = "work") && !hasR xs "ready" w.nm))
def lA (K : PySem.W.Frag) : TS := fun D σ H => ∃ q fl xs r w v us fr, σ = [some (.ref q), some (.ref fl), some (.ref r), some v, some (.bl fr)] ∧ RsAt K H q xs ∧ xs.length ≤ 900 ∧ RwAt K H w r ∧ sPa K H w.nm v ∧ H fl = some (.lst us) ∧ us.length ≤ 900 ∧
  (goL xs w fr = true → ∀ H1, Same H H1 → D.nx σ (upd H1 fl (.lst (us ++ [v])))) ∧ (goL xs w fr = false → ∀ H1, Same H H1 → D.nx σ H1)
def lB (K : PySem.W.Frag) : TS := fun D σ H => ∃ q fl r w v fr, σ = [some (.ref q), some (.ref fl), some (.ref r), some v, some (.bl fr)] ∧ RwAt K H w r ∧ (w.wd ≠ "work" → D.nx σ H) ∧ (w.wd = "work" → ∃ xs us, RsAt K H q xs ∧ xs.length ≤ 900 ∧ sPa K H w.nm v ∧ H fl = some (.lst us) ∧ us.length ≤ 900 ∧
  ((fr && !hasR xs "ready" w.nm) = true → ∀ H1, Same H H1 → D.nx σ (upd H1 fl (.lst (us ++ [v])))) ∧ ((fr && !hasR xs "ready" w.nm) = false → ∀ H1, Same H H1 → D.nx σ H1))
def pL (K : PySem.W.Frag) (q fl : Addr) (xs : List RA) (H0 : Hp) (i : Nat) (σ : L2.St) (H' : Hp) : Prop := ∃ y2 y3 y4 fs us, σ = [some (.ref q), some (.ref fl), y2, y3, y4] ∧ Kp fl H0 H' ∧ H' fl = some (.lst us) ∧ Paired (sPa K H') fs us ∧ fs.length ≤ i ∧ LostIs xs (xs.take i) fs
theorem go_and {e c : Bool} {m : Prop} {i : Decidable m} : ((!e && !decide m) && c) = true ↔ ((!e && c) = true ∧ ¬ m) := by
  by_cases h : m
  · rw [decide_eq_true h]
    cases e <;> cases c <;> simp [h]
  · rw [decide_eq_false h]
    cases e <;> cases c <;> simp [h]
def spLostL (K : PySem.W.Frag) : Sp := fun vs H Q _ => ∃ q xs, vs = [.ref q] ∧ RsAt K H q xs ∧ xs.length ≤ 60 ∧ ∀ l ns us H', Same H H' → H l = none → H' l = some (.lst us) → Paired (sPa K H') (srtBy ltP ns) us → LostIs xs xs ns → Q (.ref l) H'
theorem ok_lostL (F : Fun K "_law_lost" "_law_lost" s__law_lost f fd) (B : TxB mg) (GH : GF P w K mg base CX0 1 "_law_has" ["_law_rows", "_law_word", "_law_name_here"] (spHas K)) : FnOk P w K mg base CX0 2 f fd ["_law_rows"] (spLostL K) := by
  refine F.ok sc__law_lost (fun vs H Q E h => ?_) (fun cdv A outer s H vs Q E hr h => ?_)
  · obtain ⟨q, xs, rfl, _⟩ := h
    rfl
  obtain ⟨q, xs, rfl, hn, hl, qr⟩ := h
  have nd := sc__law_lost.nd
  refine ⟨_, pss_cons (ps_set (i := 1) nd rfl (Or.inl rfl) (pe_lst pa_nil))
    (pss_cons (ps_for PassesOwn.never rfl (pi_list (pv 0)) (pg_name (i := 2) nd rfl (Or.inl rfl))
      (pss_cons (ps_set (i := 3) nd rfl (Or.inl rfl) (pe_ix (r := rIxT K) ix_tup (pv 2) pe_int (fun _ _ => rfl)))
      (pss_cons (ps_set (i := 4) nd rfl (Or.inl rfl) (pe_and (pe_not (pc GH hr (pa_cons (pv 0) (pa_cons pe_str (pa_cons (pv 3) pa_nil))))) (pe_one (pe_cmpR (op_notinC cPa (hun hr)) (pv 3) (pv 1) rfl))))
      (pss_weak (lA K) (pss_cons (ps_if (PW.pt (pw_and (pt_cmpR op_eq (pe_ix (r := rIxT K) ix_tup (pv 2) pe_int (fun _ _ => rfl)) pe_str (nomark _)) (pw_and1 (pt_val (pv 4)))))
        (pss_one (ps_expr (pe_bm PySem.F.plainAttrs_list PySem.F.slot_list_append PySem.F.type_list_append mt_append (pv 1) (pa_cons (pv 3) pa_nil)))) pss_nil)
      (pss_weak (lB K) (pss_one (ps_if (PW.pt (pw_and (pt_cmpR op_eq (pe_ix (r := rIxT K) ix_tup (pv 2) pe_int (fun _ _ => rfl)) pe_str (nomark _)) (pw_and (pt_val (pv 4)) (pw_and1 (pt_not (pt_val (pc GH hr (pa_cons (pv 0) (pa_cons pe_str (pa_cons (pv 3) pa_nil))))))))))
        (pss_one (ps_expr (pe_bm PySem.F.plainAttrs_list PySem.F.slot_list_append PySem.F.type_list_append mt_append (pv 1) (pa_cons (pv 3) pa_nil)))) pss_nil)) ?vB)) ?vA))))
    (pss_one (ps_ret (pe_callB (call_sortedN (hun (c := 3) hr)) rfl B.sorted PyProof.Rows.boot_sorted (pa_cons (pv 1) pa_nil))))), ?_⟩
  case vA =>
    rintro D0 σ H ⟨q, fl, xs, r, w, v, us, fr, rfl, hn, hl, hrw, hp, hfl, hu, g1, g2⟩
    obtain ⟨pv0, rus, hrow, hpv, hm⟩ := id hrw
    refine ⟨_, rfl, r, _, _, _, rfl, rfl, SqT.of hrow, at0, rfl, _, rfl, ?_⟩
    by_cases e1 : w.wd = "begin"
    · refine ite2 (fun _ => ?_) (fun c => absurd (decT (congrArg V.str e1)) c)
      refine ⟨_, rfl, _, rfl, ?_⟩
      have nw : ¬ w.wd = "work" := fun z => by rw [e1] at z; exact absurd z (by decide +kernel)
      have eg : ∀ b, goL xs w b = b := fun b => by
        unfold goL
        rw [decide_eq_true e1, Bool.true_or, Bool.and_true]
      cases fr with
      | true =>
        refine iteT ⟨_, rfl, .inl ⟨rfl, _, SqL.of hfl⟩, _, rfl, fl, us, _, rfl, rfl, hfl, small1000 (by omega), ?_⟩
        exact ⟨q, fl, r, w, v, true, rfl, hrw.keep (kp_ts kp_upd hfl), fun _ => g1 (eg true) H (Same.refl _), fun z => absurd z nw⟩
      | false => exact iteF ⟨q, fl, r, w, v, false, rfl, hrw, fun _ => g2 (eg false) H (Same.refl _), fun z => absurd z nw⟩
    · refine ite2 (fun c => absurd (V.str.inj (decO c)) e1) (fun _ => iteF ?_)
      refine ⟨q, fl, r, w, v, fr, rfl, hrw, fun nw => g2 ?_ H (Same.refl _), fun ew => ⟨xs, us, hn, hl, hp, hfl, hu, fun c => g1 ?_, fun c => g2 ?_⟩⟩
      · unfold goL
        rw [decide_eq_false e1, decide_eq_false nw, Bool.false_and, Bool.false_or, Bool.and_false]
      · unfold goL
        rw [decide_eq_false e1, decide_eq_true ew, Bool.true_and, Bool.false_or]
        exact c
      · unfold goL
        rw [decide_eq_false e1, decide_eq_true ew, Bool.true_and, Bool.false_or]
        exact c
  case vB =>
    rintro D0 σ H ⟨q, fl, r, w, v, fr, rfl, hrw, g0, gw⟩
    obtain ⟨pv0, rus, hrow, hpv, hm⟩ := id hrw
    refine ⟨_, rfl, r, _, _, _, rfl, rfl, SqT.of hrow, at0, rfl, _, rfl, ?_⟩
    by_cases e1 : w.wd = "work"
    · obtain ⟨xs, us, hn, hl, hp, hfl, hu, g1, g2⟩ := gw e1
      refine ite2 (fun _ => ?_) (fun c => absurd (decT (congrArg V.str e1)) c)
      refine ⟨_, rfl, _, rfl, ?_⟩
      cases fr with
      | false => exact iteF (iteF (g2 rfl H (Same.refl _)))
      | true =>
        refine iteT ⟨_, rfl, _, rfl, q, xs, _, v, w.nm, rfl, hn, hl, hp, fun H1 s1 => ⟨_, rfl, ?_⟩⟩
        cases e2 : hasR xs "ready" w.nm with
        | true => exact iteF (g2 (by rw [e2]; rfl) H1 s1)
        | false => exact iteT ⟨_, rfl, .inl ⟨rfl, _, SqL.of (s1 _ _ hfl)⟩, _, rfl, fl, us, _, rfl, rfl, s1 _ _ hfl, small1000 (by omega), g1 (by rw [e2]; rfl) H1 s1⟩
    · exact ite2 (fun c => absurd (V.str.inj (decO c)) e1) (fun _ => iteF (g0 e1))
  refine ⟨(by show 0 ≤ sizeLine; decide), fun fl hfl => ?_⟩
  have s1 := same_new (o := .lst []) hfl
  have hn1 := hn.keep s1
  have nq : q ≠ fl := ne_of_none hn.1 hfl
  have hf0 : (upd H fl (.lst [])) fl = some (.lst []) := upd_same
  have bk : ∀ b o, H b = some o → b ≠ fl := fun b o e => ne_of_none e hfl
  generalize (upd H fl (HO.lst [])) = H0 at s1 hn1 hf0 ⊢
  refine ⟨_, rfl, q, rfl, ⟨_, SqL.of hn1.1⟩, ?_⟩
  refine for_list (xs := rV xs) (pL K q fl xs H0) ⟨none, none, none, [], [], rfl, Kp.of (Same.refl _), hf0, .nil, Nat.le_refl _, List.nodup_nil, fun p => ⟨fun z => (nomatch z), fun ⟨x, hx, _⟩ => (nomatch hx)⟩⟩ (fun i σ H' _ z => by obtain ⟨_, _, _, _, _, _, k, _⟩ := z; exact SqL.of (k _ _ nq hn1.1)) ?_ ?_
  · rintro i u σ H1 hu ⟨y2, y3, y4, fs, us, rfl, k1, hf1, pu, lf, li⟩
    unfold rV at hu
    rw [List.getElem?_map] at hu
    obtain ⟨x, ex, rfl⟩ := Option.map_eq_some_iff.mp hu
    have hx : x ∈ xs := List.mem_of_getElem? ex
    have hi : i < xs.length := (List.getElem?_eq_some_iff.mp ex).1
    have hn2 : RsAt K H1 q xs := RsAt.kp hn1 k1 nq (kp_ts k1 hf0)
    obtain ⟨hrw, _⟩ := hn2.2 x hx
    obtain ⟨pv0, rus, hrow, hpv, _⟩ := id hrw
    refine ⟨_, rfl, x.2, _, _, _, rfl, rfl, SqT.of hrow, at1, ?_⟩
    refine ⟨_, rfl, _, rfl, q, xs, _, pv0, x.1.nm, rfl, hn2, by omega, hpv, fun H2 s2 => ⟨_, rfl, _, rfl, ?_⟩⟩
    have et : xs.take (i + 1) = xs.take i ++ [x] := by rw [List.take_add_one, ex]; rfl
    have fin : ∀ fr : Bool, fr = (!hasR xs "end" x.1.nm && !decide (x.1.nm ∈ fs)) → ∀ (D0 : Ends), (∀ σ' H', pL K q fl xs H0 (i + 1) σ' H' → D0.nx σ' H') → lA K D0 [some (.ref q), some (.ref fl), some (.ref x.2), some pv0, some (.bl fr)] H2 := fun fr ef D0 d0 => by
      have pl := pu.len
      refine ⟨q, fl, xs, x.2, x.1, pv0, us, fr, rfl, hn2.keep s2, by omega, hrw.keep s2.ts, hpv.keep s2.ts, s2 _ _ hf1, by omega, fun g H3 s3 => ?_, fun g H3 s3 => ?_⟩
      · unfold goL at g
        rw [ef] at g
        obtain ⟨gz, gm⟩ := go_and.mp g
        have kp : Kp fl H3 (upd H3 fl (.lst (us ++ [pv0]))) := kp_upd
        have ts := (s2.trans s3).ts
        have ts4 := kp_ts kp (s3 _ _ (s2 _ _ hf1))
        refine d0 _ _ ⟨_, _, _, fs ++ [x.1.nm], us ++ [pv0], rfl, (k1.trans (Kp.of (s2.trans s3))).trans kp, upd_same, (Paired.mapP pu fun _ _ z => (z.keep ts).keep ts4).app (.cons ((hpv.keep ts).keep ts4) .nil), by rw [List.length_append]; exact Nat.succ_le_succ lf, ?_⟩
        rw [et]
        exact li.add gz gm
      · unfold goL at g
        rw [ef] at g
        refine d0 _ _ ⟨_, _, _, fs, us, rfl, k1.trans (Kp.of (s2.trans s3)), s3 _ _ (s2 _ _ hf1), Paired.mapP pu fun _ _ z => z.keep (s2.trans s3).ts, by omega, ?_⟩
        rw [et]
        refine li.skip fun z => ?_
        by_cases hm : x.1.nm ∈ fs
        · exact hm
        · exact absurd (go_and.mpr ⟨z, hm⟩) (Bool.eq_false_iff.mp g)
    cases he : hasR xs "end" x.1.nm with
    | true =>
      refine iteF (fin _ (by rw [he]; rfl) _ fun _ _ z => z)
    | false =>
      refine iteT ⟨_, rfl, _, rfl, x.1.nm, fl, us, fs, (hpv.keep s2.ts).c, rfl, .inl (SqL.of (s2 _ _ hf1)), Paired.mapP pu (fun _ _ z => (z.keep s2.ts).c), ?_⟩
      exact fin _ (by rw [he]; exact congrArg (fun b => !b) (decide_eq_decide.mpr Iff.rfl)) _ fun _ _ z => z
  · rintro σ H1 ⟨y2, y3, y4, fs, us, rfl, k1, hf1, pu, lf, li⟩
    rw [len_rV] at lf li
    rw [List.take_length] at li
    refine ⟨_, rfl, fl, us, fs, rfl, SqL.of hf1, pu, by omega, fun l ys hl4 py => ?_⟩
    have sA : Same H H1 := fun b o e => k1 _ _ (bk b o e) (s1 _ _ e)
    refine qr l fs ys _ (sA.trans (same_new hl4)) ?_ upd_same py li
    cases e : H l with
    | none => rfl
    | some u =>
      have := sA _ _ e
      rw [hl4] at this
      cases this
end
end K33

set_option maxHeartbeats 4000000
namespace K33
open PySem L2 Lo
section
variable {P : Program} {w : World} {K : PySem.W.Frag} {mg : Str → Option Value} {base : Heap} {f CS : Addr} {fd : FuncData}
/-! ### what stands and what the rows tell -/
structure LK (xs : List RA) (d : Sd) : Prop where
  bg : d.begins = begR xs
  wk : d.worked = wrkR xs
  rd : d.ready = rdyR xs
  en : d.ends = endR xs
  nd : (d.ready.map (·.1)).Nodup
  ch : ∀ x ∈ d.ready, ∀ c ∈ x.2.2, c.1 = 0
theorem beg_mem {xs : List RA} {p : Pa} : p ∈ (begR xs).map (·.1) ↔ hasR xs "begin" p = true := by
  rw [hasR_iff, List.mem_map]
  constructor
  · rintro ⟨y, hy, rfl⟩
    obtain ⟨⟨w, a⟩, hx, e⟩ := List.mem_filterMap.mp hy
    refine ⟨_, hx, ?_⟩
    cases w with
    | beg p t => cases e; exact ⟨rfl, rfl⟩
    | _ => cases e
  · rintro ⟨⟨w, a⟩, hx, e1, e2⟩
    cases w with
    | beg p t => exact ⟨(p, t), List.mem_filterMap.mpr ⟨_, hx, rfl⟩, e2⟩
    | _ => exact absurd e1 (by simp only [Rw.wd]; decide +kernel)
theorem wrk_mem {xs : List RA} {p : Pa} : p ∈ wrkR xs ↔ hasR xs "work" p = true := by
  rw [hasR_iff]
  constructor
  · intro hy
    obtain ⟨⟨w, a⟩, hx, e⟩ := List.mem_filterMap.mp hy
    refine ⟨_, hx, ?_⟩
    cases w with
    | work p => cases e; exact ⟨rfl, rfl⟩
    | _ => cases e
  · rintro ⟨⟨w, a⟩, hx, e1, e2⟩
    cases w with
    | work p => exact List.mem_filterMap.mpr ⟨_, hx, congrArg some e2⟩
    | _ => exact absurd e1 (by simp only [Rw.wd]; decide +kernel)
theorem rdy_mem {xs : List RA} {p : Pa} : p ∈ (rdyR xs).map (·.1) ↔ hasR xs "ready" p = true := by
  rw [hasR_iff, List.mem_map]
  constructor
  · rintro ⟨y, hy, rfl⟩
    obtain ⟨⟨w, a⟩, hx, e⟩ := List.mem_filterMap.mp hy
    refine ⟨_, hx, ?_⟩
    cases w with
    | ready p t => cases e; exact ⟨rfl, rfl⟩
    | _ => cases e
  · rintro ⟨⟨w, a⟩, hx, e1, e2⟩
    cases w with
    | ready p t => exact ⟨(p, a, t), List.mem_filterMap.mpr ⟨_, hx, rfl⟩, e2⟩
    | _ => exact absurd e1 (by simp only [Rw.wd]; decide +kernel)
theorem end_mem {xs : List RA} {p : Pa} : p ∈ (endR xs).map (·.1) ↔ hasR xs "end" p = true := by
  rw [hasR_iff, List.mem_map]
  constructor
  · rintro ⟨y, hy, rfl⟩
    obtain ⟨⟨w, a⟩, hx, e⟩ := List.mem_filterMap.mp hy
    refine ⟨_, hx, ?_⟩
    cases w with
    | fin p t => cases e; exact ⟨rfl, rfl⟩
    | _ => cases e
  · rintro ⟨⟨w, a⟩, hx, e1, e2⟩
    cases w with
    | fin p t => exact ⟨(p, t), List.mem_filterMap.mpr ⟨_, hx, rfl⟩, e2⟩
    | _ => exact absurd e1 (by simp only [Rw.wd]; decide +kernel)
theorem find_no {α : Type} {k : α → Pa} {xs : List α} {p : Pa} : (xs.find? fun x => decide (k x = p)) = none ↔ p ∉ xs.map k := by
  rw [List.find?_eq_none]
  constructor
  · intro h hm
    obtain ⟨x, hx, e⟩ := List.mem_map.mp hm
    exact h x hx (decide_eq_true e)
  · intro h x hx e
    exact h (List.mem_map.mpr ⟨x, hx, of_decide_eq_true e⟩)
theorem noEnd_has (xs : List RA) (p : Pa) : noEnd (endR xs) p = !hasR xs "end" p := by
  unfold noEnd endOf
  cases e : hasR xs "end" p with
  | true =>
    have := end_mem.mpr e
    cases e2 : (endR xs).find? fun x => decide (x.1 = p) with
    | none => exact absurd this (find_no.mp e2)
    | some y => rfl
  | false =>
    have : p ∉ (endR xs).map (·.1) := fun z => by rw [end_mem.mp z] at e; cases e
    rw [find_no.mpr this]
    rfl
theorem noRd_has (xs : List RA) (p : Pa) : (rdOf (rdyR xs) p).isNone = !hasR xs "ready" p := by
  unfold rdOf
  cases e : hasR xs "ready" p with
  | true =>
    have := rdy_mem.mpr e
    cases e2 : (rdyR xs).find? fun x => decide (x.1 = p) with
    | none => exact absurd this (find_no.mp e2)
    | some y => rfl
  | false =>
    have : p ∉ (rdyR xs).map (·.1) := fun z => by rw [rdy_mem.mp z] at e; cases e
    rw [find_no.mpr this]
    rfl
theorem LK.lost {xs : List RA} {d : Sd} (h : LK xs d) (p : Pa) : p ∈ lostD d ↔ ∃ x, x ∈ xs ∧ lz xs x = true ∧ x.1.nm = p := by
  unfold lostD
  rw [h.bg, h.wk, h.rd, h.en, List.mem_append, List.mem_filter, List.mem_filter, beg_mem, wrk_mem, noEnd_has, noRd_has]
  constructor
  · rintro (⟨h1, h2⟩ | ⟨h1, h2⟩)
    · obtain ⟨x, hx, e1, e2⟩ := hasR_iff.mp h1
      refine ⟨x, hx, ?_, e2⟩
      unfold lz
      rw [e2, h2, decide_eq_true e1]
      rfl
    · obtain ⟨x, hx, e1, e2⟩ := hasR_iff.mp h1
      refine ⟨x, hx, ?_, e2⟩
      rw [Bool.and_eq_true] at h2
      unfold lz
      rw [e2, h2.1, h2.2, decide_eq_true e1, Bool.true_and, Bool.true_and, Bool.or_true]
  · rintro ⟨x, hx, e, rfl⟩
    unfold lz at e
    rw [Bool.and_eq_true, Bool.or_eq_true, Bool.and_eq_true, decide_eq_true_eq, decide_eq_true_eq] at e
    rcases e.2 with e1 | e1
    · exact .inl ⟨hasR_iff.mpr ⟨x, hx, e1, rfl⟩, e.1⟩
    · exact .inr ⟨hasR_iff.mpr ⟨x, hx, e1.1, rfl⟩, by rw [e1.2, e.1]; rfl⟩
theorem bnd (f : Pa → Bool) : ∀ ys : List RA, ((rdyR ys).filter fun x => f x.1).map (fun x => V.ref x.2.1) = rV (ys.filter fun x => decide (x.1.wd = "ready") && f x.1.nm)
  | [] => rfl
  | (w, a) :: ys => by
    have ih := bnd f ys
    have no : ∀ {w : Rw}, w.wd ≠ "ready" → rV (((w, a) :: ys).filter fun x => decide (x.1.wd = "ready") && f x.1.nm) = rV (ys.filter fun x => decide (x.1.wd = "ready") && f x.1.nm) := fun {w} h => by
      rw [List.filter_cons, decide_eq_false h]
      rfl
    cases w with
    | ready p ch =>
      show (((p, a, ch) :: rdyR ys).filter fun x => f x.1).map (fun x => V.ref x.2.1) = _
      rw [List.filter_cons, List.filter_cons]
      show (if f p = true then _ else _ : List (Pa × Addr × List Pa)).map _ = rV (if (decide (("ready" : Str) = "ready") && f p) = true then _ else _)
      rw [decide_eq_true rfl, Bool.true_and]
      cases f p with
      | true =>
        show V.ref a :: ((rdyR ys).filter fun x => f x.1).map (fun x => V.ref x.2.1) = V.ref a :: rV (ys.filter fun x => decide (x.1.wd = "ready") && f x.1.nm)
        rw [ih]
      | false => exact ih
    | _ => rw [no (by simp only [Rw.wd]; decide +kernel)]; exact ih
def txt : Rw → Str
  | .beg _ t => t
  | _ => ""
theorem beg_flt : ∀ ys : List RA, begR ys = (ys.filter fun (x : RA) => decide (x.1.wd = ("begin" : Str))).map fun (x : RA) => (x.1.nm, txt x.1)
  | [] => rfl
  | (w, a) :: ys => by
    have ih := beg_flt ys
    have no : ∀ {w : Rw}, w.wd ≠ "begin" → (((w, a) :: ys).filter fun (x : RA) => decide (x.1.wd = ("begin" : Str))) = ys.filter fun (x : RA) => decide (x.1.wd = ("begin" : Str)) := fun {w} h => by
      rw [List.filter_cons, decide_eq_false h]
      rfl
    cases w with
    | beg p t =>
      show (p, t) :: begR ys = _
      rw [List.filter_cons]
      show _ = (if decide (("begin" : Str) = "begin") = true then _ else _ : List RA).map _
      rw [decide_eq_true rfl, if_pos rfl, ih]
      rfl
    | _ => rw [no (by simp only [Rw.wd]; decide +kernel)]; exact ih
theorem rV_of {xs : List RA} {ys : List V} (h : Paired (fun (x : RA) (v : V) => v = V.ref x.2) xs ys) : ys = rV xs := by
  induction h with
  | nil => rfl
  | cons r _ ih => rw [ih, r]; rfl
/-! ### right -/
def GP (K : PySem.W.Frag) (H : Hp) (l b : Addr) : Prop := ∃ us us2, H l = some (.lst us) ∧ H b = some (.lst us2) ∧ us.length ≤ 900 ∧ (∀ u ∈ us, Pl K H 3 u) ∧
  ((us = us2 ∧ ∀ x ∈ us, ∃ r, x = V.ref r) ∨ (∃ ns, Paired (cPa.rp K H) ns us ∧ Paired (cPa.rp K H) ns us2) ∨ ∃ es, Paired (cPS.rp K H) es us ∧ Paired (cPS.rp K H) es us2)
theorem GP.to {H H' : Hp} {l b : Addr} (h : GP K H l b) (el : H' l = H l) (eb : H' b = H b) (t : TSame H H') : GP K H' l b := by
  obtain ⟨us, us2, h1, h2, h3, h4, h5⟩ := h
  refine ⟨us, us2, by rw [el]; exact h1, by rw [eb]; exact h2, h3, fun u hu => (h4 u hu).keep t, ?_⟩
  rcases h5 with h5 | ⟨ns, p1, p2⟩ | ⟨es, p1, p2⟩
  · exact .inl h5
  · exact .inr (.inl ⟨ns, Paired.mapP p1 fun _ _ z => cPa.keep t z, Paired.mapP p2 fun _ _ z => cPa.keep t z⟩)
  · exact .inr (.inr ⟨es, Paired.mapP p1 fun _ _ z => cPS.keep t z, Paired.mapP p2 fun _ _ z => cPS.keep t z⟩)
def uR (K : PySem.W.Frag) : TS := fun D σ H => ∃ y0 y1 y2 y3 l b, σ = [y0, y1, y2, y3, some (.ref l), some (.ref b)] ∧ GP K H l b ∧ ∀ H', Kp l H H' → D.nx σ H'
def uR2 : TS := fun D σ H => ∃ y0 y1 y2 y3 l b us, σ = [y0, y1, y2, y3, some (.ref l), some (.ref b)] ∧ H l = some (.lst us) ∧ ∀ H', Kp l H H' → D.nx σ H'
theorem last_at {us : List V} (h : us ≠ []) : us[us.length - 1]? = some (us.getLast h) := by
  rw [← List.getLast?_eq_getElem?, List.getLast?_eq_some_getLast h]
theorem none_of {H H' : Hp} {l : Addr} (s : Same H H') (h : H' l = none) : H l = none := by
  cases e : H l with
  | none => rfl
  | some u => rw [s _ _ e] at h; cases h
def spRight (CS : Addr) (K : PySem.W.Frag) : Sp := fun vs H Q _ => ∃ S d q xs, vs = [.ref (S : Ad).l, .ref q] ∧ St CS K H S d ∧ RsAt K H q xs ∧ xs.length ≤ 31 ∧ LK xs d ∧ d.Small 31 ∧ ∀ H', Same H H' → Q (.bl true) H'
theorem pl_rows {H : Hp} {xs : List RA} (h : ∀ x ∈ xs, RowOk K H x) (ft : RA → Bool) : ∀ u ∈ rV (xs.filter ft), Pl K H 3 u := fun u hu => by
  obtain ⟨x, hx, rfl⟩ := List.mem_map.mp hu
  exact (h x (List.mem_filter.mp hx).1).2
theorem pl_pd {α : Type} {R : α → V → Prop} {H : Hp} {xs : List α} {us : List V} (h : Paired R xs us) (g : ∀ x u, R x u → Pl K H 3 u) : ∀ u ∈ us, Pl K H 3 u := by
  induction h with
  | nil => exact fun u hu => nomatch hu
  | cons r _ ih => exact fun u hu => (List.mem_cons.mp hu).elim (fun e => e ▸ g _ _ r) (ih u)
end
end K33

set_option maxHeartbeats 4000000
namespace K33
open PySem L2 Lo
section
variable {P : Program} {w : World} {K : PySem.W.Frag} {mg : Str → Option Value} {base : Heap} {f CS : Addr} {fd : FuncData}
theorem srtP_len {xs : List Pa} (n : xs.Nodup) : (srtBy ltP xs).length = xs.length := by
  by_cases h0 : 1 ≤ xs.length
  · exact (srt_ok ltP_tri ltP_tr n h0).1.length_eq
  · have e1 : xs = [] := List.length_eq_zero_iff.mp (by omega)
    rw [e1]
    rfl
theorem ok_right (F : Fun K "_law_right" "_law_right" s__law_right f fd) (B : TxB mg) (D : TxD K CS) (GH : GF P w K mg base CX0 1 "_law_has" ["_law_rows", "_law_word", "_law_name_here"] (spHas K))
    (GP' : GF P w K mg base CX0 5 "_law_plain" ["_law_found"] (spPlain K 4)) (GLL : GF P w K mg base CX0 2 "_law_lost" ["_law_rows"] (spLostL K))
    (GB : GM P w K mg base CX0 1 CS "bound" ["self"] (spBound CS K)) (GL : GM P w K mg base CX0 1 CS "lost" ["self"] (spLost CS K)) (GG : GM P w K mg base CX0 1 CS "begun" ["self"] (spBegun CS K)) :
    FnOk P w K mg base CX0 6 f fd ["_law_stand", "_law_rows"] (spRight CS K) := by
  refine F.ok sc__law_right (fun vs H Q E h => ?_) (fun cdv A outer s H vs Q E hr h => ?_)
  · obtain ⟨S, d, q, xs, rfl, _⟩ := h
    rfl
  obtain ⟨S, d, q, xs, rfl, st, hn, hl, lk, sm, qr⟩ := h
  have nd := sc__law_right.nd
  refine ⟨_, pss_cons (ps_lcset (iy := 2) sb__law_right_0 rfl (pi_list (pv 1)) (fun _ _ _ _ => pts_one (PW.pt (pw_and (pt_cmpR op_eq (pe_ix (r := rIxT K) ix_tup (pv 0) pe_int (fun _ _ => rfl)) pe_str (nomark _)) (pw_and1 (pt_not (pt_val (pc GH hr (pa_cons (pv 1) (pa_cons pe_str (pa_cons (pe_ix (r := rIxT K) ix_tup (pv 0) pe_int (fun _ _ => rfl)) pa_nil))))))))))
      (fun _ _ _ _ => pv 0) nd rfl (Or.inl rfl))
    (pss_cons (ps_lcset (iy := 3) sb__law_right_1 rfl (pi_list (pv 1)) (fun _ _ _ _ => pts_one (pt_cmpR op_eq (pe_ix (r := rIxT K) ix_tup (pv 0) pe_int (fun _ _ => rfl)) pe_str (nomark _)))
      (fun _ _ _ _ => pe_tup (pa_cons (pe_ix (r := rIxT K) ix_tup (pv 0) pe_int (fun _ _ => rfl)) (pa_cons (pe_ix (r := rIxT K) ix_tup (pv 0) pe_int (fun _ _ => rfl)) pa_nil))) nd rfl (Or.inl rfl))
    (pss_cons (ps_for PassesOwn.never rfl (pi_list (pe_lst (pa_cons (pe_tup (pa_cons (pm0 GB (pv 0) D.cl hr) (pa_cons (pv 2) pa_nil))) (pa_cons (pe_tup (pa_cons (pm0 GL (pv 0) D.cl hr) (pa_cons (pc GLL hr (pa_cons (pv 1) pa_nil)) pa_nil))) (pa_cons (pe_tup (pa_cons (pm0 GG (pv 0) D.cl hr) (pa_cons (pv 3) pa_nil))) pa_nil)))))
        (pg_tup rfl (pgs_cons (pg_name (i := 4) nd rfl (Or.inl rfl)) (pgs_cons (pg_name (i := 5) nd rfl (Or.inl rfl)) pgs_nil)))
      (pss_weak (uR K) (pss_cons (ps_if (PW.pt (pw_or (pt_not (pt_val (pe_callB call_isinst rfl B.isi PyProof.Rows.boot_isinstance (pa_cons (pv 4) (pa_cons (pe_bltn (v := .ty "list") rfl B.list PyProof.Rows.boot_list rfl) pa_nil)))))
          (pw_or (pt_not (pt_val (pe_callB (call_all_bl rfl) rfl B.all PyProof.Rows.boot_all (pa_cons (pe_lc sb__law_right_2 rfl (pi_list (pv 4)) (fun _ _ _ _ => pts_nil) (fun _ _ _ _ => pc GP' hr (pa_cons (pv 0) pa_nil))) pa_nil))))
          (pw_or1 (pt_cmpR (op_neA (hun (c := 3) hr)) (pv 4) (pv 5) (nomark _)))))) pss_never pss_nil)
        (pss_weak uR2 (pss_one (ps_if (pt_cmpR (op_neNil (Nat.lt_of_succ_lt (hun1 hr))) (pv 4) (pe_lst pa_nil) (nomark _)) (pss_one (ps_expr (pe_bm0 PySem.F.plainAttrs_list PySem.F.slot_list_pop PySem.F.type_list_pop mt_pop (pv 4)))) pss_nil)) ?vS)) ?vR))
    (pss_one (ps_ret pe_bl)))), ?_⟩
  case vS =>
    rintro D0 σ H ⟨y0, y1, y2, y3, l, b, us, rfl, h1, nx⟩
    refine ⟨_, rfl, (by show 0 ≤ sizeLine; decide), fun e0 he0 => ?_⟩
    have s1 := same_new (o := .lst []) he0
    refine ⟨l, e0, us, rfl, rfl, SqL.of (s1 _ _ h1), SqL.of upd_same, _, rfl, ?_⟩
    by_cases en : us = []
    · exact ite2 (fun c => absurd en (by simpa using c)) (fun _ => nx _ (Kp.of s1))
    · refine ite2 (fun _ => ?_) (fun c => absurd (by simpa using en) c)
      exact ⟨_, rfl, .inl ⟨rfl, _, SqL.of (s1 _ _ h1)⟩, l, us, _, rfl, rfl, s1 _ _ h1, last_at en, nx _ ((Kp.of s1).trans kp_upd)⟩
  case vR =>
    rintro D0 σ H ⟨y0, y1, y2, y3, l, b, rfl, ⟨us, us2, h1, h2, h9, hpl, alt⟩, nx⟩
    have hs : (900 : Nat) ≤ sizeLine := by decide
    refine ⟨_, rfl, _, _, _, _, rfl, TyOf.lst h1, kit_ll, _, rfl, iteF ?_⟩
    refine ⟨_, rfl, l, rfl, ⟨us, SqL.of h1⟩, ?_⟩
    refine lc_list (xs := us) (fun i ys H1 => Same H H1 ∧ ys = List.replicate i (V.bl true)) ⟨Same.refl _, rfl⟩ (by omega) (fun i ys H1 _ z => SqL.of (z.1 _ _ h1)) ?_ ?_
    · rintro i u ys H1 hu ⟨s1, rfl⟩
      refine tAllT ⟨_, rfl, u, rfl, (hpl u (List.mem_of_getElem? hu)).keep s1.ts, fun H2 s2 => ⟨s1.trans s2, ?_⟩⟩
      rw [List.replicate_succ']
    · rintro ys H1 ⟨s1, rfl⟩ p hp
      refine ⟨p, List.replicate us.length true, rfl, ?_, ?_⟩
      · rw [List.map_replicate]
        exact SqL.of upd_same
      rw [all_true]
      refine ⟨_, rfl, iteF ?_⟩
      have s2 := s1.trans (same_new (o := .lst (List.replicate us.length (V.bl true))) hp)
      generalize (upd H1 p (HO.lst (List.replicate us.length (V.bl true)))) = H2 at s2 ⊢
      have fin : uR2 D0 [y0, y1, y2, y3, some (.ref l), some (.ref b)] H2 := ⟨y0, y1, y2, y3, l, b, us, rfl, s2 _ _ h1, fun H' k => nx _ ((Kp.of s2).trans k)⟩
      refine ⟨_, rfl, _, rfl, ?_⟩
      rcases alt with ⟨e, hrf⟩ | ⟨ns, p1, p2⟩ | ⟨es, p1, p2⟩
      · subst e
        exact .inl ⟨l, b, us, rfl, rfl, SqL.of (s2 _ _ h1), SqL.of (s2 _ _ h2), hrf, _, rfl, iteF fin⟩
      · refine .inr (.inl ⟨ns, ns, ⟨l, us, rfl, SqL.of (s2 _ _ h1), Paired.mapP p1 fun _ _ z => cPa.keep s2.ts z⟩, ⟨b, us2, rfl, SqL.of (s2 _ _ h2), Paired.mapP p2 fun _ _ z => cPa.keep s2.ts z⟩, ?_⟩)
        rw [decT rfl]
        exact ⟨_, rfl, iteF fin⟩
      · refine .inr (.inr ⟨es, es, ⟨l, us, rfl, SqL.of (s2 _ _ h1), Paired.mapP p1 fun _ _ z => cPS.keep s2.ts z⟩, ⟨b, us2, rfl, SqL.of (s2 _ _ h2), Paired.mapP p2 fun _ _ z => cPS.keep s2.ts z⟩, ?_⟩)
        rw [decT rfl]
        exact ⟨_, rfl, iteF fin⟩
  have h9 : (900 : Nat) ≤ sizeLine := by decide
  refine ⟨_, rfl, q, rfl, ⟨_, SqL.of hn.1⟩, ?_⟩
  refine lc_gen (α := RA) (R0 := fun _ x v => v = V.ref x.2) (fun _ _ _ _ _ z => z) (rV_pd xs) hn.1 (by rw [len_rV]; omega) (fun x => decide (x.1.wd = "ready") && !hasR xs "end" x.1.nm) (fun _ x v => v = V.ref x.2) (fun _ _ _ _ _ z => z) (fun x u H2 Q hx e2 s2 h => ?_) (fun x u H2 Q hx _ e2 s2 h => ?_) (fun ys H1 s1 py bl hbl => ?_)
  · obtain ⟨⟨pv0, us, hrow, hpv, _⟩, _⟩ := (hn.2 x hx).keep s2.ts
    rw [e2]
    refine ⟨_, rfl, x.2, _, _, _, rfl, rfl, SqT.of hrow, at0, rfl, _, rfl, ?_⟩
    by_cases e1 : x.1.wd = "ready"
    · refine ite2 (fun _ => ?_) (fun c => (c (decT (congrArg V.str e1))).elim)
      refine ⟨_, rfl, _, rfl, x.2, _, _, _, rfl, rfl, SqT.of hrow, at1, q, xs, _, pv0, x.1.nm, rfl, hn.keep s2, by omega, hpv, fun H3 s3 => ⟨_, rfl, ?_⟩⟩
      have := h H3 s3
      rw [decide_eq_true e1, Bool.true_and] at this
      exact this
    · refine ite2 (fun c => absurd (V.str.inj (decO c)) e1) (fun _ => ?_)
      have := h H2 (Same.refl _)
      rw [decide_eq_false e1, Bool.false_and] at this
      exact this
  · rw [e2]
    exact ⟨_, rfl, h _ H2 (Same.refl _) rfl⟩
  have ey := rV_of py
  subst ey
  have s2 := s1.trans (same_new (o := .lst (rV (xs.filter fun x => decide (x.1.wd = "ready") && !hasR xs "end" x.1.nm))) hbl)
  have hb2 : (upd H1 bl (.lst (rV (xs.filter fun x => decide (x.1.wd = "ready") && !hasR xs "end" x.1.nm)))) bl = some (.lst (rV (xs.filter fun x => decide (x.1.wd = "ready") && !hasR xs "end" x.1.nm))) := upd_same
  generalize (upd H1 bl (.lst (rV (xs.filter fun x => decide (x.1.wd = "ready") && !hasR xs "end" x.1.nm)))) = H2 at s2 hb2 ⊢
  have hn2 := hn.keep s2
  refine ⟨_, rfl, q, rfl, ⟨_, SqL.of hn2.1⟩, ?_⟩
  refine lc_gen (α := RA) (R0 := fun _ x v => v = V.ref x.2) (fun _ _ _ _ _ z => z) (rV_pd xs) hn2.1 (by rw [len_rV]; omega) (fun x => decide (x.1.wd = "begin")) (fun H x v => cPS.rp K H (x.1.nm, txt x.1) v) (fun _ _ _ _ e z => cPS.keep e.ts z) (fun x u H3 Q hx e2 s3 h => ?_) (fun x u H3 Q hx ft e2 s3 h => ?_) (fun ys H3 s3 py bg hbg => ?_)
  · obtain ⟨⟨pv0, us, hrow, hpv, _⟩, _⟩ := (hn2.2 x hx).keep s3.ts
    rw [e2]
    refine ⟨_, rfl, x.2, _, _, _, rfl, rfl, SqT.of hrow, at0, rfl, _, rfl, ?_⟩
    have := h H3 (Same.refl _)
    by_cases e1 : x.1.wd = "begin"
    · rw [decide_eq_true e1] at this
      rw [decT (congrArg V.str e1)]
      exact this
    · rw [decide_eq_false e1] at this
      rw [str_no e1]
      exact this
  · obtain ⟨⟨pv0, us, hrow, ⟨pb, rfl, hpb⟩, hm⟩, _⟩ := (hn2.2 x hx).keep s3.ts
    rw [e2]
    obtain ⟨w, r⟩ := x
    cases w with
    | beg p t =>
      have hm' : us = [.str t] := hm
      subst hm'
      refine ⟨_, rfl, r, _, _, _, rfl, rfl, SqT.of hrow, at1, _, rfl, r, _, _, _, rfl, rfl, SqT.of hrow, at2, (by show 2 ≤ sizeLine; decide), fun tt ht => ?_⟩
      have s4 := same_new (o := .tup [.ref pb, .str t]) ht
      exact h _ _ s4 (sPB.c (K := K) (x := (p, t)) ⟨tt, pb, rfl, upd_same, s4 _ _ hpb⟩)
    | _ => exact absurd (of_decide_eq_true ft) (by simp only [Rw.wd]; decide +kernel)
  have s4' := same_new (o := .lst ys) hbg
  have s4 := s3.trans s4'
  have py4 : Paired (cPS.rp K (upd H3 bg (.lst ys))) (begR xs) ys := by
    rw [beg_flt]
    exact Paired.mapP (pd_map (R := cPS.rp K H3) py) fun _ _ z => cPS.keep s4'.ts z
  have hg4 : (upd H3 bg (.lst ys)) bg = some (.lst ys) := upd_same
  generalize (upd H3 bg (HO.lst ys)) = H4 at s4 py4 hg4 ⊢
  have s04 := s2.trans s4
  have st4 := st.keep s04
  have hn4 := hn.keep s04
  have hb4 := s4 _ _ hb2
  have nlS := sf_no (A := S) (m := "bound") (by decide +kernel)
  have nlS2 := sf_no (A := S) (m := "lost") (by decide +kernel)
  have nlS3 := sf_no (A := S) (m := "begun") (by decide +kernel)
  have l64 : (lostD d).length ≤ 62 := by
    unfold lostD
    have a1 := List.length_filter_le (fun p => noEnd d.ends p) (d.begins.map (·.1))
    have a2 := List.length_filter_le (fun p => (rdOf d.ready p).isNone && noEnd d.ends p) d.worked
    have a3 := sm.bg
    have a4 := sm.wk
    rw [List.length_map] at a1
    rw [List.length_append]
    omega
  refine ⟨_, rfl, S.l, S.dx, _, rfl, st4.ins, nlS, S, d, rfl, st4, lk.nd, fun l1 H5 s5 hl1 e5 => ?_⟩
  refine ⟨_, rfl, (by show 2 ≤ sizeLine; decide), fun t1 ht1 => ?_⟩
  have s6' := same_new (o := .tup [.ref l1, .ref bl]) ht1
  have s6 := s5.trans s6'
  have k1 : (upd H5 t1 (.tup [.ref l1, .ref bl])) t1 = some (.tup [.ref l1, .ref bl]) := upd_same
  have e6 := s6' _ _ e5
  generalize (upd H5 t1 (HO.tup [.ref l1, .ref bl])) = H6 at s6 k1 e6 ⊢
  have st6 := st4.keep s6
  refine ⟨_, rfl, S.l, S.dx, _, rfl, st6.ins, nlS2, S, d, rfl, st6, by omega, (by have := sm.bg; omega), fun l2 ns2 us2 H7 s7 hl2 e7 p7 nd7 m7 => ?_⟩
  have hn7 := hn4.keep (s6.trans s7)
  refine ⟨_, rfl, q, xs, rfl, hn7, by omega, fun b2 ns3 us3 H8 s8 hb8 e8 p8 li8 => ?_⟩
  refine ⟨(by show 2 ≤ sizeLine; decide), fun t2 ht2 => ?_⟩
  have s9' := same_new (o := .tup [.ref l2, .ref b2]) ht2
  have s9 := s7.trans (s8.trans s9')
  have k2 : (upd H8 t2 (.tup [.ref l2, .ref b2])) t2 = some (.tup [.ref l2, .ref b2]) := upd_same
  have e9 := s9' _ _ e8
  have e9l := s9' _ _ (s8 _ _ e7)
  have p9 := Paired.mapP p8 fun _ _ z => z.keep s9'.ts
  have p9l := Paired.mapP p7 fun _ _ z => z.keep (s8.trans s9').ts
  have hb9 : H6 b2 = none := none_of s7 hb8
  have nb2 : b2 ≠ l2 := fun z => by rw [z, e7] at hb8; cases hb8
  generalize (upd H8 t2 (HO.tup [.ref l2, .ref b2])) = H9 at s9 k2 e9 e9l p9 p9l ⊢
  have st9 := st6.keep s9
  refine ⟨_, rfl, S.l, S.dx, _, rfl, st9.ins, nlS3, S, d, rfl, st9, fun l3 us4 H10 s10 hl3 e10 p10 => ?_⟩
  refine ⟨_, rfl, (by show 2 ≤ sizeLine; decide), fun t3 ht3 => ?_⟩
  have s11' := same_new (o := .tup [.ref l3, .ref bg]) ht3
  have k3 : (upd H10 t3 (.tup [.ref l3, .ref bg])) t3 = some (.tup [.ref l3, .ref bg]) := upd_same
  have s11 := s10.trans s11'
  have e11 := s11' _ _ e10
  have p11 := Paired.mapP p10 fun _ _ z => cPS.keep s11'.ts z
  generalize (upd H10 t3 (HO.tup [.ref l3, .ref bg])) = H11 at s11 k3 e11 p11 ⊢
  refine ⟨(by show 3 ≤ sizeLine; decide), fun o ho => ?_⟩
  have s12' := same_new (o := .lst [.ref t1, .ref t2, .ref t3]) ho
  have ko : (upd H11 o (.lst [.ref t1, .ref t2, .ref t3])) o = some (.lst [.ref t1, .ref t2, .ref t3]) := upd_same
  have no1 : H11 o = none := ho
  generalize (upd H11 o (HO.lst [.ref t1, .ref t2, .ref t3])) = H12 at s12' ko ⊢
  refine ⟨o, rfl, ⟨_, SqL.of ko⟩, ?_⟩
  -- all at the last heap
  have sE : Same H9 H12 := s11.trans s12'
  have sD : Same H6 H12 := s9.trans sE
  have sC : Same H4 H12 := s6.trans sD
  have f1 := sD _ _ k1
  have f2 := sE _ _ k2
  have f3 := s12' _ _ k3
  have g1 := sD _ _ e6
  have g2 := sE _ _ e9l
  have g3 := s12' _ _ e11
  have gb1 := sC _ _ hb4
  have gb2 := sE _ _ e9
  have gb3 := sC _ _ hg4
  have hn12 := hn4.keep sC
  have q9 := Paired.mapP p9 fun _ _ z => z.keep sE.ts
  have q9l := Paired.mapP p9l fun _ _ z => z.keep sE.ts
  have q11 := Paired.mapP p11 fun _ _ z => cPS.keep s12'.ts z
  have q4 := Paired.mapP py4 fun _ _ z => cPS.keep sC.ts z
  have n12 : l1 ≠ l2 := ne_of_none e6 hl2
  have n13 : l1 ≠ l3 := ne_of_none (s9 _ _ e6) hl3
  have n23 : l2 ≠ l3 := ne_of_none e9l hl3
  have nb1 : bl ≠ l1 ∧ bl ≠ l2 ∧ bl ≠ l3 := ⟨ne_of_none hb4 hl1, ne_of_none (s6 _ _ hb4) hl2, ne_of_none (s9 _ _ (s6 _ _ hb4)) hl3⟩
  have nb3 : bg ≠ l1 ∧ bg ≠ l2 ∧ bg ≠ l3 := ⟨ne_of_none hg4 hl1, ne_of_none (s6 _ _ hg4) hl2, ne_of_none (s9 _ _ (s6 _ _ hg4)) hl3⟩
  have nb2' : b2 ≠ l1 ∧ b2 ≠ l2 ∧ b2 ≠ l3 := ⟨Ne.symm (ne_of_none e6 hb9), nb2, ne_of_none e9 hl3⟩
  have no' : o ≠ l1 ∧ o ≠ l2 ∧ o ≠ l3 := ⟨Ne.symm (ne_of_none (s11 _ _ (s9 _ _ e6)) no1), Ne.symm (ne_of_none (s11 _ _ e9l) no1), Ne.symm (ne_of_none e11 no1)⟩
  have z1 : H l1 = none := none_of s04 hl1
  have z2 : H l2 = none := none_of (s04.trans s6) hl2
  have z3 : H l3 = none := none_of (s04.trans (s6.trans s9)) hl3
  have P1 : GP K H12 l1 bl := by
    have eb : ((d.ready.filter fun x => noEnd d.ends x.1).map fun x => V.ref x.2.1) = rV (xs.filter fun x => decide (x.1.wd = "ready") && !hasR xs "end" x.1.nm) := by
      rw [lk.rd, lk.en, show (fun x : Pa × Addr × List Pa => noEnd (endR xs) x.1) = (fun x => (fun p => !hasR xs "end" p) x.1) from funext fun x => noEnd_has xs x.1]
      exact bnd (fun p => !hasR xs "end" p) xs
    rw [eb] at g1
    have lf := List.length_filter_le (fun x : RA => decide (x.1.wd = "ready") && !hasR xs "end" x.1.nm) xs
    exact ⟨_, _, g1, gb1, by rw [len_rV]; omega, pl_rows hn12.2 _, .inl ⟨rfl, rV_refs _⟩⟩
  have P2 : GP K H12 l2 b2 := by
    have es : srtBy ltP ns3 = srtBy ltP ns2 := srt_same li8.1 nd7 fun p => (li8.2 p).trans ((m7 p).trans (lk.lost p)).symm
    rw [es] at q9
    have ln : ns2.length ≤ (lostD d).length := List.Nodup.length_le_of_subset nd7 fun n hn => (m7 n).mp hn
    refine ⟨_, _, g2, gb2, ?_, pl_pd q9l fun x u z => Pl.nm z, .inr (.inl ⟨_, Paired.mapP q9l fun _ _ z => z.c, Paired.mapP q9 fun _ _ z => z.c⟩)⟩
    rw [← q9l.len, srtP_len nd7]
    omega
  have P3 : GP K H12 l3 bg := by
    rw [lk.bg] at q11
    refine ⟨_, _, g3, gb3, ?_, pl_pd q11 fun x u z => Pl.ps z, .inr (.inr ⟨_, q11, q4⟩)⟩
    rw [← q11.len, ← lk.bg]
    have := sm.bg
    omega
  refine for_list (xs := [.ref t1, .ref t2, .ref t3]) (fun i σ H' => ∃ y4 y5, σ = [some (.ref S.l), some (.ref q), some (.ref bl), some (.ref bg), y4, y5] ∧ (∀ b u, b ≠ l1 → b ≠ l2 → b ≠ l3 → H12 b = some u → H' b = some u) ∧ (i ≤ 0 → H' l1 = H12 l1) ∧ (i ≤ 1 → H' l2 = H12 l2) ∧ (i ≤ 2 → H' l3 = H12 l3))
    ⟨none, none, rfl, fun _ _ _ _ _ e => e, fun _ => rfl, fun _ => rfl, fun _ => rfl⟩ (fun i σ H' _ z => by obtain ⟨_, _, _, k, _⟩ := z; exact SqL.of (k _ _ no'.1 no'.2.1 no'.2.2 ko)) ?_ ?_
  · rintro i x σ H' hx ⟨y4, y5, rfl, k, c1, c2, c3⟩
    have ts : TSame H12 H' := fun b ys e => k b _ (fun z => by rw [z, g1] at e; cases e) (fun z => by rw [z, g2] at e; cases e) (fun z => by rw [z, g3] at e; cases e) e
    have eb : ∀ {b : Addr} {us : List V}, H12 b = some (.lst us) → b ≠ l1 ∧ b ≠ l2 ∧ b ≠ l3 → H' b = H12 b := fun e n => by rw [e]; exact k _ _ n.1 n.2.1 n.2.2 e
    match i, hx with
    | 0, hx =>
      cases (Option.some.inj hx)
      refine ⟨t1, _, rfl, SqT.of (ts _ _ f1), rfl, _, _, rfl, _, _, rfl, rfl, ?_⟩
      refine ⟨_, _, _, _, l1, bl, rfl, P1.to (c1 (Nat.le_refl _)) (eb gb1 nb1) ts, fun H2' kp => ⟨_, _, rfl, fun b u m1 m2 m3 e => kp _ _ m1 (k _ _ m1 m2 m3 e), fun z => absurd z (by decide), fun z => ?_, fun z => ?_⟩⟩
      · rw [g2]; exact kp _ _ (Ne.symm n12) (by rw [c2 (by decide), g2])
      · rw [g3]; exact kp _ _ (Ne.symm n13) (by rw [c3 (by decide), g3])
    | 1, hx =>
      cases (Option.some.inj hx)
      refine ⟨t2, _, rfl, SqT.of (ts _ _ f2), rfl, _, _, rfl, _, _, rfl, rfl, ?_⟩
      refine ⟨_, _, _, _, l2, b2, rfl, P2.to (c2 (Nat.le_refl _)) (eb gb2 nb2') ts, fun H2' kp => ⟨_, _, rfl, fun b u m1 m2 m3 e => kp _ _ m2 (k _ _ m1 m2 m3 e), fun z => absurd z (by decide), fun z => absurd z (by decide), fun z => ?_⟩⟩
      rw [g3]; exact kp _ _ (Ne.symm n23) (by rw [c3 (by decide), g3])
    | 2, hx =>
      cases (Option.some.inj hx)
      refine ⟨t3, _, rfl, SqT.of (ts _ _ f3), rfl, _, _, rfl, _, _, rfl, rfl, ?_⟩
      exact ⟨_, _, _, _, l3, bg, rfl, P3.to (c3 (Nat.le_refl _)) (eb gb3 nb3) ts, fun H2' kp => ⟨_, _, rfl, fun b u m1 m2 m3 e => kp _ _ m3 (k _ _ m1 m2 m3 e), fun z => absurd z (by decide), fun z => absurd z (by decide), fun z => absurd z (by decide)⟩⟩
  · rintro σ H' ⟨y4, y5, rfl, k, _⟩
    refine qr H' fun b u e => ?_
    exact k _ _ (ne_of_none e z1) (ne_of_none e z2) (ne_of_none e z3) (sC _ _ (s04 _ _ e))
end
end K33

set_option maxHeartbeats 4000000
namespace K33
open PySem L2 Lo
section
variable {P : Program} {w : World} {K : PySem.W.Frag} {mg : Str → Option Value} {base : Heap} {f CS : Addr} {fd : FuncData}
/-! ### the law -/
theorem cut30 (ns : List Int) : ∃ cs : List Int, cutV (ns.map V.int) none (some 30) = cs.map V.int ∧ cs.length ≤ 30 := by
  refine ⟨ns.take 30, ?_, by rw [List.length_take]; omega⟩
  unfold cutV
  have e : HT.sIx (ns.map V.int).length (ns.map V.int).length (some 30) = min 30 (ns.map V.int).length := HT.sIx_nat _ _ 30
  rw [HT.sIx_none, e, List.drop_zero, Nat.sub_zero, List.map_take]
  by_cases h : 30 ≤ (ns.map V.int).length
  · rw [Nat.min_eq_left h]
  · rw [Nat.min_eq_right (by omega), List.take_length, List.take_of_length_le (by omega)]
theorem LK.fits {xs : List RA} {d : Sd} (h : LK xs d) (hc : d.cells.length = 2) {w : Rw} (ok : Ok33 xs w) : d.fits w := by
  refine ⟨fun c hm => ?_, fun p ch e => ?_⟩
  · cases w with
    | fin p o =>
      have hm' : c ∈ (if o = "done" then ((rdOf d.ready p).map fun x => x.2.2).getD [] else []) := hm
      split at hm'
      · cases e : rdOf d.ready p with
        | none => rw [e] at hm'; cases hm'
        | some x =>
          rw [e] at hm'
          have z := h.ch x (List.mem_of_find?_eq_some e) c hm'
          rw [z, hc]
          decide
      · cases hm'
    | walk p j ch => exact ok.elim
    | undo p j ch => exact ok.elim
    | _ => cases hm
  · subst e
    have z := noRd_has xs p
    rw [ok.1, ← h.rd] at z
    exact Option.isNone_iff_eq_none.mp z
theorem LK.next {xs : List RA} {d : Sd} (h : LK xs d) {w : Rw} (ok : Ok33 xs w) (r b : Addr) : LK (xs ++ [(w, r)]) (d.keep r b w) := by
  have eb : begR (xs ++ [(w, r)]) = begR xs ++ begR [(w, r)] := List.filterMap_append
  have ew : wrkR (xs ++ [(w, r)]) = wrkR xs ++ wrkR [(w, r)] := List.filterMap_append
  have er : rdyR (xs ++ [(w, r)]) = rdyR xs ++ rdyR [(w, r)] := List.filterMap_append
  have ee : endR (xs ++ [(w, r)]) = endR xs ++ endR [(w, r)] := List.filterMap_append
  cases w with
  | beg p t => exact ⟨by rw [eb, ← h.bg]; rfl, by rw [ew, ← h.wk]; exact (List.append_nil _).symm, by rw [er, ← h.rd]; exact (List.append_nil _).symm, by rw [ee, ← h.en]; exact (List.append_nil _).symm, h.nd, h.ch⟩
  | work p =>
    refine ⟨by rw [eb, ← h.bg]; exact (List.append_nil _).symm, ?_, by rw [er, ← h.rd]; exact (List.append_nil _).symm, by rw [ee, ← h.en]; exact (List.append_nil _).symm, h.nd, h.ch⟩
    have n : p ∉ d.worked := fun z => by
      rw [h.wk] at z
      have := wrk_mem.mp z
      rw [show hasR xs "work" p = false from ok] at this
      cases this
    rw [ew, ← h.wk]
    show addP d.worked p = d.worked ++ [p]
    unfold addP
    rw [if_neg n]
  | ready p ch =>
    have n : p ∉ d.ready.map (·.1) := fun z => by
      rw [h.rd] at z
      have := rdy_mem.mp z
      rw [ok.1] at this
      cases this
    refine ⟨by rw [eb, ← h.bg]; exact (List.append_nil _).symm, by rw [ew, ← h.wk]; exact (List.append_nil _).symm, by rw [er, ← h.rd]; rfl, by rw [ee, ← h.en]; exact (List.append_nil _).symm, ?_, fun x hx => ?_⟩
    · show ((d.ready ++ [(p, r, ch)]).map (·.1)).Nodup
      rw [List.map_append, List.nodup_append]
      refine ⟨h.nd, by simp, fun x hx y hy e => ?_⟩
      have hy' : y = p := by simpa using hy
      exact n (by rw [← hy', ← e]; exact hx)
    · rcases List.mem_append.mp (show x ∈ d.ready ++ [(p, r, ch)] from hx) with hx | hx
      · exact h.ch x hx
      · rw [List.mem_singleton.mp hx]
        exact ok.2
  | fin p o =>
    refine ⟨by rw [eb, ← h.bg]; exact (List.append_nil _).symm, by rw [ew, ← h.wk]; exact (List.append_nil _).symm, by rw [er, ← h.rd]; exact (List.append_nil _).symm, ?_, h.nd, h.ch⟩
    have z := noEnd_has xs p
    rw [show hasR xs "end" p = false from ok, ← h.en] at z
    have n : endOf d.ends p = none := Option.isNone_iff_eq_none.mp z
    rw [ee, ← h.en]
    show setE d.ends p o = d.ends ++ [(p, o)]
    unfold setE
    rw [n]
    rfl
  | over p => exact ok.elim
  | walk p j ch => exact ok.elim
  | undo p j ch => exact ok.elim
  | void p j => exact ok.elim
structure J33 (CS : Addr) (K : PySem.W.Frag) (S : Ad) (q sl : Addr) (cs : List Int) (d : Sd) (xs : List RA) (i : Nat) (H : Hp) : Prop where
  st : St CS K H S d
  rs : RsAt K H q xs
  sc : H sl = some (.lst (cs.map V.int))
  n1 : q ∉ S.own
  n3 : sl ∉ S.own
  n4 : sl ≠ q
  lk : LK xs d
  len : xs.length = i
  sm : d.Small i
  cl : d.cells.length = 2
theorem J33.keep {S : Ad} {q sl : Addr} {cs : List Int} {d : Sd} {xs : List RA} {i : Nat} {H H' : Hp} (h : J33 CS K S q sl cs d xs i H) (e : Same H H') : J33 CS K S q sl cs d xs i H' :=
  ⟨h.st.keep e, h.rs.keep e, e _ _ h.sc, h.n1, h.n3, h.n4, h.lk, h.len, h.sm, h.cl⟩
theorem ok_law (F : Fun K "law" "law" s_law f fd) (B : TxB mg) (mE : mg "enumerate" = none) (D : TxD K CS) {fSI : Addr} {dSI : FuncData} (MS : Mk K CS fSI) (mgS : mg "Stand" = some (.ref CS))
    (GSI : FnOk P w K mg base CX0 1 fSI dSI ["self", "cells"] (spSInit CS K)) (bSI : Binds K dSI ["self", "cells"] []) (GA : GF P w K mg base CX0 1 "_law_cell_at" ["_law_script", "_law_k"] (spCell K))
    (GR : GF P w K mg base CX0 2 "_law_row" ["_law_number", "_law_k", "_law_rows"] (spRow K)) (GT : GF P w K mg base CX0 6 "_law_right" ["_law_stand", "_law_rows"] (spRight CS K))
    (GK : GM P w K mg base CX0 2 CS "keep" ["self", "row"] (spKeep CS K)) :
    FnOk P w K mg base CX0 7 f fd ["_law_script"] (spLaw K) := by
  refine F.ok sc_law (fun vs H Q E h => ?_) (fun cdv A outer s H vs Q E hr h => ?_)
  · obtain ⟨a, ns, rfl, _⟩ := h
    rfl
  obtain ⟨a, ns, rfl, hS, hl, q⟩ := h
  have nd := sc_law.nd
  have hr1 : Room (1 + 1) _ := hr.mono (by decide)
  refine ⟨_, pss_cons (ps_set (i := 1) nd rfl (Or.inl rfl) (pe_make MS GSI hr1 rfl mgS bSI .nil pass0 (pa_cons (pe_lst (pa_cons (pe_op op_mod (pc GA hr (pa_cons (pv 0) (pa_cons pe_int pa_nil))) pe_int) (pa_cons pe_int pa_nil))) pa_nil)))
    (pss_cons (ps_set (i := 2) nd rfl (Or.inl rfl) (pe_lst pa_nil))
    (pss_cons (ps_for PassesOwn.never rfl (pi_enum rfl mE (pa_cons (pe_slice sl_list (pv 0) po_none (po_some pe_int)) pa_nil)) (pg_tup rfl (pgs_cons (pg_name (i := 3) nd rfl (Or.inl rfl)) (pgs_cons (pg_name (i := 4) nd rfl (Or.inl rfl)) pgs_nil)))
      (pss_cons (ps_set (i := 5) nd rfl (Or.inl rfl) (pc GR hr (pa_cons (pv 4) (pa_cons (pv 3) (pa_cons (pv 2) pa_nil)))))
      (pss_cons (ps_expr (pe_bm PySem.F.plainAttrs_list PySem.F.slot_list_append PySem.F.type_list_append mt_append (pv 2) (pa_cons (pv 5) pa_nil)))
      (pss_cons (ps_expr (pm GK (pv 1) D.cl hr (pa_cons (pv 5) pa_nil)))
      (pss_one (ps_if (PW.pt (pw_or (pt_not (pt_val (pc GT hr (pa_cons (pv 1) (pa_cons (pv 2) pa_nil))))) (pw_or1 (pt_not (pt_val (pc GT hr (pa_cons (pv 1) (pa_cons (pv 2) pa_nil)))))))) pss_never pss_nil))))))
    (pss_one (ps_ret (pc GT hr (pa_cons (pv 1) (pa_cons (pv 2) pa_nil))))))), ?_⟩
  refine ⟨_, rfl, a, ns, 0, rfl, hS, _, _, rfl, rfl, (by show (0 : Int) < 1000; decide), (by show 2 ≤ sizeLine; decide), fun c hc => ?_⟩
  have s1 := same_new (o := .lst [.int (cellAt ns 0 % 1000), .int 3]) hc
  have hc1 : (upd H c (.lst [.int (cellAt ns 0 % 1000), .int 3])) c = some (.lst ([cellAt ns 0 % 1000, 3].map V.int)) := upd_same
  generalize (upd H c (HO.lst [.int (cellAt ns 0 % 1000), .int 3])) = H1 at s1 hc1 ⊢
  intro x dx nx ndx nex
  refine ⟨x, dx, c, [cellAt ns 0 % 1000, 3], rfl, upd_same, (by rw [upd_ne (ne_of_none hc1 nx), upd_ne (ne_of_none hc1 ndx)]; exact hc1), (by show 2 ≤ 1000; decide), fun S H2 eS st2 fr2 kp2 => ⟨rfl, ?_⟩⟩
  subst eS
  have s2 : Same H1 H2 := fun b' o e => kp2 b' o (ne_of_none e nx) (by rw [upd_ne (ne_of_none e nx), upd_ne (ne_of_none e ndx)]; exact e)
  have notIn : ∀ {H' : Hp} {b : Addr} {d : Sd}, St CS K H' S d → H' b = none → b ∉ S.own := fun {H' b d} st hb hm => by
    obtain ⟨us0, stu⟩ := st
    obtain ⟨o, e, _⟩ := stu.own hm
    rw [hb] at e
    cases e
  refine ⟨(by show 0 ≤ sizeLine; decide), fun rl hrl => ?_⟩
  have s3 := same_new (o := .lst []) hrl
  have n1 := notIn st2 hrl
  have st3 := st2.keep s3
  have hr3 : (upd H2 rl (.lst [])) rl = some (.lst []) := upd_same
  generalize (upd H2 rl (HO.lst [])) = H3 at s3 st3 hr3 ⊢
  have s03 := s1.trans (s2.trans s3)
  refine ⟨_, rfl, _, rfl, a, _, rfl, s03.seq hS, fun sl hsl => ⟨sl, rfl, ⟨_, SqL.of upd_same⟩, ?_⟩⟩
  obtain ⟨cs, ecs, lcs⟩ := cut30 ns
  rw [ecs]
  have s7 := same_new (o := .lst (cs.map V.int)) hsl
  have n3 := notIn st3 hsl
  have j0 : J33 CS K S rl sl cs (Sd.new [cellAt ns 0 % 1000, 3]) [] 0 (upd H3 sl (.lst (cs.map V.int))) :=
    ⟨st3.keep s7, ⟨s7 _ _ hr3, fun x hx => nomatch hx⟩, upd_same, n1, n3, Ne.symm (ne_of_none hr3 hsl), ⟨rfl, rfl, rfl, rfl, List.nodup_nil, fun x hx => nomatch hx⟩, rfl, ⟨Nat.le_refl _, Nat.le_refl _, Nat.le_refl _, Nat.le_refl _, Nat.le_refl _, Nat.le_refl _⟩, rfl⟩
  refine for_enum (xs := cs.map V.int) (fun i σ H' => ∃ y3 y4 y5 d xs, σ = [some (.ref a), some (.ref S.l), some (.ref rl), y3, y4, y5] ∧ J33 CS K S rl sl cs d xs i H')
    ⟨none, none, none, _, [], rfl, j0⟩ (fun i σ H' _ z => by obtain ⟨_, _, _, _, _, _, j⟩ := z; exact SqL.of j.sc) ?_ ?_
  · rintro i u t σ H8 hu ⟨y3, y4, y5, d, xs, rfl, j⟩ ht
    obtain ⟨n, rfl⟩ := int_at hu
    have hi : i < (cs.map V.int).length := (List.getElem?_eq_some_iff.mp hu).1
    rw [List.length_map] at hi
    have s9 := same_new (o := .tup [.int (i : Nat), .int n]) ht
    have h9 : (upd H8 t (.tup [.int (i : Nat), .int n])) t = some (.tup [.int (i : Nat), .int n]) := upd_same
    have j9 := j.keep s9
    generalize (upd H8 t (HO.tup [.int (i : Nat), .int n])) = H9 at s9 h9 j9 ⊢
    refine ⟨t, _, rfl, SqT.of h9, rfl, _, _, rfl, _, _, rfl, rfl, ?_⟩
    have hlen := j9.len
    refine ⟨_, rfl, _, rfl, _, rfl, n, _, rl, xs, rfl, j9.rs, by omega, fun w r H10 s10 hw ok => ?_⟩
    have j10 := j9.keep s10
    refine ⟨_, rfl, .inl ⟨rfl, _, SqL.of j10.rs.1⟩, _, rfl, rl, rV xs, _, rfl, rfl, j10.rs.1, small1000 (by rw [len_rV]; omega), ?_⟩
    have kp : Kp rl H10 (upd H10 rl (.lst (rV xs ++ [.ref r]))) := kp_upd
    have ts := kp_ts kp j10.rs.1
    have st11 := j10.st.kp kp j10.n1 ts (fun z => by have h := j10.st.ins; rw [z, j10.rs.1] at h; cases h)
    have rs11 : RsAt K (upd H10 rl (.lst (rV xs ++ [.ref r]))) rl (xs ++ [(w, r)]) := by
      refine ⟨?_, fun x hx => ?_⟩
      · rw [upd_same]
        unfold rV
        rw [List.map_append]
        rfl
      · rcases List.mem_append.mp hx with hx | hx
        · exact (j10.rs.2 x hx).keep ts
        · rw [List.mem_singleton.mp hx]
          exact hw.keep ts
    have sc11 := kp _ _ j10.n4 j10.sc
    have hw11 := hw.keep ts
    generalize (upd H10 rl (HO.lst (rV xs ++ [.ref r]))) = H11 at st11 rs11 sc11 hw11 ⊢
    refine ⟨_, rfl, S.l, S.dx, _, rfl, st11.ins, sf_no (by decide +kernel), _, rfl, S, d, r, w, rfl, st11, hw11.1, j10.sm.mono (by omega), (by rw [j10.cl]; decide), j10.lk.fits j10.cl ok, fun kb H12 st12 k12 => ?_⟩
    have ts12 := st11.ts k12
    have j12 : J33 CS K S rl sl cs (d.keep r kb w) (xs ++ [(w, r)]) (i + 1) H12 :=
      ⟨st12, ⟨k12 _ _ j10.n1 rs11.1, fun x hx => (rs11.2 x hx).keep ts12⟩, k12 _ _ j10.n3 sc11, j10.n1, j10.n3, j10.n4, j10.lk.next ok r kb, by rw [List.length_append, hlen]; rfl, j10.sm.keep r kb w, by rw [keep_cells, apply_len]; exact j10.cl⟩
    have l12 := j12.len
    refine ⟨_, rfl, _, rfl, S, _, rl, _, rfl, j12.st, j12.rs, by omega, j12.lk, j12.sm.mono (by omega), fun H13 s13 => ⟨_, rfl, iteF ?_⟩⟩
    have j13 := j12.keep s13
    refine ⟨_, rfl, _, rfl, S, _, rl, _, rfl, j13.st, j13.rs, by omega, j13.lk, j13.sm.mono (by omega), fun H14 s14 => ⟨_, rfl, iteF ?_⟩⟩
    exact ⟨_, _, _, _, _, rfl, j13.keep s14⟩
  · rintro σ H8 ⟨y3, y4, y5, d, xs, rfl, j⟩
    have hlen := j.len
    rw [List.length_map] at hlen
    have sm := j.sm
    rw [List.length_map] at sm
    exact ⟨_, rfl, _, rfl, S, d, rl, xs, rfl, j.st, j.rs, by omega, j.lk, sm.mono (by omega), fun H' _ => q H'⟩
end
end K33

set_option maxHeartbeats 4000000
namespace K33
open PySem L2 Lo
theorem all_mk {l : PySem.W.OpenLaw} {w : World} {K : PySem.W.Frag} {h : Heap} {mg : Str → Option Value} {fa CS fSinit fSchangesof fSkeep fSbound fSlost fSbegun fA fN fH fX fR fO fP fT fZ : Addr} (X : K.In h) (G : h.Ns mainGlobals mg) (hfa : mg "law" = some (.ref fa))
    {odSinit anSinit odSchangesof anSchangesof odSkeep anSkeep odSbound anSbound odSlost anSlost odSbegun anSbegun odA anA odN anN odH anH odX anX odR anR odO anO odP anP odT anT odZ anZ : Option Addr} {slSinit slSchangesof slSkeep slSbound slSlost slSbegun slA slN slH slX slR slO slP slT slZ : Array (Option Value)} {ocSinit kVSinit dcSinit pmSinit cdSinit ctSinit ocSchangesof kVSchangesof dcSchangesof pmSchangesof cdSchangesof ctSchangesof ocSkeep kVSkeep dcSkeep pmSkeep cdSkeep ctSkeep ocSbound kVSbound dcSbound pmSbound cdSbound ctSbound ocSlost kVSlost dcSlost pmSlost cdSlost ctSlost ocSbegun kVSbegun dcSbegun pmSbegun cdSbegun ctSbegun ocA kVA dcA pmA cdA ctA ocN kVN dcN pmN cdN ctN ocH kVH dcH pmH cdH ctH ocX kVX dcX pmX cdX ctX ocR kVR dcR pmR cdR ctR ocO kVO dcO pmO cdO ctO ocP kVP dcP pmP cdP ctP ocT kVT dcT pmT cdT ctT ocZ kVZ dcZ pmZ cdZ ctZ : Value}
    (nS : PySem.W.nsIn K mainGlobals "Stand" = some (some (.ref CS)))
    (pgS : PySem.W.plainGet K CS Str.empty = true)
    (hdS : PySem.W.hasDictIn K CS = true)
    (poS : PySem.W.plainOver K CS = true)
    (saS : PySem.W.findIn K (.ref CS) "__setattr__" = some (some (.builtin "object.__setattr__")))
    (mkS : PySem.W.makesIn K CS = true)
    (kcS : PySem.W.keepIn K (.ref CS) = true)
    (qSnc : PySem.W.findIn K (.ref CS) "cells" = some none)
    (qSnb : PySem.W.findIn K (.ref CS) "begins" = some none)
    (qSnw : PySem.W.findIn K (.ref CS) "worked" = some none)
    (qSnr : PySem.W.findIn K (.ref CS) "readies" = some none)
    (qSne : PySem.W.findIn K (.ref CS) "ends" = some none)
    (qSna : PySem.W.findIn K (.ref CS) "walks" = some none)
    (qSno : PySem.W.findIn K (.ref CS) "overs" = some none)
    (aSinit : PySem.W.findIn K (.ref CS) "__init__" = some (some (.ref fSinit)))
    (jSinit : PySem.W.isFn K (.ref fSinit) = true)
    (lSinit : K.lookup fSinit = some ⟨ocSinit, odSinit, .func (PySem.W.fnOf "__init__" "Stand.__init__" (defArgs m_Stand_init) (defBody m_Stand_init) (defScope m_Stand_init) .none kVSinit dcSinit pmSinit anSinit cdSinit ctSinit), slSinit⟩)
    (cSinit : PySem.W.codeIn K cdSinit "Stand.__init__" = true)
    (eSinit : PySem.W.keepIn K (.ref fSinit) = true)
    (aSchangesof : PySem.W.findIn K (.ref CS) "changes_of" = some (some (.ref fSchangesof)))
    (jSchangesof : PySem.W.isFn K (.ref fSchangesof) = true)
    (lSchangesof : K.lookup fSchangesof = some ⟨ocSchangesof, odSchangesof, .func (PySem.W.fnOf "changes_of" "Stand.changes_of" (defArgs m_Stand_changes_of) (defBody m_Stand_changes_of) (defScope m_Stand_changes_of) .none kVSchangesof dcSchangesof pmSchangesof anSchangesof cdSchangesof ctSchangesof), slSchangesof⟩)
    (cSchangesof : PySem.W.codeIn K cdSchangesof "Stand.changes_of" = true)
    (eSchangesof : PySem.W.keepIn K (.ref fSchangesof) = true)
    (aSkeep : PySem.W.findIn K (.ref CS) "keep" = some (some (.ref fSkeep)))
    (jSkeep : PySem.W.isFn K (.ref fSkeep) = true)
    (lSkeep : K.lookup fSkeep = some ⟨ocSkeep, odSkeep, .func (PySem.W.fnOf "keep" "Stand.keep" (defArgs m_Stand_keep) (defBody m_Stand_keep) (defScope m_Stand_keep) .none kVSkeep dcSkeep pmSkeep anSkeep cdSkeep ctSkeep), slSkeep⟩)
    (cSkeep : PySem.W.codeIn K cdSkeep "Stand.keep" = true)
    (eSkeep : PySem.W.keepIn K (.ref fSkeep) = true)
    (aSbound : PySem.W.findIn K (.ref CS) "bound" = some (some (.ref fSbound)))
    (jSbound : PySem.W.isFn K (.ref fSbound) = true)
    (lSbound : K.lookup fSbound = some ⟨ocSbound, odSbound, .func (PySem.W.fnOf "bound" "Stand.bound" (defArgs m_Stand_bound) (defBody m_Stand_bound) (defScope m_Stand_bound) .none kVSbound dcSbound pmSbound anSbound cdSbound ctSbound), slSbound⟩)
    (cSbound : PySem.W.codeIn K cdSbound "Stand.bound" = true)
    (eSbound : PySem.W.keepIn K (.ref fSbound) = true)
    (aSlost : PySem.W.findIn K (.ref CS) "lost" = some (some (.ref fSlost)))
    (jSlost : PySem.W.isFn K (.ref fSlost) = true)
    (lSlost : K.lookup fSlost = some ⟨ocSlost, odSlost, .func (PySem.W.fnOf "lost" "Stand.lost" (defArgs m_Stand_lost) (defBody m_Stand_lost) (defScope m_Stand_lost) .none kVSlost dcSlost pmSlost anSlost cdSlost ctSlost), slSlost⟩)
    (cSlost : PySem.W.codeIn K cdSlost "Stand.lost" = true)
    (eSlost : PySem.W.keepIn K (.ref fSlost) = true)
    (aSbegun : PySem.W.findIn K (.ref CS) "begun" = some (some (.ref fSbegun)))
    (jSbegun : PySem.W.isFn K (.ref fSbegun) = true)
    (lSbegun : K.lookup fSbegun = some ⟨ocSbegun, odSbegun, .func (PySem.W.fnOf "begun" "Stand.begun" (defArgs m_Stand_begun) (defBody m_Stand_begun) (defScope m_Stand_begun) .none kVSbegun dcSbegun pmSbegun anSbegun cdSbegun ctSbegun), slSbegun⟩)
    (cSbegun : PySem.W.codeIn K cdSbegun "Stand.begun" = true)
    (eSbegun : PySem.W.keepIn K (.ref fSbegun) = true)
    (aA : PySem.W.nsIn K mainGlobals "_law_cell_at" = some (some (.ref fA)))
    (lA : K.lookup fA = some ⟨ocA, odA, .func (PySem.W.fnOf "_law_cell_at" "_law_cell_at" (defArgs s__law_cell_at) (defBody s__law_cell_at) (defScope s__law_cell_at) .none kVA dcA pmA anA cdA ctA), slA⟩)
    (cA : PySem.W.codeIn K cdA "_law_cell_at" = true)
    (eA : PySem.W.keepIn K (.ref fA) = true)
    (aN : PySem.W.nsIn K mainGlobals "_law_name" = some (some (.ref fN)))
    (lN : K.lookup fN = some ⟨ocN, odN, .func (PySem.W.fnOf "_law_name" "_law_name" (defArgs s__law_name) (defBody s__law_name) (defScope s__law_name) .none kVN dcN pmN anN cdN ctN), slN⟩)
    (cN : PySem.W.codeIn K cdN "_law_name" = true)
    (eN : PySem.W.keepIn K (.ref fN) = true)
    (aH : PySem.W.nsIn K mainGlobals "_law_has" = some (some (.ref fH)))
    (lH : K.lookup fH = some ⟨ocH, odH, .func (PySem.W.fnOf "_law_has" "_law_has" (defArgs s__law_has) (defBody s__law_has) (defScope s__law_has) .none kVH dcH pmH anH cdH ctH), slH⟩)
    (cH : PySem.W.codeIn K cdH "_law_has" = true)
    (eH : PySem.W.keepIn K (.ref fH) = true)
    (aX : PySem.W.nsIn K mainGlobals "_law_texts" = some (some (.ref fX)))
    (lX : K.lookup fX = some ⟨ocX, odX, .func (PySem.W.fnOf "_law_texts" "_law_texts" (defArgs s__law_texts) (defBody s__law_texts) (defScope s__law_texts) .none kVX dcX pmX anX cdX ctX), slX⟩)
    (cX : PySem.W.codeIn K cdX "_law_texts" = true)
    (eX : PySem.W.keepIn K (.ref fX) = true)
    (aR : PySem.W.nsIn K mainGlobals "_law_row" = some (some (.ref fR)))
    (lR : K.lookup fR = some ⟨ocR, odR, .func (PySem.W.fnOf "_law_row" "_law_row" (defArgs s__law_row) (defBody s__law_row) (defScope s__law_row) .none kVR dcR pmR anR cdR ctR), slR⟩)
    (cR : PySem.W.codeIn K cdR "_law_row" = true)
    (eR : PySem.W.keepIn K (.ref fR) = true)
    (aO : PySem.W.nsIn K mainGlobals "_law_lost" = some (some (.ref fO)))
    (lO : K.lookup fO = some ⟨ocO, odO, .func (PySem.W.fnOf "_law_lost" "_law_lost" (defArgs s__law_lost) (defBody s__law_lost) (defScope s__law_lost) .none kVO dcO pmO anO cdO ctO), slO⟩)
    (cO : PySem.W.codeIn K cdO "_law_lost" = true)
    (eO : PySem.W.keepIn K (.ref fO) = true)
    (aP : PySem.W.nsIn K mainGlobals "_law_plain" = some (some (.ref fP)))
    (lP : K.lookup fP = some ⟨ocP, odP, .func (PySem.W.fnOf "_law_plain" "_law_plain" (defArgs s__law_plain) (defBody s__law_plain) (defScope s__law_plain) .none kVP dcP pmP anP cdP ctP), slP⟩)
    (cP : PySem.W.codeIn K cdP "_law_plain" = true)
    (eP : PySem.W.keepIn K (.ref fP) = true)
    (aT : PySem.W.nsIn K mainGlobals "_law_right" = some (some (.ref fT)))
    (lT : K.lookup fT = some ⟨ocT, odT, .func (PySem.W.fnOf "_law_right" "_law_right" (defArgs s__law_right) (defBody s__law_right) (defScope s__law_right) .none kVT dcT pmT anT cdT ctT), slT⟩)
    (cT : PySem.W.codeIn K cdT "_law_right" = true)
    (eT : PySem.W.keepIn K (.ref fT) = true)
    (aZ : PySem.W.nsIn K mainGlobals "law" = some (some (.ref fZ)))
    (lZ : K.lookup fZ = some ⟨ocZ, odZ, .func (PySem.W.fnOf "law" "law" (defArgs s_law) (defBody s_law) (defScope s_law) .none kVZ dcZ pmZ anZ cdZ ctZ), slZ⟩)
    (cZ : PySem.W.codeIn K cdZ "law" = true)
    (eZ : PySem.W.keepIn K (.ref fZ) = true)
    (y_isinstance : PySem.W.nsIn K mainGlobals "isinstance" = some none)
    (y_int : PySem.W.nsIn K mainGlobals "int" = some none)
    (y_bool : PySem.W.nsIn K mainGlobals "bool" = some none)
    (y_str : PySem.W.nsIn K mainGlobals "str" = some none)
    (y_len : PySem.W.nsIn K mainGlobals "len" = some none)
    (y_range : PySem.W.nsIn K mainGlobals "range" = some none)
    (y_tuple : PySem.W.nsIn K mainGlobals "tuple" = some none)
    (y_list : PySem.W.nsIn K mainGlobals "list" = some none)
    (y_any : PySem.W.nsIn K mainGlobals "any" = some none)
    (y_all : PySem.W.nsIn K mainGlobals "all" = some none)
    (y_max : PySem.W.nsIn K mainGlobals "max" = some none)
    (y_sorted : PySem.W.nsIn K mainGlobals "sorted" = some none)
    (y_enumerate : PySem.W.nsIn K mainGlobals "enumerate" = some none)
    (y_set : PySem.W.nsIn K mainGlobals "set" = some none) :
    ∃ fd : FuncData, (∀ (s : Shared) (v : Value), BindsTo s fd ⟨[v], []⟩ [("_law_script", v)]) ∧ ∀ base : Heap, K.In base → base.Ns mainGlobals mg → FnOk l.prog w K mg base CX0 7 fa fd ["_law_script"] (spLaw K) := by
  have e := hfa.symm.trans (PySem.W.mg_of X G aZ)
  cases e
  have B : TxB mg := ⟨PySem.W.mg_none_of X G y_isinstance, PySem.W.mg_none_of X G y_int, PySem.W.mg_none_of X G y_bool, PySem.W.mg_none_of X G y_str, PySem.W.mg_none_of X G y_len, PySem.W.mg_none_of X G y_range, PySem.W.mg_none_of X G y_tuple, PySem.W.mg_none_of X G y_list, PySem.W.mg_none_of X G y_any, PySem.W.mg_none_of X G y_all, PySem.W.mg_none_of X G y_max, PySem.W.mg_none_of X G y_sorted⟩
  have mE : mg "enumerate" = none := PySem.W.mg_none_of X G y_enumerate
  have mSet : mg "set" = none := PySem.W.mg_none_of X G y_set
  have D : TxD K CS := ⟨⟨pgS, hdS, poS, saS⟩, qSnc, qSnb, qSnw, qSnr, qSne, qSna, qSno⟩
  have MS : L2.Mk K CS fSinit := ⟨mkS, aSinit, jSinit, kcS⟩
  have mgS : mg "Stand" = some (.ref CS) := PySem.W.mg_of X G nS
  have FSinit := fun_mk (st := m_Stand_init) lSinit cSinit eSinit
  have bSinit := FSinit.binds (ps := ["self", "cells"]) fun _ _ _ _ _ _ us hl => match us, hl with | [_, _], _ => rfl
  have FSchangesof := fun_mk (st := m_Stand_changes_of) lSchangesof cSchangesof eSchangesof
  have bSchangesof := FSchangesof.binds (ps := ["self", "row"]) fun _ _ _ _ _ _ us hl => match us, hl with | [_, _], _ => rfl
  have FSkeep := fun_mk (st := m_Stand_keep) lSkeep cSkeep eSkeep
  have bSkeep := FSkeep.binds (ps := ["self", "row"]) fun _ _ _ _ _ _ us hl => match us, hl with | [_, _], _ => rfl
  have FSbound := fun_mk (st := m_Stand_bound) lSbound cSbound eSbound
  have bSbound := FSbound.binds (ps := ["self"]) fun _ _ _ _ _ _ us hl => match us, hl with | [_], _ => rfl
  have FSlost := fun_mk (st := m_Stand_lost) lSlost cSlost eSlost
  have bSlost := FSlost.binds (ps := ["self"]) fun _ _ _ _ _ _ us hl => match us, hl with | [_], _ => rfl
  have FSbegun := fun_mk (st := m_Stand_begun) lSbegun cSbegun eSbegun
  have bSbegun := FSbegun.binds (ps := ["self"]) fun _ _ _ _ _ _ us hl => match us, hl with | [_], _ => rfl
  have FA := fun_mk (st := s__law_cell_at) lA cA eA
  have bA := FA.binds (ps := ["_law_script", "_law_k"]) fun _ _ _ _ _ _ us hl => match us, hl with | [_, _], _ => rfl
  have mA_ : mg "_law_cell_at" = some (.ref fA) := PySem.W.mg_of X G aA
  have FN := fun_mk (st := s__law_name) lN cN eN
  have bN := FN.binds (ps := ["_law_number", "_law_k", "_law_rows"]) fun _ _ _ _ _ _ us hl => match us, hl with | [_, _, _], _ => rfl
  have mN_ : mg "_law_name" = some (.ref fN) := PySem.W.mg_of X G aN
  have FH := fun_mk (st := s__law_has) lH cH eH
  have bH := FH.binds (ps := ["_law_rows", "_law_word", "_law_name_here"]) fun _ _ _ _ _ _ us hl => match us, hl with | [_, _, _], _ => rfl
  have mH_ : mg "_law_has" = some (.ref fH) := PySem.W.mg_of X G aH
  have FX := fun_mk (st := s__law_texts) lX cX eX
  have bX := FX.binds (ps := []) fun _ _ _ _ _ _ us hl => match us, hl with | [], _ => rfl
  have mX_ : mg "_law_texts" = some (.ref fX) := PySem.W.mg_of X G aX
  have FR := fun_mk (st := s__law_row) lR cR eR
  have bR := FR.binds (ps := ["_law_number", "_law_k", "_law_rows"]) fun _ _ _ _ _ _ us hl => match us, hl with | [_, _, _], _ => rfl
  have mR_ : mg "_law_row" = some (.ref fR) := PySem.W.mg_of X G aR
  have FO := fun_mk (st := s__law_lost) lO cO eO
  have bO := FO.binds (ps := ["_law_rows"]) fun _ _ _ _ _ _ us hl => match us, hl with | [_], _ => rfl
  have mO_ : mg "_law_lost" = some (.ref fO) := PySem.W.mg_of X G aO
  have FP := fun_mk (st := s__law_plain) lP cP eP
  have bP := FP.binds (ps := ["_law_found"]) fun _ _ _ _ _ _ us hl => match us, hl with | [_], _ => rfl
  have mP_ : mg "_law_plain" = some (.ref fP) := PySem.W.mg_of X G aP
  have FT := fun_mk (st := s__law_right) lT cT eT
  have bT := FT.binds (ps := ["_law_stand", "_law_rows"]) fun _ _ _ _ _ _ us hl => match us, hl with | [_, _], _ => rfl
  have mT_ : mg "_law_right" = some (.ref fT) := PySem.W.mg_of X G aT
  have FZ := fun_mk (st := s_law) lZ cZ eZ
  refine ⟨PySem.W.fnOf "law" "law" (defArgs s_law) (defBody s_law) (defScope s_law) .none kVZ dcZ pmZ anZ cdZ ctZ, fun s v => .of_eq rfl, fun base _ _ => ?_⟩
  have GA : GF l.prog w K mg base CX0 1 "_law_cell_at" ["_law_script", "_law_k"] (spCell K) := ⟨fA, _, ok_cell FA B, bA, eA, mA_⟩
  have GSchangesof : GM l.prog w K mg base CX0 1 CS "changes_of" ["self", "row"] (spChg CS K) := ⟨fSchangesof, _, ok_chg FSchangesof D, bSchangesof, ⟨aSchangesof, jSchangesof, eSchangesof⟩⟩
  have GSkeep : GM l.prog w K mg base CX0 2 CS "keep" ["self", "row"] (spKeep CS K) := ⟨fSkeep, _, ok_keep FSkeep D GSchangesof, bSkeep, ⟨aSkeep, jSkeep, eSkeep⟩⟩
  have GSbound : GM l.prog w K mg base CX0 1 CS "bound" ["self"] (spBound CS K) := ⟨fSbound, _, ok_bound FSbound D, bSbound, ⟨aSbound, jSbound, eSbound⟩⟩
  have GSlost : GM l.prog w K mg base CX0 1 CS "lost" ["self"] (spLost CS K) := ⟨fSlost, _, ok_lost FSlost B mSet D, bSlost, ⟨aSlost, jSlost, eSlost⟩⟩
  have GSbegun : GM l.prog w K mg base CX0 1 CS "begun" ["self"] (spBegun CS K) := ⟨fSbegun, _, ok_begun FSbegun B D, bSbegun, ⟨aSbegun, jSbegun, eSbegun⟩⟩
  have GSI := ok_sinit (P := l.prog) (w := w) (mg := mg) (base := base) FSinit B D
  have GN : GF l.prog w K mg base CX0 1 "_law_name" ["_law_number", "_law_k", "_law_rows"] (spName K) := ⟨fN, _, ok_name FN, bN, eN, mN_⟩
  have GH : GF l.prog w K mg base CX0 1 "_law_has" ["_law_rows", "_law_word", "_law_name_here"] (spHas K) := ⟨fH, _, ok_has FH, bH, eH, mH_⟩
  have GX : GF l.prog w K mg base CX0 1 "_law_texts" [] spTx := ⟨fX, _, ok_texts FX, bX, eX, mX_⟩
  have GR : GF l.prog w K mg base CX0 2 "_law_row" ["_law_number", "_law_k", "_law_rows"] (spRow K) := ⟨fR, _, ok_row FR B GN GH GX, bR, eR, mR_⟩
  have GO : GF l.prog w K mg base CX0 2 "_law_lost" ["_law_rows"] (spLostL K) := ⟨fO, _, ok_lostL FO B GH, bO, eO, mO_⟩
  have GP0 : GF l.prog w K mg base CX0 1 "_law_plain" ["_law_found"] (spPlain K 0) := ⟨fP, _, ok_plain0 FP, bP, eP, mP_⟩
  have GP1 : GF l.prog w K mg base CX0 2 "_law_plain" ["_law_found"] (spPlain K 1) := ⟨fP, _, ok_plain FP B GP0, bP, eP, mP_⟩
  have GP2 : GF l.prog w K mg base CX0 3 "_law_plain" ["_law_found"] (spPlain K 2) := ⟨fP, _, ok_plain FP B GP1, bP, eP, mP_⟩
  have GP3 : GF l.prog w K mg base CX0 4 "_law_plain" ["_law_found"] (spPlain K 3) := ⟨fP, _, ok_plain FP B GP2, bP, eP, mP_⟩
  have GP4 : GF l.prog w K mg base CX0 5 "_law_plain" ["_law_found"] (spPlain K 4) := ⟨fP, _, ok_plain FP B GP3, bP, eP, mP_⟩
  have GT : GF l.prog w K mg base CX0 6 "_law_right" ["_law_stand", "_law_rows"] (spRight CS K) := ⟨fT, _, ok_right FT B D GH GP4 GO GSbound GSlost GSbegun, bT, eT, mT_⟩
  exact ok_law FZ B mE D MS mgS GSI bSinit GA GR GT GSkeep
theorem walk {l : PySem.W.OpenLaw} {q : Program} {loose : List Str} {XP : (Str → Option Value) → Heap → Prop} {YP : World → Heap → Prop} {d : DefRec} {K : Params → PySem.W.Frag} (hn : l.most = some 63) (hdf : d.params.defaults = [])
    (hY : ∀ (w : World) (h : Heap), YP w h → (K w.params).In h)
    (F : ∀ (w : World) (mg : Str → Option Value) (fa : Addr) (h : Heap), (K w.params).In h → h.Ns mainGlobals mg → mg d.name = some (.ref fa) →
      ∃ fd : FuncData, (∀ (s : Shared) (u : Value), BindsTo s fd ⟨[u], []⟩ [("_law_script", u)]) ∧ ∀ base : Heap, (K w.params).In base → base.Ns mainGlobals mg → FnOk l.prog w (K w.params) mg base CX0 7 fa fd ["_law_script"] (spLaw (K w.params))) :
    PySem.W.WalkO q loose XP YP l.row.toRowW d [] (fun f vs => PySem.call f vs) :=
  L2.walk_of (n := 63) (k := 7) (x := "_law_script") (CX := fun _ => CX0) (sp := fun w => spLaw (K w.params)) hn (by decide) hdf ⟨rfl, by decide, by decide⟩ hY F (fun _ _ a ns hl _ hS => ⟨a, ns, rfl, hS, hl, fun _ => rfl⟩) fun _ _ _ _ _ z => z
end K33
open PySem PySem.W PyProof.Rows
set_option maxRecDepth 100000 in
set_option maxHeartbeats 0 in
theorem PySem.Challenge.cw_pactroom_k33_bound_and_lost_holds : PySem.Challenge.rw_pactroom_k33_bound_and_lost.Holds := by
  w_on; o_law; k_head; (case hw => w_witness2)
  k_fill
  refine K33.walk (l := PySem.Challenge.rw_pactroom_k33_bound_and_lost) rfl rfl (fun w h Y => PySem.W.kIn_of Y) ?F
  case F =>
    intro w mg fa h KX G hmg
    refine' K33.all_mk KX G hmg ?nS ?pgS ?hdS ?poS ?saS ?mkS ?kcS ?qSnc ?qSnb ?qSnw ?qSnr ?qSne ?qSna ?qSno ?aSinit ?jSinit ?lSinit ?cSinit ?eSinit ?aSchangesof ?jSchangesof ?lSchangesof ?cSchangesof ?eSchangesof ?aSkeep ?jSkeep ?lSkeep ?cSkeep ?eSkeep ?aSbound ?jSbound ?lSbound ?cSbound ?eSbound ?aSlost ?jSlost ?lSlost ?cSlost ?eSlost ?aSbegun ?jSbegun ?lSbegun ?cSbegun ?eSbegun ?aA ?lA ?cA ?eA ?aN ?lN ?cN ?eN ?aH ?lH ?cH ?eH ?aX ?lX ?cX ?eX ?aR ?lR ?cR ?eR ?aO ?lO ?cO ?eO ?aP ?lP ?cP ?eP ?aT ?lT ?cT ?eT ?aZ ?lZ ?cZ ?eZ ?y_isinstance ?y_int ?y_bool ?y_str ?y_len ?y_range ?y_tuple ?y_list ?y_any ?y_all ?y_max ?y_sorted ?y_enumerate ?y_set
    (case nS => k_is)
    (case pgS => k_is)
    (case hdS => k_is)
    (case poS => k_is)
    (case saS => k_is)
    (case mkS => k_is)
    (case kcS => k_is)
    (case qSnc => k_is)
    (case qSnb => k_is)
    (case qSnw => k_is)
    (case qSnr => k_is)
    (case qSne => k_is)
    (case qSna => k_is)
    (case qSno => k_is)
    (case aSinit => k_is)
    (case jSinit => k_is)
    (case lSinit => k_is)
    (case cSinit => k_is)
    (case eSinit => k_is)
    (case aSchangesof => k_is)
    (case jSchangesof => k_is)
    (case lSchangesof => k_is)
    (case cSchangesof => k_is)
    (case eSchangesof => k_is)
    (case aSkeep => k_is)
    (case jSkeep => k_is)
    (case lSkeep => k_is)
    (case cSkeep => k_is)
    (case eSkeep => k_is)
    (case aSbound => k_is)
    (case jSbound => k_is)
    (case lSbound => k_is)
    (case cSbound => k_is)
    (case eSbound => k_is)
    (case aSlost => k_is)
    (case jSlost => k_is)
    (case lSlost => k_is)
    (case cSlost => k_is)
    (case eSlost => k_is)
    (case aSbegun => k_is)
    (case jSbegun => k_is)
    (case lSbegun => k_is)
    (case cSbegun => k_is)
    (case eSbegun => k_is)
    (case aA => k_is)
    (case lA => k_is)
    (case cA => k_is)
    (case eA => k_is)
    (case aN => k_is)
    (case lN => k_is)
    (case cN => k_is)
    (case eN => k_is)
    (case aH => k_is)
    (case lH => k_is)
    (case cH => k_is)
    (case eH => k_is)
    (case aX => k_is)
    (case lX => k_is)
    (case cX => k_is)
    (case eX => k_is)
    (case aR => k_is)
    (case lR => k_is)
    (case cR => k_is)
    (case eR => k_is)
    (case aO => k_is)
    (case lO => k_is)
    (case cO => k_is)
    (case eO => k_is)
    (case aP => k_is)
    (case lP => k_is)
    (case cP => k_is)
    (case eP => k_is)
    (case aT => k_is)
    (case lT => k_is)
    (case cT => k_is)
    (case eT => k_is)
    (case aZ => k_is)
    (case lZ => k_is)
    (case cZ => k_is)
    (case eZ => k_is)
    (case y_isinstance => k_is)
    (case y_int => k_is)
    (case y_bool => k_is)
    (case y_str => k_is)
    (case y_len => k_is)
    (case y_range => k_is)
    (case y_tuple => k_is)
    (case y_list => k_is)
    (case y_any => k_is)
    (case y_all => k_is)
    (case y_max => k_is)
    (case y_sorted => k_is)
    (case y_enumerate => k_is)
    (case y_set => k_is)
#print axioms PySem.Challenge.cw_pactroom_k33_bound_and_lost_holds

