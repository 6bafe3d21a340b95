import PyProof.Rows.All
import Wide.All
import OpenK.AllK
import Wide.FinOn
import Lean
import PyProof.EqAt
import PyProof.EqKinds
import PyProof.TupleCall
import KE.KLam
import KE.KMinKey
import KE.KRevSl
import PySem.Challenge.RW_pactroom_k61_links_of_a_chase
set_option Elab.async false
set_option linter.all false
set_option maxRecDepth 100000
/-! THE HAND LAYER, for ints, bools, texts, own classes, LISTS and tuples (index, slices, in, append, pop ..), calls, loops. Paste it whole ahead of your own text; what your proof does not reach may be deleted. -/
namespace L2
open PySem PySem.Spec PyProof.Rows

/-- a key: an int or a str -/
abbrev Key := Sum Int Str
def keyIs : Key → Value → Bool
  | .inl k, v => Value.isInt k v
  | .inr x, v => Value.isStrOf x v
def keyH (w : World) : Key → Int
  | .inl k => hashInt k
  | .inr x => hashStr w x
theorem keyIs_shape : ∀ {k : Key} {v : Value}, keyIs k v = true → (∃ i t, k = Sum.inl i ∧ v = Value.int i t) ∨ (∃ x t, k = Sum.inr x ∧ v = Value.str x t)
  | .inl i, v, h => by
    obtain ⟨t, e⟩ := Value.isInt_shape (k := i) (v := v) h
    exact .inl ⟨i, t, rfl, e⟩
  | .inr x, v, h => by
    obtain ⟨t, e⟩ := Value.isStrOf_shape (x := x) (v := v) h
    exact .inr ⟨x, t, rfl, e⟩
theorem key_ll (a b : Int) : decide ((Sum.inl a : Key) = Sum.inl b) = (a == b) := by
  by_cases e : a = b
  · subst e; simp
  · have h : ¬ (Sum.inl a : Key) = Sum.inl b := fun q => e (Sum.inl.inj q)
    rw [decide_eq_false h]
    exact (beq_eq_false_iff_ne.mpr e).symm
theorem key_rr (a b : Str) : decide ((Sum.inr a : Key) = Sum.inr b) = decide (a = b) := by
  by_cases e : a = b
  · subst e; simp
  · have h : ¬ (Sum.inr a : Key) = Sum.inr b := fun q => e (Sum.inr.inj q)
    rw [decide_eq_false h, decide_eq_false e]
theorem key_lr (a : Int) (b : Str) : decide ((Sum.inl a : Key) = Sum.inr b) = false := decide_eq_false (fun q => nomatch q)
theorem key_rl (a : Str) (b : Int) : decide ((Sum.inr a : Key) = Sum.inl b) = false := decide_eq_false (fun q => nomatch q)

def mixKind (prog : Program) (w : World) : PySem.KeyKind prog w Key where
  is := keyIs
  hash := keyH w
  inj := fun v a b ha hb => by
    rcases keyIs_shape ha with ⟨i, t, rfl, rfl⟩ | ⟨x, t, rfl, rfl⟩
    · rcases keyIs_shape hb with ⟨j, u, rfl, e⟩ | ⟨y, u, rfl, e⟩
      · injection e with e1 _; rw [e1]
      · exact nomatch e
    · rcases keyIs_shape hb with ⟨j, u, rfl, e⟩ | ⟨y, u, rfl, e⟩
      · exact nomatch e
      · injection e with e1 _; rw [e1]
  byValue := fun k v h => by
    rcases keyIs_shape h with ⟨i, t, rfl, rfl⟩ | ⟨x, t, rfl, rfl⟩ <;> rfl
  pyHash := fun hv h => by
    rcases keyIs_shape hv with ⟨i, t, rfl, rfl⟩ | ⟨x, t, rfl, rfl⟩
    · exact wpAny_pyHash_int h
    · exact wpAny_pyHash_str h
  eqBool := fun hu hv h => by
    rcases keyIs_shape hu with ⟨i, t, rfl, rfl⟩ | ⟨x, t, rfl, rfl⟩
    · rcases keyIs_shape hv with ⟨j, u, rfl, rfl⟩ | ⟨y, u, rfl, rfl⟩
      · rw [key_ll] at h; exact wpAny_eqBool_int h
      · rw [key_lr] at h; exact SeqAt.EqAt.int_str i t y u _ _ _ _ h
    · rcases keyIs_shape hv with ⟨j, u, rfl, rfl⟩ | ⟨y, u, rfl, rfl⟩
      · rw [key_rl] at h; exact SeqAt.EqAt.str_int x t j u _ _ _ _ h
      · rw [key_rr] at h; exact wpAny_eqBool_str h
  «strs» := fun k x t v h => by
    rcases keyIs_shape h with ⟨i, u, rfl, e⟩ | ⟨y, u, rfl, e⟩
    · exact nomatch e
    · injection e with e1 _
      subst e1
      cases v <;> rfl

end L2

namespace L2
open PySem PySem.Spec PyProof.Rows

/-- a value, without the heap -/
inductive V where
  | non | bl (b : Bool) | int (i : Int) | str (x : Str) | byt (b : Array UInt8) | flt (b : UInt64) | ref (a : Addr) | ty (n : String)
  deriving DecidableEq

def RelV : V → Value → Prop
  | .non, u => u = Value.none
  | .bl b, u => u = Value.bool b
  | .int i, u => ∃ t, u = Value.int i t
  | .str x, u => ∃ t, u = Value.str x t
  | .byt b, u => ∃ t, u = Value.bytes b t
  | .flt b, u => ∃ t, u = Value.float b t
  | .ref a, u => u = Value.ref a
  | .ty n, u => u = Value.type n

abbrev Vals : List V → List Value → Prop := Paired RelV
theorem Vals.length {xs : List V} {us : List Value} (r : Vals xs us) : xs.length = us.length := Paired.length r
theorem Vals.get : ∀ {xs : List V} {us : List Value} {i : Nat} {x : V}, Vals xs us → xs[i]? = some x → ∃ u, us[i]? = some u ∧ RelV x u
  | _, _, _, _, .nil, e => by simp at e
  | _, _, 0, _, .cons r _, e => by simp at e; subst e; exact ⟨_, rfl, r⟩
  | _, _, i + 1, x, .cons _ t, e => by
    obtain ⟨u, h1, h2⟩ := Vals.get (i := i) (x := x) t (by simpa using e)
    exact ⟨u, by simpa using h1, h2⟩
theorem Vals.append : ∀ {xs ys : List V} {us ws : List Value}, Vals xs us → Vals ys ws → Vals (xs ++ ys) (us ++ ws)
  | _, _, _, _, .nil, s => s
  | _, _, _, _, .cons r t, s => .cons r (Vals.append t s)
theorem Vals.take : ∀ {xs : List V} {us : List Value} (n : Nat), Vals xs us → Vals (xs.take n) (us.take n)
  | _, _, 0, _ => .nil
  | _, _, _ + 1, .nil => .nil
  | _, _, n + 1, .cons r t => .cons r (Vals.take n t)
theorem Vals.drop : ∀ {xs : List V} {us : List Value} (n : Nat), Vals xs us → Vals (xs.drop n) (us.drop n)
  | _, _, 0, r => r
  | _, _, _ + 1, .nil => .nil
  | _, _, n + 1, .cons _ t => Vals.drop n t
def RelO : Option V → Option Value → Prop
  | some v, some u => RelV v u
  | none, none => True
  | _, _ => False
def KV {κ : Type} : List (κ × V) → List (κ × Value) → Prop := Paired fun (p : κ × V) (q : κ × Value) => p.1 = q.1 ∧ RelV p.2 q.2

/-- a key of a dict (00_mix): an int or a text -/
def kV : Key → V
  | .inl i => .int i
  | .inr x => .str x

/-- what stands at a tracked address -/
inductive HO where
  /-- a list -/
  | lst (xs : List V)
  /-- a tuple (never changes) -/
  | tup (xs : List V)
  /-- a dict whose keys are ints and texts; one whose keys are tuples of ints and texts (the empty one is both) -/
  | dK (kvs : List (Key × V)) | dT (kvs : List (List Key × V))
  /-- a set of ints: its members, its size -/
  | set (S : Int → Bool) (n : Nat)
  /-- an instance of the class at C, its dict at dx, its attributes -/
  | ins (C dx : Addr) (fs : List (Str × V))
  /-- the dict of the instance at x -/
  | own (x : Addr)
  /-- the dict of an exception -/
  | xd (fs : List (Str × V))
  /-- a bound method, f of x -/
  | met (f x : Addr)
  /-- a range object lo, lo + 1, .. below hi -/
  | rng (lo hi : Int)
  /-- a thing that is known to the object (the script; a dict while a loop walks it): read, never written while it is so -/
  | frz (o : Obj) (u : HO)
  /-- a code object's table -/
  | tbl (ps : Array Value)
  /-- any other thing, by what is true of its one object (a def of one's own: SetO a S n := HO.ext fun h => ..) -/
  | ext (φ : Heap → Prop)

abbrev Hp := Addr → Option HO
def upd (H : Hp) (a : Addr) (o : HO) : Hp := fun b => if b = a then some o else H b
theorem upd_same {H : Hp} {a : Addr} {o : HO} : upd H a o a = some o := by unfold upd; rw [if_pos rfl]
theorem upd_ne {H : Hp} {a b : Addr} {o : HO} (h : b ≠ a) : upd H a o b = H b := by unfold upd; rw [if_neg h]
/-- two objects of different content stand apart -/
theorem ne_of {H : Hp} {a b : Addr} {o u : HO} (h : H a = some o) (h' : H b = some u) (d : o ≠ u) : a ≠ b := by
  intro e; subst e; rw [h] at h'; exact d (Option.some.inj h')
theorem ne_of_none {H : Hp} {a b : Addr} {o : HO} (h : H a = some o) (h' : H b = none) : a ≠ b := by
  intro e; subst e; rw [h] at h'; cases h'

section
variable (P : Program) (w : World)
def ObjOk (H : Hp) (h : Heap) (a : Addr) : HO → Prop
  | .lst xs => xs.length ≤ sizeLine ∧ ∃ (its : List Value) (n : Nat), Vals xs its ∧ h.get? a = some { cls := .type "list", data := .seq its.toArray n }
  | .tup xs => xs.length ≤ sizeLine ∧ ∃ its : List Value, Vals xs its ∧ IsTup h a its.toArray
  | .dK kvs => kvs.length ≤ sizeLine ∧ (a == sysModules) = false ∧ ∃ vs, KV kvs vs ∧ h.DictOf (mixKind P w) a vs
  | .dT kvs => kvs.length ≤ sizeLine ∧ (a == sysModules) = false ∧ ∃ xs : List (List Key × Addr × Value),
      Paired (fun (p : List Key × V) (q : List Key × Addr × Value) => p.1 = q.1 ∧ H q.2.1 = some (.tup (p.1.map kV)) ∧ RelV p.2 q.2.2) kvs xs ∧
      ∃ o es ep, h.get? a = some o ∧ o.ExactDict ∧ o.data = .dict es ep ∧ es.toList = xs.map (entryOfKey (tupleKind (mixKind P w))) ∧ (xs.map (·.1)).Nodup
  | .set S n => h.SetOf (intKind P w) a S n
  | .ins C dx fs => H dx = some (.own a) ∧ fs.length ≤ 1000 ∧ dx ≠ a ∧ h.get? a = some (PySem.W.instObj C dx) ∧
      ∃ mA, h.Ns1 dx mA ∧ (∀ f, RelO (fs.lookup f) (mA f)) ∧ PySem.Within mA (fs.map (·.1))
  | .own _ => ∃ o, h.get? a = some o
  | .xd fs => ∃ mA, h.Ns1 a mA ∧ ∀ f, RelO (fs.lookup f) (mA f)
  | .rng lo hi => ∃ t u v, h.get? a = some { cls := .type "range", data := .fields #[.int lo t, .int hi u, .int 1 v] }
  | .frz o u => h.get? a = some o ∧ ObjOk H h a u
  | .tbl ps => h.get? a = some { cls := .none, data := .fields ps }
  | .met f x => h.get? a = some (PySem.W.methodObj (.ref f) (.ref x))
  | .ext φ => φ h ∧ (∃ o, h.get? a = some o) ∧ ∀ h1 h2 : Heap, φ h1 → (∀ o, h1.get? a = some o → h2.get? a = some o) → φ h2
/-- the abstract heap is held -/
def HOk (H : Hp) (h : Heap) : Prop := ∀ a o, H a = some o → ObjOk P w H h a o
end

section
variable {P : Program} {w : World} {H H' : Hp} {h h' : Heap} {a : Addr} {o : HO}
theorem ObjOk.lt (x : ObjOk P w H h a o) : a < h.objs.size := by
  cases o with
  | lst xs => obtain ⟨_, _, _, _, e⟩ := x; exact Heap.lt_size e
  | tup xs => obtain ⟨_, _, _, p⟩ := x; exact p.lt
  | dK kvs => obtain ⟨_, _, _, _, o, _, _, e, _⟩ := x; exact Heap.lt_size e
  | dT kvs => obtain ⟨_, _, _, _, o, _, _, e, _⟩ := x; exact Heap.lt_size e
  | set S n => obtain ⟨o, _, _, _, e, _⟩ := x; exact Heap.lt_size e
  | ins C dx fs => obtain ⟨_, _, _, e, _⟩ := x; exact Heap.lt_size e
  | own y => obtain ⟨_, e⟩ := x; exact Heap.lt_size e
  | xd fs => obtain ⟨_, ⟨_, _, _, e, _⟩, _⟩ := x; exact Heap.lt_size e
  | rng lo hi => obtain ⟨_, _, _, e⟩ := x; exact Heap.lt_size e
  | frz ob u => obtain ⟨e, _⟩ := x; exact Heap.lt_size e
  | tbl ps => exact Heap.lt_size (show h.get? a = some _ from x)
  | met f y => exact Heap.lt_size (show h.get? a = some _ from x)
  | ext φ => obtain ⟨_, ⟨_, e⟩, _⟩ := x; exact Heap.lt_size e
theorem Paired.mapP {α β : Type} {F G : α → β → Prop} : ∀ {l₁ : List α} {l₂ : List β}, Paired F l₁ l₂ → (∀ a b, F a b → G a b) → Paired G l₁ l₂
  | _, _, .nil, _ => .nil
  | _, _, .cons r t, f => .cons (f _ _ r) (Paired.mapP t f)
/-- what an object's description leans on: its own object, its own dict, the tuples -/
theorem ObjOk.stay (x : ObjOk P w H h a o) (k : ∀ b u, (b = a ∨ H b = some (.own a)) → h.get? b = some u → h'.get? b = some u)
    (ho : ∀ b, H b = some (.own a) → H' b = some (.own a)) (ht : ∀ b xs, H b = some (.tup xs) → H' b = some (.tup xs)) : ObjOk P w H' h' a o := by
  induction o with
  | lst xs => obtain ⟨z, its, n, r, e⟩ := x; exact ⟨z, its, n, r, k _ _ (.inl rfl) e⟩
  | tup xs => obtain ⟨z, its, r, ob, e, c⟩ := x; exact ⟨z, its, r, ob, k _ _ (.inl rfl) e, c⟩
  | dK kvs => obtain ⟨z, y, vs, r, ob, es, ep, e, c⟩ := x; exact ⟨z, y, vs, r, ob, es, ep, k _ _ (.inl rfl) e, c⟩
  | dT kvs =>
    obtain ⟨z, y, xs, r, ob, es, ep, e, c⟩ := x
    exact ⟨z, y, xs, Paired.mapP r fun p q z => ⟨z.1, ht _ _ z.2.1, z.2.2⟩, ob, es, ep, k _ _ (.inl rfl) e, c⟩
  | set S n => obtain ⟨ob, es, ep, t, e, c⟩ := x; exact ⟨ob, es, ep, t, k _ _ (.inl rfl) e, c⟩
  | ins C dx fs =>
    obtain ⟨d, z, ne, e, mA, ⟨od, es, ep, e2, c⟩, r⟩ := x
    exact ⟨ho _ d, z, ne, k _ _ (.inl rfl) e, mA, ⟨od, es, ep, k _ _ (.inr d) e2, c⟩, r⟩
  | own y => obtain ⟨ob, e⟩ := x; exact ⟨ob, k _ _ (.inl rfl) e⟩
  | xd fs => obtain ⟨mA, ⟨od, es, ep, e, c⟩, r⟩ := x; exact ⟨mA, ⟨od, es, ep, k _ _ (.inl rfl) e, c⟩, r⟩
  | rng lo hi => obtain ⟨t, u, v, e⟩ := x; exact ⟨t, u, v, k _ _ (.inl rfl) e⟩
  | frz ob u ih => obtain ⟨e, q⟩ := x; exact ⟨k _ _ (.inl rfl) e, ih q⟩
  | tbl ps =>
    have e : h.get? a = some { cls := .none, data := .fields ps } := x
    show h'.get? a = some { cls := .none, data := .fields ps }
    exact k a _ (.inl rfl) e
  | met f y =>
    have e : h.get? a = some (PySem.W.methodObj (.ref f) (.ref y)) := x
    show h'.get? a = some (PySem.W.methodObj (.ref f) (.ref y))
    exact k a _ (.inl rfl) e
  | ext φ => obtain ⟨p, ⟨o, e⟩, st⟩ := x; exact ⟨st _ _ p fun o q => k _ _ (.inl rfl) q, ⟨o, k _ _ (.inl rfl) e⟩, st⟩
theorem HOk.lt (x : HOk P w H h) (e : H a = some o) : a < h.objs.size := (x a o e).lt
theorem HOk.fresh (x : HOk P w H h) (e : h.objs.size ≤ a) : H a = none := by
  cases q : H a with
  | none => rfl
  | some u => exact absurd (Nat.lt_of_lt_of_le (x.lt q) e) (Nat.lt_irrefl _)
/-- every object of the heap is kept -/
theorem HOk.kept (x : HOk P w H h) (k : ∀ b u, h.get? b = some u → h'.get? b = some u) : HOk P w H h' := fun a o e =>
  (x a o e).stay (fun b u _ q => k b u q) (fun _ q => q) fun _ _ q => q
/-- a new object is laid and tracked -/
theorem HOk.laid (x : HOk P w H h) (k : ∀ b u, h.get? b = some u → h'.get? b = some u) (hp : h.objs.size ≤ a) (new : ObjOk P w (upd H a o) h' a o) : HOk P w (upd H a o) h' := fun b u e => by
  have hn := x.fresh hp
  by_cases hb : b = a
  · subst hb; rw [upd_same] at e; cases e; exact new
  · rw [upd_ne hb] at e
    exact (x b u e).stay (fun c v _ q => k c v q) (fun c q => by rw [upd_ne (ne_of_none q hn)]; exact q) fun c xs q => by rw [upd_ne (ne_of_none q hn)]; exact q
end

/-- what may be read as u: it is u, or a known u -/
def Rd (H : Hp) (a : Addr) (u : HO) : Prop := H a = some u ∨ ∃ o, H a = some (.frz o u)
theorem Rd.ok {P : Program} {w : World} {H : Hp} {h : Heap} {a : Addr} {u : HO} (r : Rd H a u) (x : HOk P w H h) : ObjOk P w H h a u := by
  rcases r with r | ⟨o, r⟩
  · exact x a u r
  · obtain ⟨_, q⟩ := x a _ r
    exact q
/-- what may be written -/
def Mut : Option HO → Prop
  | some (.lst _) => True
  | some (.dK _) => True
  | some (.dT _) => True
  | some (.set _ _) => True
  | some (.ins _ _ _) => True
  | some (.ext _) => True
  | _ => False
section
variable {P : Program} {w : World} {H : Hp} {h h' : Heap} {x e : Addr} {o' : HO}
/-- the object at e is changed: x itself, or the dict of the instance x -/
theorem HOk.write (ok : HOk P w H h) (mu : Mut (H x)) (he : e = x ∨ H e = some (.own x)) (k : ∀ b u, b ≠ e → h.get? b = some u → h'.get? b = some u) (heo : ∃ u, h'.get? e = some u)
    (new : ObjOk P w (upd H x o') h' x o') : HOk P w (upd H x o') h' := fun b u q => by
  have nown : ∀ c y, H c = some (.own y) → c ≠ x := fun c y r z => by subst z; rw [r] at mu; exact mu
  have ntup : ∀ c xs, H c = some (.tup xs) → c ≠ x := fun c xs r z => by subst z; rw [r] at mu; exact mu
  by_cases hb : b = x
  · subst hb; rw [upd_same] at q; cases q; exact new
  · rw [upd_ne hb] at q
    by_cases hbe : b = e
    · have q' : H b = some (.own x) := by
        rcases he with z | z
        · exact absurd (hbe.trans z) hb
        · rw [hbe]; exact z
      rw [q] at q'; cases q'
      obtain ⟨v, hv⟩ := heo
      exact ⟨v, by rw [hbe]; exact hv⟩
    · refine (ok b u q).stay (fun c v hc r => k c v ?_ r) (fun c r => by rw [upd_ne (nown c b r)]; exact r) fun c xs r => by rw [upd_ne (ntup c xs r)]; exact r
      rcases hc with rfl | hc
      · exact hbe
      · rintro rfl
        rcases he with z | z
        · exact nown c b hc z
        · rw [hc] at z; cases z; exact hb rfl
end

/-! ### kept unless tracked; of the frames at fs (the callers') the slots may change (an exception that passes writes there); of the records at ex (iterators) nothing is said -/
structure Un (fs ex : List Addr) (H H' : Hp) (h h' : Heap) : Prop where
  keep : ∀ b o, h.get? b = some o → H b = none → b ∉ fs → b ∉ ex → h'.get? b = some o
  slot : ∀ b o, h.get? b = some o → H b = none → b ∈ fs → b ∉ ex → ∃ sl, h'.get? b = some { o with slots := sl }
  free : ∀ b o, h.get? b = some o → H b = none → b ∉ ex → H' b = none
  there : ∀ b o, h.get? b = some o → b ∉ ex → ∃ o', h'.get? b = some o'
  tups : ∀ b xs, H b = some (.tup xs) → H' b = some (.tup xs)
  frzs : ∀ b o u, H b = some (.frz o u) → H' b = some (.frz o u)
  tbls : ∀ b ps, H b = some (.tbl ps) → ∃ more, H' b = some (.tbl (ps ++ more))
section
variable {fs fs' ex ex' : List Addr} {H H1 H2 : Hp} {h h1 h2 h' : Heap} {a x e : Addr} {o : HO}
theorem Un.any (u : Un fs ex H H1 h h1) {b : Addr} {ob : Obj} (q : h.get? b = some ob) (n : H b = none) (hx : b ∉ ex) : ∃ sl, h1.get? b = some { ob with slots := sl } := by
  by_cases hb : b ∈ fs
  · exact u.slot b ob q n hb hx
  · exact ⟨ob.slots, u.keep b ob q n hb hx⟩
theorem Un.kept (k : ∀ b u, h.get? b = some u → h'.get? b = some u) : Un fs ex H H h h' :=
  ⟨fun b ob q _ _ _ => k b ob q, fun b ob q _ _ _ => ⟨ob.slots, k b ob q⟩, fun _ _ _ n _ => n, fun b ob q _ => ⟨ob, k b ob q⟩, fun _ _ q => q, fun _ _ _ q => q, fun _ ps q => ⟨#[], by rw [q]; simp⟩⟩
theorem Un.refl : Un fs ex H H h h := Un.kept fun _ _ q => q
theorem Un.laid (k : ∀ b u, h.get? b = some u → h'.get? b = some u) (hp : h.objs.size ≤ a) (hn : H a = none) : Un fs ex H (upd H a o) h h' where
  keep := fun b u q _ _ _ => k b u q
  slot := fun b u q _ _ _ => ⟨u.slots, k b u q⟩
  free := fun b u q n _ => by rw [upd_ne (Nat.ne_of_lt (Nat.lt_of_lt_of_le (Heap.lt_size q) hp))]; exact n
  there := fun b u q _ => ⟨u, k b u q⟩
  tups := fun b xs q => by rw [upd_ne (ne_of_none q hn)]; exact q
  frzs := fun b u xs q => by rw [upd_ne (ne_of_none q hn)]; exact q
  tbls := fun b ps q => ⟨#[], by rw [upd_ne (ne_of_none q hn), q]; simp⟩
theorem Un.write (mu : Mut (H x)) (he : e = x ∨ H e = some (.own x)) (k : ∀ b u, b ≠ e → h.get? b = some u → h'.get? b = some u) (heo : ∃ u, h'.get? e = some u) : Un fs ex H (upd H x o) h h' := by
  have hx : ∀ b, H b = none → b ≠ x := fun b n z => by subst z; rw [n] at mu; exact mu
  have hb : ∀ b, H b = none → b ≠ e := fun b n z => by
    subst z
    rcases he with r | r
    · exact hx b n r
    · rw [n] at r; cases r
  have hm : ∀ b u, H b = some u → ¬ Mut (some u) → b ≠ x := fun b u q nm z => by subst z; rw [q] at mu; exact nm mu
  refine ⟨fun b u q n _ _ => k b u (hb b n) q, fun b u q n _ _ => ⟨u.slots, k b u (hb b n) q⟩, fun b u q n _ => by rw [upd_ne (hx b n)]; exact n, fun b u q _ => ?_,
    fun b xs q => by rw [upd_ne (hm b _ q fun z => z)]; exact q, fun b u xs q => by rw [upd_ne (hm b _ q fun z => z)]; exact q, fun b ps q => ⟨#[], by rw [upd_ne (hm b _ q fun z => z), q]; simp⟩⟩
  by_cases hbe : b = e
  · subst hbe; exact heo
  · exact ⟨u, k b u hbe q⟩
end

/-! ### the heap without what is tracked -/
def trk (h : Heap) (H : Hp) : List Addr := (List.range h.objs.size).filter fun a => (H a).isSome
def hidT (h : Heap) (H : Hp) : Heap := PySem.W.hideAll h (trk h H)
theorem hidT_size (h : Heap) (H : Hp) : (hidT h H).objs.size = h.objs.size := PySem.W.hideAll_size _ _
theorem hidT_get {h : Heap} {H : Hp} {b : Addr} {o : Obj} (e : h.get? b = some o) (n : H b = none) : (hidT h H).get? b = some o :=
  PySem.W.hideAll_get _ e fun hm => by
    have q : (H b).isSome = true := (List.mem_filter.mp hm).2
    rw [n] at q; simp at q
theorem of_hidT {h : Heap} {H : Hp} {b : Addr} {o : Obj} (e : (hidT h H).get? b = some o) : h.get? b = some o ∧ H b = none := by
  have e' : h.get? b = some o := PySem.W.of_hideAll (trk h H) e
  refine ⟨e', ?_⟩
  cases q : H b with
  | none => rfl
  | some x =>
    have hm : b ∈ trk h H := List.mem_filter.mpr ⟨List.mem_range.mpr (Heap.lt_size e'), by simp [q]⟩
    have z : (hidT h H).get? b = none := PySem.W.hideAll_none (trk h H) hm
    rw [z] at e; cases e

/-! ### OpenK's ledger, filled with every new object but one -/
def allNews (g h : Heap) (L : Addr) : List (Addr × Obj) := (List.range h.objs.size).filterMap fun a => if a = L ∨ (g.get? a).isSome = true then none else (h.get? a).map fun o => (a, o)
def rest (g h : Heap) (L d : Addr) : List (Addr × Obj) := (allNews g h L).filter fun p => decide (p.1 ≠ d)
end L2

namespace L2
open PySem PySem.Spec PyProof.Rows

/-- the module's facts, over the base: the heap at the law's entry without what is tracked there -/
structure Mod (K : PySem.W.Frag) (mg : Str → Option Value) (base : Heap) : Prop where
  kin : K.In base
  glob : base.Ns mainGlobals mg
  blt : ∃ mb, base.Ns builtinsNs mb ∧ ∀ x : Str, x ≠ "__name__" → mb x = bootBuiltins x
  nolimit : base.NoLimit

/-- the context: a def's body (or a comprehension's block) running. base: fixed through the whole law; s₀, H₀: the entry; outer: the frames whose slots others may change (a def's callers); stack: all frames that run;
   ex: iterators that were made ahead of the entry and are walked here (a comprehension's); fn: the names whose cells were made at the entry (a def: all; a comprehension's block: its own); calm: not within an except suite; pn: pins that every state bears; xe: what is wanted of an exception that leaves the code -/
structure Cx where
  prog : Program
  w : World
  K : PySem.W.Frag
  mg : Str → Option Value
  base : Heap
  A : Around
  N : List Str
  s₀ : Shared
  H₀ : Hp
  env : Env
  outer : List Env
  stack : List Env
  ex : List Addr
  fn : Str → Bool
  calm : Bool
  pn : List (Addr × Obj)
  xe : Value → Shared → Prop
/-- the callers' frames -/
def frs (l : List Env) : List Addr := l.filterMap (·.frame)
abbrev Cx.fs (X : Cx) : List Addr := frs X.outer

def Vis (sc : Scope) (x : Str) : Prop := sc.names.lookup x = some .local ∨ sc.names.lookup x = some .cell ∨ sc.names.lookup x = some .free
def Loc (sc : Scope) (x : Str) : Prop := sc.names.lookup x = some .local ∨ sc.names.lookup x = some .cell
def Look (env : Env) (h : Heap) (m : Str → Option Value) (x : Str) (u : Value) : Prop :=
  (env.kindOf x = some .local ∧ m x = some u) ∨ ((env.kindOf x = some .cell ∨ env.kindOf x = some .free) ∧ ∃ c, env.cells.lookup x = some c ∧ h.IsCell c (some u))

structure Cx.Ok (X : Cx) : Prop where
  mod : Mod X.K X.mg X.base
  kind : X.env.scope.kind = .function
  glob : X.env.globals = mainGlobals
  blt : X.env.builtins = builtinsNs
  above : X.s₀.heap.objs.size ≤ X.env.locals
  inj : ∀ x y c, X.env.cells.lookup x = some c → X.env.cells.lookup y = some c → x = y
  has : ∀ x, (X.env.kindOf x = some .cell ∨ X.env.kindOf x = some .free) → ∃ c, X.env.cells.lookup x = some c
  cab : ∀ x c, X.fn x = true → X.env.cells.lookup x = some c → X.s₀.heap.objs.size ≤ c
  hd : X.calm = true → X.A.handled = none
  frames : X.A.frames = some X.stack
  stk : X.stack = X.outer ∨ (X.stack = X.env :: X.outer ∧ X.env.frame = some X.env.locals)
  exf : ∀ b ∈ X.ex, b ≠ X.env.locals ∧ ∀ x c, X.env.cells.lookup x = some c → c ≠ b
  bs : ∀ b o, X.base.get? b = some o → X.s₀.heap.get? b = some o ∧ X.H₀ b = none
  bsz : X.base.objs.size ≤ X.s₀.heap.objs.size
  noex : ∀ b o, X.base.get? b = some o → b ∉ X.ex
  exfs : ∀ b ∈ X.ex, b ∉ X.fs
  funs : X.s₀.heap.FunFrames X.base X.outer
  frf : ∀ b ∈ X.fs, X.H₀ b = none

structure Inv (X : Cx) (pins : List (Addr × Obj)) (σ : List (Option V)) (H : Hp) (s : Shared) : Prop where
  ok : X.Ok
  os : s.os = X.s₀.os
  bare : AllBare s.gens
  base : Un X.fs X.ex X.H₀ H X.s₀.heap s.heap
  loc : ∃ m, s.heap.Ns X.env.locals m ∧ ∀ (i : Nat) (x : Str) (v : V), X.N[i]? = some x → σ[i]? = some (some v) → Vis X.env.scope x → ∃ u, RelV v u ∧ Look X.env s.heap m x u
  cell : ∀ x c, X.env.cells.lookup x = some c → ∃ v, s.heap.IsCell c v
  free : H X.env.locals = none
  freeC : ∀ x c, X.env.cells.lookup x = some c → H c = none
  pin : ∀ p ∈ X.pn ++ pins, s.heap.get? p.1 = some p.2 ∧ H p.1 = none ∧ p.1 ≠ X.env.locals ∧ p.1 ∉ X.fs ∧ ∀ v, p.2.data ≠ .cell v
  hok : HOk X.prog X.w H s.heap
  len : σ.length = X.N.length

section
variable {X : Cx} {pins : List (Addr × Obj)} {σ : List (Option V)} {H H' : Hp} {s : Shared} {h' : Heap}

theorem Cx.Ok.nofr (ok : X.Ok) {b : Addr} {o : Obj} (e : X.base.get? b = some o) : b ∉ X.fs := fun hb => by
  have := (ok.funs.mem hb).1
  rw [e] at this; cases this
theorem Inv.bs (I : Inv X pins σ H s) : ∀ b o, X.base.get? b = some o → s.heap.get? b = some o ∧ H b = none := fun b o e =>
  ⟨I.base.keep b o (I.ok.bs b o e).1 (I.ok.bs b o e).2 (I.ok.nofr e) (I.ok.noex b o e), I.base.free b o (I.ok.bs b o e).1 (I.ok.bs b o e).2 (I.ok.noex b o e)⟩
theorem Inv.bk (I : Inv X pins σ H s) : ∀ b o, X.base.get? b = some o → s.heap.get? b = some o := fun b o e => (I.bs b o e).1
theorem Inv.mod (I : Inv X pins σ H s) : Mod X.K X.mg X.base := I.ok.mod
theorem Inv.kIn (I : Inv X pins σ H s) : X.K.In s.heap := I.ok.mod.kin.keeps I.bk
theorem Inv.lt (I : Inv X pins σ H s) : X.env.locals < s.heap.objs.size := let ⟨_, hn, _⟩ := I.loc; hn.lt
theorem Inv.sz (I : Inv X pins σ H s) : X.s₀.heap.objs.size ≤ s.heap.objs.size := Nat.le_trans I.ok.above (Nat.le_of_lt I.lt)
theorem Inv.nofs (I : Inv X pins σ H s) {a : Addr} (h : s.heap.objs.size ≤ a) : a ∉ X.fs := fun hb => by
  obtain ⟨_, o, ho, _⟩ := I.ok.funs.mem hb
  exact absurd (Nat.lt_of_lt_of_le (Heap.lt_size ho) (Nat.le_trans I.sz h)) (Nat.lt_irrefl _)
theorem Inv.cne (I : Inv X pins σ H s) : ∀ x c, X.env.cells.lookup x = some c → c ≠ X.env.locals := fun x c e z => by
  obtain ⟨v, o, ho, hd⟩ := I.cell x c e
  obtain ⟨m, ⟨o', es, ep, ho', hd', _⟩, _⟩ := I.loc
  rw [z, ho'] at ho; cases ho; rw [hd'] at hd; cases hd
theorem Inv.funs (I : Inv X pins σ H s) : s.heap.FunFrames X.base X.outer := by
  have all : ∀ (l : List Env), (∀ b ∈ frs l, b ∈ X.fs) → X.s₀.heap.FunFrames X.base l → s.heap.FunFrames X.base l := by
    intro l
    induction l with
    | nil => intro _ _; trivial
    | cons env r ih =>
      intro hs hl
      obtain ⟨hk, ⟨L, o, hf, hn, ho, hd⟩, hr⟩ := hl
      have hL : L ∈ X.fs := hs L (by unfold frs; rw [List.filterMap_cons, hf]; exact List.mem_cons_self)
      obtain ⟨sl, e⟩ := I.base.slot L o ho (I.ok.frf L hL) hL fun z => I.ok.exfs L z hL
      exact ⟨hk, ⟨L, _, hf, hn, e, hd⟩, ih (fun b hb => hs b (by unfold frs; rw [List.filterMap_cons, hf]; exact List.mem_cons_of_mem _ hb)) hr⟩
  exact all X.outer (fun _ hb => hb) I.ok.funs

/-- the frames that run, for a call -/
theorem Inv.stack (I : Inv X pins σ H s) : s.heap.FunFrames X.base X.stack := by
  rcases I.ok.stk with e | ⟨e, hf⟩
  · rw [e]; exact I.funs
  · rw [e]
    obtain ⟨m, hn, _⟩ := I.loc
    refine .cons (by rw [I.ok.kind]; decide) hf hn ?_ I.funs
    exact Heap.get?_none_of_le (Nat.le_trans I.ok.bsz I.ok.above)
theorem Inv.stkSub (I : Inv X pins σ H s) : ∀ b ∈ frs X.stack, b ∈ X.env.locals :: X.fs := fun b hb => by
  rcases I.ok.stk with e | ⟨e, hf⟩
  · rw [e] at hb; exact List.mem_cons_of_mem _ hb
  · rw [e] at hb
    unfold frs at hb
    rw [List.filterMap_cons, hf] at hb
    exact hb
theorem Inv.stkFree (I : Inv X pins σ H s) : ∀ b ∈ frs X.stack, H b = none := fun b hb => by
  rcases List.mem_cons.mp (I.stkSub b hb) with e | hb
  · rw [e]; exact I.free
  · obtain ⟨_, o, ho, _⟩ := I.ok.funs.mem hb
    exact I.base.free b o ho (I.ok.frf b hb) fun z => I.ok.exfs b z hb

/-- THE STEP: the untracked objects but the frame and the records at ch are kept (the callers' frames up to slots), the frame's map is kept, the new abstract heap is held -/
theorem Inv.step {g' : Array GenState} {t' : Nat} {d' : Drawn} {ch : List Addr} (I : Inv X pins σ H s)
    (hch : ∀ b ∈ ch, (b ∈ X.ex ∨ X.s₀.heap.objs.size ≤ b) ∧ b ≠ X.env.locals ∧ (∀ x c, X.env.cells.lookup x = some c → c ≠ b) ∧ ∀ p ∈ X.pn ++ pins, p.1 ≠ b)
    (keep : ∀ b o, b ≠ X.env.locals → b ∉ X.fs → b ∉ ch → s.heap.get? b = some o → H b = none → h'.get? b = some o)
    (slot : ∀ b o, b ≠ X.env.locals → b ∈ X.fs → b ∉ ch → s.heap.get? b = some o → H b = none → ∃ sl, h'.get? b = some { o with slots := sl }) (free : ∀ b o, b ∉ ch → s.heap.get? b = some o → H b = none → H' b = none)
    (there : ∀ b o, b ∉ ch → s.heap.get? b = some o → ∃ o', h'.get? b = some o')
    (tups : ∀ b xs, H b = some (.tup xs) → H' b = some (.tup xs)) (frzs : ∀ b o u, H b = some (.frz o u) → H' b = some (.frz o u)) (tbls : ∀ b ps, H b = some (.tbl ps) → ∃ more, H' b = some (.tbl (ps ++ more)))
    (ns : ∀ m, s.heap.Ns X.env.locals m → h'.Ns X.env.locals m) (hok : HOk X.prog X.w H' h') (hg : AllBare g') :
    Inv X pins σ H' { s with heap := h', gens := g', drawn := d', toks := t' } := by
  have neL : ∀ b o, X.s₀.heap.get? b = some o → b ≠ X.env.locals := fun b o e => Nat.ne_of_lt (Nat.lt_of_lt_of_le (Heap.lt_size e) I.ok.above)
  have neC : ∀ b o, X.s₀.heap.get? b = some o → b ∉ X.ex → b ∉ ch := fun b o e hx hb => by
    rcases (hch b hb).1 with z | z
    · exact hx z
    · exact absurd (Nat.lt_of_lt_of_le (Heap.lt_size e) z) (Nat.lt_irrefl _)
  have cellK : ∀ x c, X.env.cells.lookup x = some c → ∀ v, s.heap.IsCell c v → h'.IsCell c v := fun x c e v ⟨o, ho, hd⟩ => by
    have nch : c ∉ ch := fun z => (hch c z).2.2.1 x c e rfl
    by_cases hc : c ∈ X.fs
    · obtain ⟨sl, q⟩ := slot c o (I.cne x c e) hc nch ho (I.freeC x c e)
      exact ⟨_, q, hd⟩
    · exact ⟨o, keep c o (I.cne x c e) hc nch ho (I.freeC x c e), hd⟩
  refine ⟨I.ok, I.os, hg, ⟨fun b o e n hb hx => ?_, fun b o e n hb hx => ?_, fun b o e n hx => ?_, fun b o e hx => ?_, fun b xs e => tups b xs (I.base.tups b xs e), fun b o xs e => frzs b o xs (I.base.frzs b o xs e), fun b ps e => ?_⟩, ?_, fun x c e => ?_, ?_, fun x c e => ?_, fun p hp => ?_, hok, I.len⟩
  · exact keep b o (neL b o e) hb (neC b o e hx) (I.base.keep b o e n hb hx) (I.base.free b o e n hx)
  · obtain ⟨sl, e1⟩ := I.base.slot b o e n hb hx
    obtain ⟨sl', e2⟩ := slot b _ (neL b o e) hb (neC b o e hx) e1 (I.base.free b o e n hx)
    exact ⟨sl', e2⟩
  · obtain ⟨o', e1⟩ := I.base.there b o e hx
    exact free b o' (neC b o e hx) e1 (I.base.free b o e n hx)
  · obtain ⟨o', e1⟩ := I.base.there b o e hx
    exact there b o' (neC b o e hx) e1
  · obtain ⟨m1, e1⟩ := I.base.tbls b ps e
    obtain ⟨m2, e2⟩ := tbls b _ e1
    exact ⟨m1 ++ m2, by rw [e2, Array.append_assoc]⟩
  · obtain ⟨m, hn, hl⟩ := I.loc
    refine ⟨m, ns m hn, fun i x v e1 e2 e3 => ?_⟩
    obtain ⟨u, r, l⟩ := hl i x v e1 e2 e3
    refine ⟨u, r, ?_⟩
    rcases l with l | ⟨k, c, e, z⟩
    · exact .inl l
    · exact .inr ⟨k, c, e, cellK x c e _ z⟩
  · obtain ⟨v, z⟩ := I.cell x c e
    exact ⟨v, cellK x c e v z⟩
  · obtain ⟨m, ⟨o, _, _, ho, _⟩, _⟩ := I.loc
    exact free _ o (fun z => (hch _ z).2.1 rfl) ho I.free
  · obtain ⟨v, o, ho, hd⟩ := I.cell x c e
    exact free c o (fun z => (hch c z).2.2.1 x c e rfl) ho (I.freeC x c e)
  · obtain ⟨e, n, ne, nf, d⟩ := I.pin p hp
    have nch : p.1 ∉ ch := fun z => (hch p.1 z).2.2.2 p hp rfl
    exact ⟨keep p.1 p.2 ne nf nch e n, free p.1 p.2 nch e n, ne, nf, d⟩
/-- .. where the frame's own object is kept too -/
theorem Inv.un {t' : Nat} (I : Inv X pins σ H s) (u : Un X.fs [] H H' s.heap h') (hok : HOk X.prog X.w H' h') : Inv X pins σ H' { s with heap := h', toks := t' } := by
  obtain ⟨m, ⟨o, es, ep, ho, r⟩, _⟩ := id I.loc
  obtain ⟨sl, hL⟩ := u.any ho I.free (by simp)
  exact I.step (g' := s.gens) (d' := s.drawn) (ch := []) (fun _ z => nomatch z) (fun b o _ hb _ e n => u.keep b o e n hb (by simp)) (fun b o _ hb _ e n => u.slot b o e n hb (by simp)) (fun b o _ e n => u.free b o e n (by simp)) (fun b o _ e => u.there b o e (by simp)) u.tups u.frzs u.tbls (fun m' hm => by
    obtain ⟨o', es', ep', ho', r'⟩ := hm
    rw [ho] at ho'; cases ho'
    exact ⟨_, es', ep', hL, r'⟩) hok I.bare
/-- behind a call (or a comprehension's block): the slots of this frame may have changed too, the records at ch may have turned -/
theorem Inv.call {g' : Array GenState} {t' : Nat} {d' : Drawn} {ch : List Addr} (I : Inv X pins σ H s) (u : Un (frs X.stack) ch H H' s.heap h') (hok : HOk X.prog X.w H' h') (hg : AllBare g')
    (hch : ∀ b ∈ ch, (b ∈ X.ex ∨ X.s₀.heap.objs.size ≤ b) ∧ b ≠ X.env.locals ∧ (∀ x c, X.env.cells.lookup x = some c → c ≠ b) ∧ ∀ p ∈ X.pn ++ pins, p.1 ≠ b) :
    Inv X pins σ H' { s with heap := h', gens := g', drawn := d', toks := t' } := by
  obtain ⟨m, ⟨o, es, ep, ho, r⟩, _⟩ := id I.loc
  obtain ⟨sl, hL⟩ := u.any ho I.free fun z => (hch _ z).2.1 rfl
  exact I.step (ch := ch) hch (fun b o hL hb hc e n => u.keep b o e n (fun z => (List.mem_cons.mp (I.stkSub b z)).elim hL hb) hc) (fun b o _ _ hc e n => u.any e n hc) (fun b o hc e n => u.free b o e n hc) (fun b o hc e => u.there b o e hc) u.tups u.frzs u.tbls (fun m' hm => by
    obtain ⟨o', es', ep', ho', r'⟩ := hm
    rw [ho] at ho'; cases ho'
    exact ⟨_, es', ep', hL, r'⟩) hok hg
/-- an untracked record of ours (an iterator) has turned -/
theorem Inv.turned {t' : Nat} {it : Addr} (I : Inv X pins σ H s) (k : ∀ b o, b ≠ it → s.heap.get? b = some o → h'.get? b = some o) (hn : H it = none) (hL : it ≠ X.env.locals)
    (h1 : it ∈ X.ex ∨ X.s₀.heap.objs.size ≤ it) (h2 : ∀ x c, X.env.cells.lookup x = some c → c ≠ it) (h3 : ∀ p ∈ X.pn ++ pins, p.1 ≠ it) : Inv X pins σ H { s with heap := h', toks := t' } := by
  have nit : ∀ b u, H b = some u → b ≠ it := fun b u e z => by rw [z, hn] at e; cases e
  refine I.step (g' := s.gens) (d' := s.drawn) (ch := [it]) (fun b hb => ?_) (fun b o _ _ hc e _ => k b o (fun z => hc (by simp [z])) e) (fun b o _ _ hc e _ => ⟨o.slots, k b o (fun z => hc (by simp [z])) e⟩) (fun _ _ _ _ n => n)
    (fun b o hc e => ⟨o, k b o (fun z => hc (by simp [z])) e⟩) (fun _ _ e => e) (fun _ _ _ e => e) (fun b ps e => ⟨#[], by rw [e]; simp⟩) (fun m hm => ?_) (fun b u e => ?_) I.bare
  · have e : b = it := by simpa using hb
    subst e
    exact ⟨h1, hL, h2, h3⟩
  · obtain ⟨o, es, ep, ho, r⟩ := hm
    exact ⟨o, es, ep, k _ o (Ne.symm hL) ho, r⟩
  · refine (I.hok b u e).stay (fun c v hc q => k c v ?_ q) (fun _ q => q) fun _ _ q => q
    rcases hc with z | z
    · rw [z]; exact nit b u e
    · exact nit c _ z
theorem Inv.tok (I : Inv X pins σ H s) (t : Nat) : Inv X pins σ H { s with toks := t } := I.un (h' := s.heap) (t' := t) Un.refl I.hok
/-- all objects kept -/
theorem Inv.kept {t' : Nat} (I : Inv X pins σ H s) (k : ∀ b u, s.heap.get? b = some u → h'.get? b = some u) : Inv X pins σ H { s with heap := h', toks := t' } := I.un (Un.kept k) (I.hok.kept k)
/-- a new object laid and tracked -/
theorem Inv.laid {a : Addr} {o : HO} {t' : Nat} (I : Inv X pins σ H s) (k : ∀ b u, s.heap.get? b = some u → h'.get? b = some u) (hp : s.heap.objs.size ≤ a) (new : ObjOk X.prog X.w (upd H a o) h' a o) :
    Inv X pins σ (upd H a o) { s with heap := h', toks := t' } := I.un (Un.laid k hp (I.hok.fresh hp)) (I.hok.laid k hp new)
/-- an object written -/
theorem Inv.write {x e : Addr} {o : HO} {t' : Nat} (I : Inv X pins σ H s) (mu : Mut (H x)) (he : e = x ∨ H e = some (.own x)) (k : ∀ b u, b ≠ e → s.heap.get? b = some u → h'.get? b = some u) (heo : ∃ u, h'.get? e = some u)
    (new : ObjOk X.prog X.w (upd H x o) h' x o) : Inv X pins σ (upd H x o) { s with heap := h', toks := t' } := I.un (Un.write mu he k heo) (I.hok.write mu he k heo new)
/-- forgetting slots, pins -/
theorem Inv.weak {σ' : List (Option V)} (I : Inv X pins σ H s) (hl : σ'.length = σ.length) (w : ∀ (i : Nat) v, σ'[i]? = some (some v) → σ[i]? = some (some v)) : Inv X pins σ' H s :=
  ⟨I.ok, I.os, I.bare, I.base, let ⟨m, hn, hl'⟩ := I.loc; ⟨m, hn, fun i x v e1 e2 e3 => hl' i x v e1 (w i v e2) e3⟩, I.cell, I.free, I.freeC, I.pin, I.hok, hl.trans I.len⟩
theorem Inv.pins_of {pins' : List (Addr × Obj)} (I : Inv X pins σ H s) (h : ∀ p ∈ pins', s.heap.get? p.1 = some p.2 ∧ H p.1 = none ∧ p.1 ≠ X.env.locals ∧ p.1 ∉ X.fs ∧ ∀ v, p.2.data ≠ .cell v) : Inv X pins' σ H s :=
  ⟨I.ok, I.os, I.bare, I.base, I.loc, I.cell, I.free, I.freeC, fun p hp => (List.mem_append.mp hp).elim (fun z => I.pin p (List.mem_append_left _ z)) (h p), I.hok, I.len⟩

theorem nodup_ix {N : List Str} (hN : N.Nodup) {i j : Nat} {x : Str} (a : N[i]? = some x) (b : N[j]? = some x) : i = j := by
  obtain ⟨h1, e1⟩ := List.getElem?_eq_some_iff.mp a
  obtain ⟨h2, e2⟩ := List.getElem?_eq_some_iff.mp b
  exact (List.getElem_inj hN).mp (e1.trans e2.symm)

/-- a name is stored; what changed -/
theorem store_ok2 {M : Model} {A : Around} {E : Value → Shared → Prop} {i : Nat} {x : Str} {v : V} {u : Value} {Q : Unit → Shared → Prop} (I : Inv X pins σ H s) (hN : X.N.Nodup) (hi : X.N[i]? = some x) (hx : Loc X.env.scope x) (r : RelV v u)
    (h : ∀ s', Inv X pins (σ.set i (some v)) H s' → (∃ a, Heap.SameBut a s.heap s'.heap ∧ (a = X.env.locals ∨ X.env.cells.lookup x = some a)) → Q () s') (hf : X.fn x = true ∨ X.env.scope.names.lookup x = some .local := by first | exact .inl rfl | exact .inr rfl | assumption) : wpAny M A (storeName X.env x u) Q E s := by
  obtain ⟨m, hn, hl⟩ := id I.loc
  have hcls : (X.env.scope.kind == .class || (X.env.scope.kind == .module && X.env.locals != X.env.globals)) = false := by rw [I.ok.kind]; rfl
  have hiσ : i < σ.length := by rw [I.len]; exact (List.getElem?_eq_some_iff.mp hi).1
  have cne := I.cne
  have tracked : ∀ {a : Addr} {h' : Heap}, (∃ o, s.heap.get? a = some o ∧ H a = none) → Heap.SameBut a s.heap h' → HOk X.prog X.w H h' := fun {a h'} ha hs b ob e => by
    obtain ⟨_, _, hfree⟩ := ha
    refine (I.hok b ob e).stay (fun c w' hc q => (hs.2 c ?_).trans q) (fun _ q => q) fun _ _ q => q
    rintro rfl
    rcases hc with rfl | hc
    · rw [hfree] at e; cases e
    · rw [hfree] at hc; cases hc
  rcases hx with hk | hk
  · refine wpAny_storeName_local hk hn (fun h' hn' hs => ?_) hcls
    obtain ⟨oL, _, _, hoL, _⟩ := id hn
    refine h _ ⟨I.ok, I.os, I.bare, ⟨fun b o e n hb hx => ?_, fun b o e n hb hx => ?_, I.base.free, fun b o e hx => ?_, I.base.tups, I.base.frzs, I.base.tbls⟩, ⟨_, hn', fun j y v' e1 e2 e3 => ?_⟩, fun y c e => ?_, I.free, I.freeC, fun p hp => ?_, tracked ⟨oL, hoL, I.free⟩ hs, by simpa using I.len⟩ ⟨_, hs, .inl rfl⟩
    · exact (hs.2 b (Nat.ne_of_lt (Nat.lt_of_lt_of_le (Heap.lt_size e) I.ok.above))).trans (I.base.keep b o e n hb hx)
    · obtain ⟨sl, e1⟩ := I.base.slot b o e n hb hx
      exact ⟨sl, (hs.2 b (Nat.ne_of_lt (Nat.lt_of_lt_of_le (Heap.lt_size e) I.ok.above))).trans e1⟩
    · obtain ⟨o', e1⟩ := I.base.there b o e hx
      exact ⟨o', (hs.2 b (Nat.ne_of_lt (Nat.lt_of_lt_of_le (Heap.lt_size e) I.ok.above))).trans e1⟩
    · by_cases hj : j = i
      · subst hj
        rw [hi] at e1; cases e1
        rw [List.getElem?_set_self hiσ] at e2
        cases e2
        exact ⟨u, r, .inl ⟨hk, by simp⟩⟩
      · rw [List.getElem?_set_ne (Ne.symm hj)] at e2
        obtain ⟨u', r', q⟩ := hl j y v' e1 e2 e3
        refine ⟨u', r', ?_⟩
        rcases q with ⟨k, e⟩ | ⟨k, c, e, z⟩
        · refine .inl ⟨k, ?_⟩
          have : y ≠ x := fun e => hj (nodup_ix hN e1 (e ▸ hi))
          simp [this, e]
        · exact .inr ⟨k, c, e, z.sameBut hs (cne y c e)⟩
    · obtain ⟨w', z⟩ := I.cell y c e
      exact ⟨w', z.sameBut hs (cne y c e)⟩
    · obtain ⟨e, n, ne, nf, d⟩ := I.pin p hp
      exact ⟨(hs.2 p.1 ne).trans e, n, ne, nf, d⟩
  · have hfn : X.fn x = true := by
      rcases hf with z | z
      · exact z
      · rw [z] at hk; cases hk
    obtain ⟨c, hc⟩ := I.ok.has x (.inl hk)
    obtain ⟨w', z⟩ := I.cell x c hc
    refine wpAny_storeName_cell I.ok.kind hk hc z (fun h' hc' hs => ?_)
    obtain ⟨oc, hoc, hocd⟩ := id z
    refine h { s with heap := h' } ⟨I.ok, I.os, I.bare, ⟨fun b o e n hb hx => ?_, fun b o e n hb hx => ?_, I.base.free, fun b o e hx => ?_, I.base.tups, I.base.frzs, I.base.tbls⟩, ⟨m, hn.sameBut hs (Ne.symm (cne x c hc)), fun j y v' e1 e2 e3 => ?_⟩, fun y c' e => ?_, I.free, I.freeC, fun p hp => ?_, tracked ⟨oc, hoc, I.freeC x c hc⟩ hs, by simpa using I.len⟩ ⟨c, hs, .inr hc⟩
    · exact (hs.2 b (Nat.ne_of_lt (Nat.lt_of_lt_of_le (Heap.lt_size e) (I.ok.cab x c hfn hc)))).trans (I.base.keep b o e n hb hx)
    · obtain ⟨sl, e1⟩ := I.base.slot b o e n hb hx
      exact ⟨sl, (hs.2 b (Nat.ne_of_lt (Nat.lt_of_lt_of_le (Heap.lt_size e) (I.ok.cab x c hfn hc)))).trans e1⟩
    · obtain ⟨o', e1⟩ := I.base.there b o e hx
      exact ⟨o', (hs.2 b (Nat.ne_of_lt (Nat.lt_of_lt_of_le (Heap.lt_size e) (I.ok.cab x c hfn hc)))).trans e1⟩
    · by_cases hj : j = i
      · subst hj
        rw [hi] at e1; cases e1
        rw [List.getElem?_set_self hiσ] at e2
        cases e2
        exact ⟨u, r, .inr ⟨.inl hk, c, hc, hc'⟩⟩
      · rw [List.getElem?_set_ne (Ne.symm hj)] at e2
        obtain ⟨u', r', q⟩ := hl j y v' e1 e2 e3
        refine ⟨u', r', ?_⟩
        rcases q with q | ⟨k, c', e, z'⟩
        · exact .inl q
        · refine .inr ⟨k, c', e, z'.sameBut hs ?_⟩
          rintro rfl
          exact hj (nodup_ix hN e1 (I.ok.inj _ _ _ e hc ▸ hi))
    · by_cases hcc : c' = c
      · subst hcc; exact ⟨_, hc'⟩
      · obtain ⟨w2, z2⟩ := I.cell y c' e
        exact ⟨w2, z2.sameBut hs hcc⟩
    · obtain ⟨e, n, ne, nf, d⟩ := I.pin p hp
      refine ⟨(hs.2 p.1 ?_).trans e, n, ne, nf, d⟩
      intro q
      rw [q, hoc] at e
      have q' : oc = p.2 := Option.some.inj e
      exact d w' (by rw [← q']; exact hocd)
theorem store_ok {M : Model} {A : Around} {E : Value → Shared → Prop} {i : Nat} {x : Str} {v : V} {u : Value} {Q : Unit → Shared → Prop} (I : Inv X pins σ H s) (hN : X.N.Nodup) (hi : X.N[i]? = some x) (hx : Loc X.env.scope x) (r : RelV v u)
    (h : ∀ s', Inv X pins (σ.set i (some v)) H s' → Q () s') (hf : X.fn x = true ∨ X.env.scope.names.lookup x = some .local := by first | exact .inl rfl | exact .inr rfl | assumption) : wpAny M A (storeName X.env x u) Q E s :=
  store_ok2 I hN hi hx r (fun s' I' _ => h s' I') hf
/-- behind a call or a block, the state as it is -/
theorem Inv.call' {s' : Shared} {ch : List Addr} (I : Inv X pins σ H s) (ho : s'.os = s.os) (u : Un (frs X.stack) ch H H' s.heap s'.heap) (hok : HOk X.prog X.w H' s'.heap) (hg : AllBare s'.gens)
    (hch : ∀ b ∈ ch, (b ∈ X.ex ∨ X.s₀.heap.objs.size ≤ b) ∧ b ≠ X.env.locals ∧ (∀ x c, X.env.cells.lookup x = some c → c ≠ b) ∧ ∀ p ∈ X.pn ++ pins, p.1 ≠ b) : Inv X pins σ H' s' := by
  obtain ⟨h', g', d', t', o'⟩ := s'
  have e : o' = s.os := ho
  subst e
  exact I.call (g' := g') (t' := t') (d' := d') u hok hg hch
end

/-! ### the judgements -/
/-- an exception: its class, its own dict's address (where it has one), the abstract heap behind it -/
abbrev XK := Value → Option Addr → Hp → Prop
abbrev St := List (Option V)
abbrev VK := V → Hp → Prop
/-- an expression's reading; a test's; an argument list's -/
abbrev TE := St → Hp → VK → Prop
abbrev TT := St → Hp → (Bool → Hp → Prop) → Prop
abbrev TA := St → Hp → (List V → Hp → Prop) → Prop
/-- what is wanted behind a statement -/
structure Ends where
  nx : St → Hp → Prop
  rt : VK
  bk : St → Hp → Prop := fun _ _ => False
  ct : St → Hp → Prop := fun _ _ => False
abbrev TS := Ends → St → Hp → Prop

def EP (X : Cx) (pins : List (Addr × Obj)) (σ : St) (Q : VK) (u : Value) (s' : Shared) : Prop := ∃ v H', Inv X pins σ H' s' ∧ RelV v u ∧ Q v H'
def TP (X : Cx) (pins : List (Addr × Obj)) (σ : St) (Q : Bool → Hp → Prop) (b : Bool) (s' : Shared) : Prop := ∃ H', Inv X pins σ H' s' ∧ Q b H'
def AP (X : Cx) (pins : List (Addr × Obj)) (σ : St) (Q : List V → Hp → Prop) (us : List Value) (s' : Shared) : Prop := ∃ vs H', Inv X pins σ H' s' ∧ Vals vs us ∧ Q vs H'
def SP (X : Cx) (pins : List (Addr × Obj)) (D : Ends) (f : Flow) (s' : Shared) : Prop :=
  match f with
  | .next => ∃ σ' H', Inv X pins σ' H' s' ∧ D.nx σ' H'
  | .brk => ∃ σ' H', Inv X pins σ' H' s' ∧ D.bk σ' H'
  | .cont => ∃ σ' H', Inv X pins σ' H' s' ∧ D.ct σ' H'
  | .ret u => ∃ v σ' H', Inv X pins σ' H' s' ∧ RelV v u ∧ D.rt v H'

def PE (X : Cx) (e : Expr) (t : TE) : Prop :=
  ∀ (pins : List (Addr × Obj)) (s : Shared) (σ : St) (H : Hp) (Q : VK), Inv X pins σ H s → t σ H Q → wpAny (model X.prog X.w) X.A (eval e X.env) (EP X pins σ Q) X.xe s
def PT (X : Cx) (e : Expr) (t : TT) : Prop :=
  ∀ (pins : List (Addr × Obj)) (s : Shared) (σ : St) (H : Hp) (Q : Bool → Hp → Prop), Inv X pins σ H s → t σ H Q → wpAny (model X.prog X.w) X.A (isTrue e X.env (eval e X.env)) (TP X pins σ Q) X.xe s
/-- a test whatever its 'whole' is (and, or) -/
def PW (X : Cx) (e : Expr) (t : TT) : Prop :=
  ∀ (whole : Sem Value) (pins : List (Addr × Obj)) (s : Shared) (σ : St) (H : Hp) (Q : Bool → Hp → Prop), Inv X pins σ H s → t σ H Q → wpAny (model X.prog X.w) X.A (isTrue e X.env whole) (TP X pins σ Q) X.xe s
theorem PW.pt {X : Cx} {e : Expr} {t : TT} (h : PW X e t) : PT X e t := h _
/-- an argument list (no star), from the left -/
def PA (X : Cx) (es : List Expr) (t : TA) : Prop :=
  ∀ (pos : Pos) (pins : List (Addr × Obj)) (s : Shared) (σ : St) (H : Hp) (Q : List V → Hp → Prop), Inv X pins σ H s → t σ H Q → wpAny (model X.prog X.w) X.A (spliced (backTo pos (starEach es X.env))) (AP X pins σ Q) X.xe s
def PS (X : Cx) (st : Stmt) (t : TS) : Prop :=
  ∀ (pins : List (Addr × Obj)) (s : Shared) (σ : St) (H : Hp) (D : Ends), Inv X pins σ H s → t D σ H → wpAny (model X.prog X.w) X.A (exec st X.env) (SP X pins D) X.xe s
def PSs (X : Cx) (st : List Stmt) (t : TS) : Prop :=
  ∀ (pins : List (Addr × Obj)) (s : Shared) (σ : St) (H : Hp) (D : Ends), Inv X pins σ H s → t D σ H → wpAny (model X.prog X.w) X.A (execs st X.env) (SP X pins D) X.xe s
/-- weaken the end -/
theorem thn {α : Type} {t : Sem α} {Q Q' : α → Shared → Prop} {M : Model} {A : Around} {E : Value → Shared → Prop} {s : Shared} (h : wpAny M A t Q E s) (hQ : ∀ a s, Q a s → Q' a s) : wpAny M A t Q' E s := wpAny_mono h hQ fun _ _ x => x
end L2

namespace L2
open PySem PySem.Spec PyProof.Rows
section
variable {X : Cx}

/-! ### names and constants -/
def tVar (i : Nat) : TE := fun σ H Q => ∃ v, σ[i]? = some (some v) ∧ Q v H
def tC (v : V) : TE := fun _ H Q => Q v H
theorem pe_var {i : Nat} {x : Str} {pos : Pos} (hN : X.N[i]? = some x) (hv : Vis X.env.scope x) (hd : (x == ("__debug__" : Str)) = false := by decide) (hcd : (x == ("__classdict__" : Str)) = false := by decide) : PE X (.Name x pos) (tVar i) := by
  intro pins s σ H Q I h
  obtain ⟨v, e, h⟩ := h
  obtain ⟨m, hn, hl⟩ := I.loc
  obtain ⟨u, r, l⟩ := hl i x v hN e hv
  have fin : EP X pins σ Q u s := ⟨v, H, I, r, h⟩
  rcases l with ⟨hk, hm⟩ | ⟨hk, c, hc, hcell⟩
  · exact wpAny_Name (wpAny_loadName_local I.ok.kind hk hn hm fin) hd
  · rcases hk with hk | hk
    · exact wpAny_Name (wpAny_loadName_cell I.ok.kind hk hc hcell fin) hd
    · exact wpAny_Name (wpAny_loadName_free I.ok.kind hk hc hcell fin hcd) hd
theorem pe_int {i j pos} : PE X (.Constant (.int i) j pos) (tC (.int i)) := fun _ _ _ H _ I h => wpAny_Constant_int ⟨.int i, H, I.tok _, ⟨_, rfl⟩, h⟩
theorem pe_bl {b j pos} : PE X (.Constant (.bool b) j pos) (tC (.bl b)) := fun _ _ _ H _ I h => Constant_bool ⟨.bl b, H, I, rfl, h⟩
theorem pe_non {j pos} : PE X (.Constant .none j pos) (tC .non) := fun _ _ _ H _ I h => Constant_none ⟨.non, H, I, rfl, h⟩
theorem pe_str {x j pos} : PE X (.Constant (.str x) j pos) (tC (.str x)) := fun _ _ _ H _ I h => Calls.Constant_str ⟨.str x, H, I.tok _, ⟨_, rfl⟩, h⟩

/-- a global name of the def -/
def Gl (X : Cx) (x : Str) : Prop := X.env.kindOf x = some .globalImplicit
theorem ld_glob {E : Value → Shared → Prop} {pins : List (Addr × Obj)} {s : Shared} {σ : St} {H : Hp} {x : Str} {u : Value} {pos : Pos} {Q : Value → Shared → Prop} (I : Inv X pins σ H s) (hg : Gl X x) (hm : X.mg x = some u) (h : Q u s)
    (hd : (x == ("__debug__" : Str)) = false := by decide) : wpAny (model X.prog X.w) X.A (eval (.Name x pos) X.env) Q E s :=
  Calls.Name_function_global I.ok.kind hg (Calls.loadGlobal_global (by rw [I.ok.glob]; exact I.mod.glob.keeps I.bk) hm h) hd
theorem ld_blt {E : Value → Shared → Prop} {pins : List (Addr × Obj)} {s : Shared} {σ : St} {H : Hp} {x : Str} {u : Value} {pos : Pos} {Q : Value → Shared → Prop} (I : Inv X pins σ H s) (hg : Gl X x) (hm : X.mg x = none) (hv : bootBuiltins x = some u) (h : Q u s)
    (hn : x ≠ "__name__" := by decide) (hd : (x == ("__debug__" : Str)) = false := by decide) : wpAny (model X.prog X.w) X.A (eval (.Name x pos) X.env) Q E s := by
  obtain ⟨mb, h1, h2⟩ := I.mod.blt
  exact Calls.Name_function_global I.ok.kind hg (Calls.loadGlobal_builtin (by rw [I.ok.glob]; exact I.mod.glob.keeps I.bk) hm (by rw [I.ok.blt]; exact h1.keeps I.bk) ((h2 x hn).trans hv) h) hd
/-- a module's constant, a class, a function, as a value -/
theorem pe_glob {x : Str} {v : V} {u : Value} {pos : Pos} (hg : Gl X x) (hm : X.mg x = some u) (r : RelV v u) (hd : (x == ("__debug__" : Str)) = false := by decide) : PE X (.Name x pos) (tC v) :=
  fun _ _ _ H _ I h => ld_glob I hg hm ⟨v, H, I, r, h⟩ hd
theorem pe_bltn {x : Str} {v : V} {u : Value} {pos : Pos} (hg : Gl X x) (hm : X.mg x = none) (hv : bootBuiltins x = some u) (r : RelV v u) (hn : x ≠ "__name__" := by decide) (hd : (x == ("__debug__" : Str)) = false := by decide) : PE X (.Name x pos) (tC v) :=
  fun _ _ _ H _ I h => ld_blt I hg hm hv ⟨v, H, I, r, h⟩ hn hd

/-! ### arithmetic -/
/-- two ints -/
def t2I (ta tb : TE) (k : Int → Int → Hp → Prop) : St → Hp → Prop := fun σ H => ta σ H fun x H1 => tb σ H1 fun y H2 => ∃ i j, x = .int i ∧ y = .int j ∧ k i j H2
def tAdd (ta tb : TE) : TE := fun σ H Q => t2I ta tb (fun i j H2 => Q (.int (i + j)) H2) σ H
def tSub (ta tb : TE) : TE := fun σ H Q => t2I ta tb (fun i j H2 => Q (.int (i - j)) H2) σ H
/-- the left factor below 2^64 -/
def tMul (ta tb : TE) : TE := fun σ H Q => t2I ta tb (fun i j H2 => (-(2 ^ 64) < i ∧ i < 2 ^ 64) ∧ Q (.int (i * j)) H2) σ H
variable {a b : Expr} {ta tb : TE} {pos : Pos}
/-! ### comparisons -/
def PC (X : Cx) (op : CmpOp) (a b : Expr) (t : TE) : Prop :=
  ∀ (pins : List (Addr × Obj)) (s : Shared) (σ : St) (H : Hp) (Q : VK), Inv X pins σ H s → t σ H Q →
    wpAny (model X.prog X.w) X.A (eval a X.env) (fun v s₁ => wpAny (model X.prog X.w) X.A (eval b X.env) (fun u s₂ => wpAny (model X.prog X.w) X.A (compareOp op v u) (EP X pins σ Q) X.xe s₂) X.xe s₁) X.xe s
def tCmp (p : Int → Int → Bool) (ta tb : TE) : TE := fun σ H Q => t2I ta tb (fun i j H2 => Q (.bl (p i j)) H2) σ H
abbrev tLt : TE → TE → TE := tCmp fun i j => decide (i < j)
abbrev tLe : TE → TE → TE := tCmp fun i j => decide (i ≤ j)
abbrev tGt : TE → TE → TE := tCmp fun i j => decide (j < i)
abbrev tGe : TE → TE → TE := tCmp fun i j => decide (j ≤ i)
abbrev tEqI : TE → TE → TE := tCmp fun i j => decide (i = j)
abbrev tNeI : TE → TE → TE := tCmp fun i j => !decide (i = j)
/-- is None -/
def tIsN (ta : TE) : TE := fun σ H Q => ta σ H fun x H1 => Q (.bl (decide (x = .non))) H1
def tNotN (ta : TE) : TE := fun σ H Q => ta σ H fun x H1 => Q (.bl (!decide (x = .non))) H1
/-- a comparison as a value, as a test -/
def tB (t : TE) : TT := fun σ H Q => t σ H fun x H1 => ∃ c, x = .bl c ∧ Q c H1
/-- an expression whose value is a bool, as a test -/
theorem pt_val {e : Expr} {t : TE} (h : PE X e t) (he : ∀ whole, isTrue e X.env whole = (do let v ← whole; standAt e.pos; holding [v] (truthy v)) := by intro _; rfl) : PT X e (tB t) := by
  intro pins s σ H Q I hw
  refine isTrue_plain (thn (h pins s σ H _ I hw) fun v s1 ⟨x, H1, I1, r1, q1⟩ => ?_) (he _)
  obtain ⟨d, rfl, q⟩ := q1
  cases r1
  exact wpAny_truthy_bool ⟨H1, I1, q⟩

/-! ### and, or, not -/
variable {tA tB' : TT} {rest : List Expr}
def tAnd (t u : TT) : TT := fun σ H Q => t σ H fun c H1 => if c = true then u σ H1 Q else Q false H1
def tOr (t u : TT) : TT := fun σ H Q => t σ H fun c H1 => if c = true then Q true H1 else u σ H1 Q
def tNot (t : TT) : TT := fun σ H Q => t σ H fun c H1 => Q (!c) H1
theorem pw_and1 (ha : PT X a tA) : PW X (.BoolOp .And [a] pos) tA := by
  intro wh pins s σ H Q I h
  refine isTrue_and (thn (ha pins s σ H Q I h) fun c s1 e => ?_)
  cases c with
  | true => exact isTrue_and_nil e
  | false => exact e
theorem pw_or1 (ha : PT X a tA) : PW X (.BoolOp .Or [a] pos) tA := by
  intro wh pins s σ H Q I h
  refine isTrue_or (thn (ha pins s σ H Q I h) fun c s1 e => ?_)
  cases c with
  | false => exact isTrue_or_nil e
  | true => exact e
theorem pw_and (ha : PT X a tA) (hb : PW X (.BoolOp .And (b :: rest) pos) tB') : PW X (.BoolOp .And (a :: b :: rest) pos) (tAnd tA tB') := by
  intro wh pins s σ H Q I h
  refine isTrue_and (thn (ha pins s σ H _ I h) fun c s1 ⟨H1, I1, q1⟩ => ?_)
  cases c with
  | true => exact hb wh pins s1 σ H1 Q I1 q1
  | false => exact ⟨H1, I1, q1⟩
theorem pw_or (ha : PT X a tA) (hb : PW X (.BoolOp .Or (b :: rest) pos) tB') : PW X (.BoolOp .Or (a :: b :: rest) pos) (tOr tA tB') := by
  intro wh pins s σ H Q I h
  refine isTrue_or (thn (ha pins s σ H _ I h) fun c s1 ⟨H1, I1, q1⟩ => ?_)
  cases c with
  | true => exact ⟨H1, I1, q1⟩
  | false => exact hb wh pins s1 σ H1 Q I1 q1
theorem pt_not (ha : PT X a tA) : PT X (.UnaryOp .Not a pos) (tNot tA) := by
  intro pins s σ H Q I h
  exact isTrue_not (ha pins s σ H (fun c H1 => Q (!c) H1) I h)
/-- .. as values (bools) -/
def tAndV (ta tb : TE) : TE := fun σ H Q => ta σ H fun x H1 => ∃ c, x = .bl c ∧ if c = true then tb σ H1 Q else Q (.bl false) H1
def tOrV (ta tb : TE) : TE := fun σ H Q => ta σ H fun x H1 => ∃ c, x = .bl c ∧ if c = true then Q (.bl true) H1 else tb σ H1 Q
def tNotV (ta : TE) : TE := fun σ H Q => ta σ H fun x H1 => ∃ c, x = .bl c ∧ Q (.bl (!c)) H1
theorem pe_one {op} {t : TE} (h : PE X a t) : PE X (.BoolOp op [a] pos) t := fun pins s σ H Q I hw => BoolOp_one (h pins s σ H Q I hw)
theorem pe_and (ha : PE X a ta) (hb : PE X (.BoolOp .And (b :: rest) pos) tb) : PE X (.BoolOp .And (a :: b :: rest) pos) (tAndV ta tb) := by
  intro pins s σ H Q I h
  refine BoolOp_and (thn (ha pins s σ H _ I h) fun v s1 ⟨x, H1, I1, r1, q1⟩ => ?_)
  obtain ⟨c, rfl, q1⟩ := q1
  cases r1
  refine wpAny_truthy_bool ?_
  cases c with
  | true => exact hb pins s1 σ H1 Q I1 q1
  | false => exact ⟨.bl false, H1, I1, rfl, q1⟩
theorem pe_or (ha : PE X a ta) (hb : PE X (.BoolOp .Or (b :: rest) pos) tb) : PE X (.BoolOp .Or (a :: b :: rest) pos) (tOrV ta tb) := by
  intro pins s σ H Q I h
  refine BoolOp_or (thn (ha pins s σ H _ I h) fun v s1 ⟨x, H1, I1, r1, q1⟩ => ?_)
  obtain ⟨c, rfl, q1⟩ := q1
  cases r1
  refine wpAny_truthy_bool ?_
  cases c with
  | false => exact hb pins s1 σ H1 Q I1 q1
  | true => exact ⟨.bl true, H1, I1, rfl, q1⟩
/-- a if t else b -/
def tIf (t : TT) (ta tb : TE) : TE := fun σ H Q => t σ H fun c H1 => if c = true then ta σ H1 Q else tb σ H1 Q
end
end L2

namespace L2
open PySem PySem.Spec PyProof.Rows

/-! ### a list, a tuple that is read: tracked, frozen, or an object of the module -/
def SqL (K : PySem.W.Frag) (H : Hp) (a : Addr) (xs : List V) : Prop :=
  Rd H a (.lst xs) ∨
    ∃ (o : Obj) (its : Array Value) (n : Nat), K.lookup a = some o ∧ o.cls = .type "list" ∧ o.dict = none ∧ o.data = .seq its n ∧ its.size ≤ sizeLine ∧ Vals xs its.toList
def SqT (K : PySem.W.Frag) (H : Hp) (a : Addr) (xs : List V) : Prop :=
  Rd H a (.tup xs) ∨
    ∃ (o : Obj) (its : Array Value) (n : Nat), K.lookup a = some o ∧ o.cls = .type "tuple" ∧ o.data = .seq its n ∧ its.size ≤ sizeLine ∧ Vals xs its.toList
def absV : Value → Option V
  | .none => some .non
  | .bool b => some (.bl b)
  | .int i _ => some (.int i)
  | .str x _ => some (.str x)
  | .bytes b _ => some (.byt b)
  | .float b _ => some (.flt b)
  | .ref a => some (.ref a)
  | .type n => some (.ty n)
  | _ => none
theorem RelV.abs {x : V} {u : Value} (r : RelV x u) : absV u = some x := by
  cases x with
  | non => cases r; rfl
  | bl _ => cases r; rfl
  | int _ => obtain ⟨t, rfl⟩ := r; rfl
  | str _ => obtain ⟨t, rfl⟩ := r; rfl
  | byt _ => obtain ⟨t, rfl⟩ := r; rfl
  | flt _ => obtain ⟨t, rfl⟩ := r; rfl
  | ref _ => cases r; rfl
  | ty _ => cases r; rfl
theorem RelV.inj {x y : V} {u : Value} (r : RelV x u) (q : RelV y u) : x = y := Option.some.inj (r.abs.symm.trans q.abs)
theorem Vals.inj : ∀ {xs ys : List V} {us : List Value}, Vals xs us → Vals ys us → xs = ys
  | _, _, _, .nil, .nil => rfl
  | _, _, _, .cons r t, .cons r' t' => by rw [r.inj r', Vals.inj t t']
section
variable {X : Cx} {pins : List (Addr × Obj)} {σ : St} {H : Hp} {s : Shared} {a : Addr} {xs ys : List V}
theorem SqL.of {K : PySem.W.Frag} (h : H a = some (.lst xs)) : SqL K H a xs := .inl (.inl h)
theorem SqT.of {K : PySem.W.Frag} (h : H a = some (.tup xs)) : SqT K H a xs := .inl (.inl h)
theorem Inv.list (I : Inv X pins σ H s) (h : SqL X.K H a xs) : ∃ its : List Value, Vals xs its ∧ PlainL s.heap a its.toArray ∧ xs.length ≤ sizeLine := by
  rcases h with h | ⟨o, its, n, hk, hc, hd, hs, hz, r⟩
  · obtain ⟨z, its, n, r, e⟩ := h.ok I.hok
    exact ⟨its, r, ⟨_, n, e, rfl, rfl, rfl⟩, z⟩
  · refine ⟨its.toList, r, ⟨o, n, I.kIn a o hk, hc, hd, by simpa using hs⟩, ?_⟩
    have e := r.length
    simp only [Array.length_toList] at e
    omega
theorem Inv.tuple (I : Inv X pins σ H s) (h : SqT X.K H a xs) : ∃ its : List Value, Vals xs its ∧ IsTup s.heap a its.toArray ∧ xs.length ≤ sizeLine := by
  rcases h with h | ⟨o, its, n, hk, hc, hs, hz, r⟩
  · obtain ⟨z, its, r, p⟩ := h.ok I.hok
    exact ⟨its, r, p, z⟩
  · refine ⟨its.toList, r, ⟨o, I.kIn a o hk, hc, n, by simpa using hs⟩, ?_⟩
    have e := r.length
    simp only [Array.length_toList] at e
    omega
theorem Inv.list_inj (I : Inv X pins σ H s) (h : SqL X.K H a xs) (h' : SqL X.K H a ys) : xs = ys := by
  obtain ⟨its, r, ⟨o, n, e, _, _, d⟩, _⟩ := I.list h
  obtain ⟨its', r', ⟨o', n', e', _, _, d'⟩, _⟩ := I.list h'
  rw [e] at e'; cases e'
  rw [d] at d'
  injection d' with d1 _
  have : its = its' := by simpa using congrArg Array.toList d1
  subst this
  exact r.inj r'
theorem Inv.tuple_inj (I : Inv X pins σ H s) (h : SqT X.K H a xs) (h' : SqT X.K H a ys) : xs = ys := by
  obtain ⟨its, r, ⟨o, e, _, n, d⟩, _⟩ := I.tuple h
  obtain ⟨its', r', ⟨o', e', _, n', d'⟩, _⟩ := I.tuple h'
  rw [e] at e'; cases e'
  rw [d] at d'
  injection d' with d1 _
  have : its = its' := by simpa using congrArg Array.toList d1
  subst this
  exact r.inj r'
end

/-! ### another wish about exceptions -/
abbrev Cx.wish (X : Cx) (E : Value → Shared → Prop) : Cx := { X with xe := E }
/-- no exception leaves -/
abbrev Cx.nox (X : Cx) : Cx := X.wish fun _ _ => False
theorem Cx.Ok.wish {X : Cx} (ok : X.Ok) (E : Value → Shared → Prop) : (X.wish E).Ok :=
  ⟨ok.mod, ok.kind, ok.glob, ok.blt, ok.above, ok.inj, ok.has, ok.cab, ok.hd, ok.frames, ok.stk, ok.exf, ok.bs, ok.bsz, ok.noex, ok.exfs, ok.funs, ok.frf⟩
theorem Cx.Ok.unwish {X : Cx} {E : Value → Shared → Prop} (ok : (X.wish E).Ok) : X.Ok :=
  ⟨ok.mod, ok.kind, ok.glob, ok.blt, ok.above, ok.inj, ok.has, ok.cab, ok.hd, ok.frames, ok.stk, ok.exf, ok.bs, ok.bsz, ok.noex, ok.exfs, ok.funs, ok.frf⟩
section
variable {X : Cx} {pins : List (Addr × Obj)} {σ : St} {H : Hp} {s : Shared} {E : Value → Shared → Prop}
theorem Inv.wish (I : Inv X pins σ H s) (E : Value → Shared → Prop) : Inv (X.wish E) pins σ H s := ⟨I.ok.wish E, I.os, I.bare, I.base, I.loc, I.cell, I.free, I.freeC, I.pin, I.hok, I.len⟩
theorem Inv.unwish (I : Inv (X.wish E) pins σ H s) : Inv X pins σ H s := ⟨I.ok.unwish, I.os, I.bare, I.base, I.loc, I.cell, I.free, I.freeC, I.pin, I.hok, I.len⟩
theorem SP.unwish {D : Ends} {f : Flow} {s' : Shared} (h : SP (X.wish E) pins D f s') : SP X pins D f s' := by
  cases f with
  | next => obtain ⟨σ', H', I, q⟩ := h; exact ⟨σ', H', I.unwish, q⟩
  | brk => obtain ⟨σ', H', I, q⟩ := h; exact ⟨σ', H', I.unwish, q⟩
  | cont => obtain ⟨σ', H', I, q⟩ := h; exact ⟨σ', H', I.unwish, q⟩
  | ret u => obtain ⟨v, σ', H', I, r, q⟩ := h; exact ⟨v, σ', H', I.unwish, r, q⟩
theorem PE.nox {e : Expr} {t : TE} (h : PE X.nox e t) : PE X e t := fun pins s σ H Q I hw =>
  wpAny_mono (h pins s σ H Q (I.wish _) hw) (fun _ _ ⟨v, H', I', r, q⟩ => ⟨v, H', I'.unwish, r, q⟩) fun _ _ z => False.elim z
theorem PSs.nox {st : List Stmt} {t : TS} (h : PSs X.nox st t) : PSs X st t := fun pins s σ H D I hw =>
  wpAny_mono (h pins s σ H D (I.wish _) hw) (fun _ _ q => q.unwish) fun _ _ z => False.elim z
end

/-! ### blocks and small statements -/
section
variable {X : Cx} {st : Stmt} {rest : List Stmt} {t u : TS} {e : Expr} {te : TE} {pos : Pos}
def tNext : TS := fun D σ H => D.nx σ H
def tSeq (t u : TS) : TS := fun D σ H => t { D with nx := u D } σ H
theorem pss_nil : PSs X [] tNext := fun _ _ σ H _ I h => wpAny_execs_nil ⟨σ, H, I, h⟩
theorem pss_cons (h1 : PS X st t) (h2 : PSs X rest u) : PSs X (st :: rest) (tSeq t u) := by
  intro pins s σ H D I h
  refine wpAny_execs_cons (thn (h1 pins s σ H { D with nx := u D } I h) fun f s1 q => ?_)
  cases f with
  | next =>
    obtain ⟨σ', H', I', q⟩ := q
    exact h2 pins s1 σ' H' D I' q
  | ret v => exact q
  | brk => exact q
  | cont => exact q
theorem pss_one (h1 : PS X st t) : PSs X [st] t := by
  intro pins s σ H D I h
  refine wpAny_execs_cons (thn (h1 pins s σ H D I h) fun f s1 q => ?_)
  cases f with
  | next => exact wpAny_execs_nil q
  | ret v => exact q
  | brk => exact q
  | cont => exact q
def tBreak : TS := fun D σ H => D.bk σ H
def tCont : TS := fun D σ H => D.ct σ H
/-- in a def's body nothing is shown -/
theorem Inv.quiet {pins : List (Addr × Obj)} {σ : St} {H : Hp} {s : Shared} (I : Inv X pins σ H s) : interactive X.env = false := by simp [interactive, I.ok.kind]
/-- an expression whose value is dropped -/
def tDrop (te : TE) : TS := fun D σ H => te σ H fun _ H1 => D.nx σ H1
theorem ps_expr (he : PE X e te) (hs : swapsWith e none pos.line X.env = pure false := by rfl) : PS X (.Expr e pos) (tDrop te) := by
  intro pins s σ H D I h
  exact wpAny_Expr_any (thn (he pins s σ H _ I h) fun v s1 ⟨x, H1, I1, r1, q1⟩ => ⟨σ, H1, I1, q1⟩) I.quiet hs
def tRet (te : TE) : TS := fun D σ H => te σ H D.rt
theorem ps_ret (he : PE X e te) : PS X (.Return (some e) pos) (tRet te) := by
  intro pins s σ H D I h
  exact wpAny_Return_some (thn (he pins s σ H _ I h) fun v s1 ⟨x, H1, I1, r1, q1⟩ => ⟨x, σ, H1, I1, r1, q1⟩)
def tRetN : TS := fun D _ H => D.rt .non H
def tIfS (c : TT) (t u : TS) : TS := fun D σ H => c σ H fun b H1 => if b = true then t D σ H1 else u D σ H1
theorem ps_if {c : Expr} {a b : List Stmt} {tc : TT} (hc : PT X c tc) (ha : PSs X a t) (hb : PSs X b u) : PS X (.If c a b pos) (tIfS tc t u) := by
  intro pins s σ H D I h
  refine wpAny_If (thn (hc pins s σ H _ I h) fun d s1 ⟨H1, I1, q1⟩ => ?_)
  cases d with
  | true => exact ha pins s1 σ H1 D I1 q1
  | false => exact hb pins s1 σ H1 D I1 q1
/-- code that the proof never comes to -/
def tNever : TS := fun _ _ _ => False
theorem pss_never {sts : List Stmt} : PSs X sts tNever := fun _ _ _ _ _ _ h => h.elim
end

/-! ### targets -/
abbrev TG := V → St → Hp → (St → Hp → Prop) → Prop
abbrev TGs := List V → St → Hp → (St → Hp → Prop) → Prop
def PG (X : Cx) (target : Expr) (t : TG) : Prop :=
  ∀ (pins : List (Addr × Obj)) (s : Shared) (σ : St) (H : Hp) (v : V) (u : Value) (Q : St → Hp → Prop), Inv X pins σ H s → RelV v u → t v σ H Q →
    wpAny (model X.prog X.w) X.A (assign target X.env u) (fun _ s' => ∃ σ' H', Inv X pins σ' H' s' ∧ Q σ' H') X.xe s
/-- several targets, one after another -/
def PGs (X : Cx) (ts : List Expr) (t : TGs) : Prop :=
  ∀ (pins : List (Addr × Obj)) (s : Shared) (σ : St) (H : Hp) (vs : List V) (us : List Value) (Q : St → Hp → Prop), Inv X pins σ H s → Vals vs us → t vs σ H Q →
    wpAny (model X.prog X.w) X.A (assignInOrder ((assignEach ts X.env).map (·.2)) us) (fun _ s' => ∃ σ' H', Inv X pins σ' H' s' ∧ Q σ' H') X.xe s
/-- o[i] = v, by values -/
abbrev TSet := V → V → V → Hp → (Hp → Prop) → Prop
def PSet (X : Cx) (t : TSet) : Prop :=
  ∀ (pins : List (Addr × Obj)) (s : Shared) (σ : St) (H : Hp) (o i v : V) (ov iv u : Value) (Q : Hp → Prop), Inv X pins σ H s → RelV o ov → RelV i iv → RelV v u → t o i v H Q →
    wpAny (model X.prog X.w) X.A (setItem ov iv u) (fun _ s' => ∃ H', Inv X pins σ H' s' ∧ Q H') X.xe s
/-- a op= b, by values -/
abbrev TIp := V → V → Hp → VK → Prop
def PIp (X : Cx) (op : Operator) (t : TIp) : Prop :=
  ∀ (pins : List (Addr × Obj)) (s : Shared) (σ : St) (H : Hp) (x y : V) (v u : Value) (Q : VK), Inv X pins σ H s → RelV x v → RelV y u → t x y H Q →
    wpAny (model X.prog X.w) X.A (inplaceOp op v u) (EP X pins σ Q) X.xe s
section
variable {X : Cx} {pos : Pos}
def gName (i : Nat) : TG := fun v σ H Q => Q (σ.set i (some v)) H
theorem pg_name {i : Nat} {x : Str} (hN : X.N.Nodup) (hi : X.N[i]? = some x) (hx : Loc X.env.scope x) (hf : X.fn x = true ∨ X.env.scope.names.lookup x = some .local := by first | exact .inl rfl | exact .inr rfl | assumption) : PG X (.Name x pos) (gName i) := by
  intro pins s σ H v u Q I r h
  exact wpAny_assign_Name (store_ok I hN hi hx r (fun s' I' => ⟨_, H, I', h⟩) hf)
def gNil : TGs := fun vs σ H Q => vs = [] ∧ Q σ H
def gCons (t : TG) (u : TGs) : TGs := fun vs σ H Q => ∃ v r, vs = v :: r ∧ t v σ H fun σ' H' => u r σ' H' Q
theorem pgs_nil : PGs X [] gNil := by
  intro pins s σ H vs us Q I r h
  obtain ⟨e, h⟩ := h
  subst e
  cases r
  exact assignInOrder_nil ⟨σ, H, I, h⟩
theorem pgs_cons {e : Expr} {es : List Expr} {t : TG} {u : TGs} (h1 : PG X e t) (h2 : PGs X es u)
    (hs : (assignEach (e :: es) X.env).map (·.2) = assign e X.env :: (assignEach es X.env).map (·.2) := by rfl) : PGs X (e :: es) (gCons t u) := by
  intro pins s σ H vs us Q I r h
  obtain ⟨v, vr, e1, h⟩ := h
  subst e1
  cases r with
  | cons r rr =>
    rw [hs]
    refine assignInOrder_cons (thn (h1 pins s σ H _ _ _ I r h) fun _ s1 ⟨σ1, H1, I1, q1⟩ => ?_)
    exact h2 pins s1 σ1 H1 _ _ Q I1 rr q1
/-- (a, b, ..) = a tuple of that length -/
def gTup (K : PySem.W.Frag) (n : Nat) (t : TGs) : TG := fun v σ H Q => ∃ a xs, v = .ref a ∧ SqT K H a xs ∧ xs.length = n ∧ t xs σ H Q
theorem pg_tup {es : List Expr} {k : Nat} {t : TGs} {n : Nat} (hc : X.calm = true) (h : PGs X es t)
    (hn : (assignEach es X.env).length = n := by rfl) (hst : (assignEach es X.env).findIdx? (·.1) = none := by rfl) : PG X (.Tuple es k pos) (gTup X.K n t) := by
  intro pins s σ H v u Q I r hw
  obtain ⟨a, xs, e1, hq, hl, hw⟩ := hw
  subst e1
  cases r
  obtain ⟨its, rv, ht, hz⟩ := I.tuple hq
  refine assign_Tuple_tuple (I.ok.hd hc) ht (by simp [hn, ← hl, rv.length]) hst fun h' hx => ?_
  have I1 : Inv X pins σ H { s with heap := h' } := I.kept (t' := s.toks) fun b o e => hx b o (Nat.ne_of_lt (Heap.lt_size e)) e
  exact h pins _ σ H xs _ Q I1 (by simpa using rv) hw
/-- o[i] = .. -/
def gSub (to ti : TE) (t : TSet) : TG := fun v σ H Q => to σ H fun o H1 => ti σ H1 fun i H2 => t o i v H2 fun H3 => Q σ H3
/-- target = value -/
def tAsg (te : TE) (g : TG) : TS := fun D σ H => te σ H fun x H1 => g x σ H1 D.nx
theorem ps_asg {tg e : Expr} {te : TE} {g : TG} (he : PE X e te) (hg : PG X tg g) (hs : swapsWithSole [tg] e pos.line X.env = pure false := by rfl) (hw : swappedStores [tg] e X.env = pure none := by rfl)
    (h1 : (assignEach [tg] X.env).map (·.2) = [assign tg X.env] := by rfl) : PS X (.Assign [tg] e pos) (tAsg te g) := by
  intro pins s σ H D I h
  refine wpAny_Assign_stores (thn (he pins s σ H _ I h) fun v s1 ⟨x, H1, I1, r1, q1⟩ => ?_) hs hw
  rw [h1]
  exact thn (hg pins s1 σ H1 x v _ I1 r1 q1) fun _ s2 q => q
/-- name = value -/
theorem ps_set {i : Nat} {x : Str} {e : Expr} {te : TE} {pos' : Pos} (hN : X.N.Nodup) (hi : X.N[i]? = some x) (hx : Loc X.env.scope x) (he : PE X e te) (hs : swapsWith e (some (.Name x pos')) pos.line X.env = pure false := by rfl) (hf : X.fn x = true ∨ X.env.scope.names.lookup x = some .local := by first | exact .inl rfl | exact .inr rfl | assumption) :
    PS X (.Assign [.Name x pos'] e pos) (tAsg te (gName i)) := by
  intro pins s σ H D I h
  refine wpAny_Assign_Name (thn (he pins s σ H _ I h) fun v s1 ⟨y, H1, I1, r1, q1⟩ => ?_) hs
  exact store_ok I1 hN hi hx r1 (fun s2 I2 => ⟨_, H1, I2, q1⟩) hf
/-- a, b = x, y with plain local names: stored from the right; the pair itself is not tracked (the opening rows as in PyProof/Rows/TupAssign.lean:23) -/
def tPar (i j : Nat) (ta : TA) : TS := fun D σ H => ta σ H fun vs H1 => ∃ v w, vs = [v, w] ∧ D.nx ((σ.set i (some v)).set j (some w)) H1
/-- name op= e -/
def tAug (i : Nat) (te : TE) (ti : TIp) : TS := fun D σ H => ∃ x, σ[i]? = some (some x) ∧ te σ H fun y H1 => ti x y H1 fun z H2 => D.nx (σ.set i (some z)) H2
/-- o[i] op= e -/
def tAugS (to ti te : TE) (tget : V → V → Hp → VK → Prop) (tip : TIp) (tset : TSet) : TS := fun D σ H => to σ H fun o H1 => ti σ H1 fun i H2 => tget o i H2 fun x H3 => te σ H3 fun y H4 => tip x y H4 fun z H5 => tset o i z H5 fun H6 => D.nx σ H6
/-- o[i], by values -/
def PGet (X : Cx) (t : V → V → Hp → VK → Prop) : Prop :=
  ∀ (pins : List (Addr × Obj)) (s : Shared) (σ : St) (H : Hp) (o i : V) (ov iv : Value) (Q : VK), Inv X pins σ H s → RelV o ov → RelV i iv → t o i H Q →
    wpAny (model X.prog X.w) X.A (getItem ov iv) (EP X pins σ Q) X.xe s
/-- ints -/
def ipI (f : Int → Int → Int) : TIp := fun x y H Q => ∃ i j, x = .int i ∧ y = .int j ∧ Q (.int (f i j)) H
end

/-! ### while -/
section
variable {X : Cx} {pos : Pos}
/-- the invariant W with its measure -/
def tWhile (c : TT) (tb : TS) : TS := fun D σ H => ∃ W : Nat → St → Hp → Prop, (∃ m, W m σ H) ∧ ∀ m σ H, W m σ H →
  c σ H fun b H1 => if b = true then ∃ N : St → Hp → Prop, (∀ σ' H', N σ' H' → ∃ m', m' < m ∧ W m' σ' H') ∧ tb { D with nx := N, ct := N, bk := D.nx } σ H1 else D.nx σ H1
theorem ps_while {c : Expr} {body : List Stmt} {tc : TT} {tb : TS} (hp : PassesOwn (model X.prog X.w) X.A X.env X.xe) (hc : PT X c tc) (hb : PSs X body tb) : PS X (.While c body [] pos) (tWhile tc tb) := by
  intro pins s σ H D I h
  obtain ⟨W, ⟨m0, w0⟩, turn⟩ := h
  refine wpAny_While (codeAny_whileLoop (fun n s' => ∃ σ' H', Inv X pins σ' H' s' ∧ W n σ' H') ?_ m0 ⟨σ, H, I, w0⟩)
  rintro n s1 ⟨σ1, H1, I1, w1⟩
  refine wpAny_passesOwn hp (thn (hc pins s1 σ1 H1 _ I1 (turn n σ1 H1 w1)) fun b s2 ⟨H2, I2, q2⟩ => ?_)
  cases b with
  | true =>
    obtain ⟨N, hN, q2⟩ := q2
    rw [if_pos rfl]
    refine wpAny_passesOwn hp (thn (hb pins s2 σ1 H2 _ I2 q2) fun f s3 q3 => ?_)
    cases f with
    | next =>
      obtain ⟨σ3, H3, I3, n3⟩ := q3
      obtain ⟨m', hm, w3⟩ := hN σ3 H3 n3
      exact ⟨m', hm, σ3, H3, I3, w3⟩
    | cont =>
      obtain ⟨σ3, H3, I3, n3⟩ := q3
      obtain ⟨m', hm, w3⟩ := hN σ3 H3 n3
      exact ⟨m', hm, σ3, H3, I3, w3⟩
    | brk => exact q3
    | ret v => exact q3
  | false =>
    rw [if_neg Bool.false_ne_true]
    exact wpAny_execs_nil ⟨σ1, H2, I2, q2⟩
end

/-! ### what a loop or a comprehension walks -/
/-- at turn i: it yields x (the heap may grow), or it stops -/
structure It where
  go : Nat → Hp → Prop
  yld : Nat → Hp → V → Hp → Prop
  stop : Nat → Hp → Prop
/-- the iterator's own objects may turn: they are not the frame's, not pinned, younger than the entry (or a comprehension's own) -/
def FpOk (X : Cx) (pins : List (Addr × Obj)) (H : Hp) (b : Addr) : Prop :=
  H b = none ∧ b ≠ X.env.locals ∧ b ∉ X.fs ∧ (b ∈ X.ex ∨ X.s₀.heap.objs.size ≤ b) ∧ (∀ x c, X.env.cells.lookup x = some c → c ≠ b) ∧ ∀ p ∈ X.pn ++ pins, p.1 ≠ b
theorem Inv.fpOk {X : Cx} {pins : List (Addr × Obj)} {σ : St} {H H' : Hp} {s : Shared} {b : Addr} (I : Inv X pins σ H s) (hb : s.heap.objs.size ≤ b) (hn : H' b = none) : FpOk X pins H' b := by
  refine ⟨hn, Nat.ne_of_gt (Nat.lt_of_lt_of_le I.lt hb), I.nofs hb, .inr (Nat.le_trans I.sz hb), fun x c e z => ?_, fun p hp z => ?_⟩
  · obtain ⟨v, q⟩ := I.cell x c e
    exact absurd (Nat.lt_of_lt_of_le q.lt (by rw [z]; exact hb)) (Nat.lt_irrefl _)
  · exact absurd (Nat.lt_of_lt_of_le (Heap.lt_size (I.pin p hp).1) (by rw [z]; exact hb)) (Nat.lt_irrefl _)
structure Turn (P : Program) (w : World) (K : PySem.W.Frag) (tg : Expr) (J : It) (fp : List Addr) (it : Addr) (tn : Nat → Heap → Prop) : Prop where
  mem : it ∈ fp
  obj : ∀ i h, tn i h → ∀ b ∈ fp, ∃ o, h.get? b = some o ∧ ∀ v, o.data ≠ .cell v
  keep : ∀ i h h', tn i h → (∀ b ∈ fp, ∀ o, h.get? b = some o → h'.get? b = some o) → tn i h'
  item : ∀ (X : Cx), X.prog = P → X.w = w → X.K = K → X.calm = true → ∀ (i : Nat) (pins : List (Addr × Obj)) (s : Shared) (σ : St) (H : Hp) (E : Value → Shared → Prop), Inv X pins σ H s → (∀ b ∈ fp, FpOk X pins H b) → tn i s.heap → J.go i H →
    wpAny (model P w) X.A (pyNext (.ref it)) (fun r s1 => ∃ u, r = some u ∧
      wpAny (model P w) X.A (letOwnedTupleGo tg (.ref it) u) (fun _ s2 => ∃ x H', Inv X pins σ H' s2 ∧ RelV x u ∧ J.yld i H x H' ∧ tn (i + 1) s2.heap ∧ ∀ b ∈ fp, H' b = none) E s1) E s
  done : ∀ (X : Cx), X.prog = P → X.w = w → X.K = K → X.calm = true → ∀ (i : Nat) (pins : List (Addr × Obj)) (s : Shared) (σ : St) (H : Hp) (E : Value → Shared → Prop), Inv X pins σ H s → (∀ b ∈ fp, FpOk X pins H b) → tn i s.heap → J.stop i H →
    wpAny (model P w) X.A (pyNext (.ref it)) (fun r s1 => r = none ∧ Inv X pins σ H s1) E s
  self : ∀ (A : Around) (i : Nat) (s : Shared) (Q : Value → Shared → Prop) (E : Value → Shared → Prop), tn i s.heap → Q (.ref it) s → wpAny (model P w) A (pyIter (.ref it)) Q E s
abbrev TI := St → Hp → (It → Hp → Prop) → Prop
/-- an iterator has come -/
def PIE (X : Cx) (pins : List (Addr × Obj)) (σ : St) (tg : Expr) (R : It → Hp → Prop) (itv : Value) (s2 : Shared) : Prop :=
  ∃ (it : Addr) (fp : List Addr) (tn : Nat → Heap → Prop) (J : It) (H' : Hp), itv = .ref it ∧ Inv X pins σ H' s2 ∧ Turn X.prog X.w X.K tg J fp it tn ∧ tn 0 s2.heap ∧ (∀ b ∈ fp, FpOk X pins H' b) ∧ R J H'
def PI (X : Cx) (tg iter : Expr) (wi : TI) : Prop :=
  ∀ (pins : List (Addr × Obj)) (s : Shared) (σ : St) (H : Hp) (R : It → Hp → Prop), Inv X pins σ H s → wi σ H R →
    wpAny (model X.prog X.w) X.A (eval iter X.env) (fun v s1 => wpAny (model X.prog X.w) X.A (pyIter v) (PIE X pins σ tg R) X.xe s1) X.xe s

/-- the step ahead of the store is nothing for an iterator that keeps no tuple -/
theorem go_of {M : Model} {A : Around} {E : Value → Shared → Prop} {s : Shared} {tg : Expr} {it : Addr} {u : Value} {o : Obj} {n : String} {vs : Array Value} {Q : Unit → Shared → Prop} (ho : s.heap.get? it = some o) (hc : o.cls = .type n) (hd : o.data = .fields vs)
    (hn : ["enumerate", "zip", "dict_itemiterator", "dict_reverseitemiterator", "odict_iterator", "itertools.zip_longest", "itertools.pairwise"].contains n = false) (hQ : Q () s) : wpAny M A (letOwnedTupleGo tg (.ref it) u) Q E s := by
  unfold letOwnedTupleGo
  cases tg <;> first
    | exact wpAny_pure hQ
    | (cases u <;> first
        | exact wpAny_pure hQ
        | (refine wpAny_bind (wpAny_load ho ?_)
           rw [hc, hd]
           show wpAny M A (if (["enumerate", "zip", "dict_itemiterator", "dict_reverseitemiterator", "odict_iterator", "itertools.zip_longest", "itertools.pairwise"].contains n && vs[0]? == some (rawInt _)) = true then _ else _) Q E s
           rw [if_neg (by intro h; rw [hn, Bool.false_and] at h; cases h)]
           exact wpAny_pure hQ))

/-- the list at a, as it stands at each turn (a loop may append to it) -/
def Itl (K : PySem.W.Frag) (a : Addr) : It :=
  ⟨fun i H => ∃ xs x, SqL K H a xs ∧ xs[i]? = some x, fun i H x H' => H' = H ∧ ∀ xs, SqL K H a xs → xs[i]? = some x, fun i H => ∃ xs, SqL K H a xs ∧ xs.length ≤ i⟩
def Itt (K : PySem.W.Frag) (a : Addr) : It :=
  ⟨fun i H => ∃ xs x, SqT K H a xs ∧ xs[i]? = some x, fun i H x H' => H' = H ∧ ∀ xs, SqT K H a xs → xs[i]? = some x, fun i H => ∃ xs, SqT K H a xs ∧ xs.length ≤ i⟩
/-- lo, lo + 1, .. (n of them) -/
def Itr (lo : Int) (n : Nat) : It := ⟨fun i _ => i < n, fun i H x H' => H' = H ∧ x = .int (lo + i), fun i _ => n ≤ i⟩
theorem turn_list {P : Program} {w : World} {K : PySem.W.Frag} {tg : Expr} (a it : Addr) : Turn P w K tg (Itl K a) [it] it (fun i h => h.IsListIter it a i) where
  mem := by simp
  obj := fun i h st b hb => by
    have e : b = it := by simpa using hb
    subst e
    obtain ⟨o, e, c, d⟩ := st
    exact ⟨o, e, fun v z => by rw [d] at z; cases z⟩
  keep := fun i h h' st k => st.at fun o e => k it (by simp) o e
  item := by
    intro X hP hw hK hc i pins s σ H E I hf st hg
    subst hP hw hK
    obtain ⟨xs, x, hq, hx⟩ := hg
    obtain ⟨its, rv, p, hz⟩ := I.list hq
    obtain ⟨u, hu, ru⟩ := rv.get hx
    obtain ⟨f0, f1, f2, f3, f4, f5⟩ := hf it (by simp)
    refine wpAny_pyNext_list_item st p.isList (x := u) (by simpa using hu) fun h' st' sb => ?_
    have I1 : Inv X pins σ H { s with heap := h' } := I.turned (t' := s.toks) (fun b o hb e => (sb.2 b hb).trans e) f0 f1 f3 f4 f5
    obtain ⟨o, e, c, d⟩ := id st'
    exact ⟨u, rfl, go_of (s := { s with heap := h' }) e c d (by decide) ⟨x, H, I1, ru, ⟨rfl, fun ys hy => by rw [I.list_inj hy hq]; exact hx⟩, st', fun b hb => (hf b hb).1⟩⟩
  done := by
    intro X hP hw hK hc i pins s σ H E I hf st hg
    subst hP hw hK
    obtain ⟨xs, hq, hx⟩ := hg
    obtain ⟨its, rv, p, hz⟩ := I.list hq
    obtain ⟨f0, f1, f2, f3, f4, f5⟩ := hf it (by simp)
    have hl := rv.length
    exact wpAny_pyNext_list_end (I.ok.hd hc) st p.isList (by simp; omega) fun h' eb => ⟨rfl, I.turned (t' := s.toks) (fun b o hb e => eb b o hb e) f0 f1 f3 f4 f5⟩
  self := fun _ _ _ _ _ st h => wpAny_pyIter_listiter st h
theorem turn_tuple {P : Program} {w : World} {K : PySem.W.Frag} {tg : Expr} (a it : Addr) : Turn P w K tg (Itt K a) [it] it (fun i h => h.IsTupleIter it a i) where
  mem := by simp
  obj := fun i h st b hb => by
    have e : b = it := by simpa using hb
    subst e
    obtain ⟨o, e, c, d⟩ := st
    exact ⟨o, e, fun v z => by rw [d] at z; cases z⟩
  keep := fun i h h' st k => st.at fun o e => k it (by simp) o e
  item := by
    intro X hP hw hK hc i pins s σ H E I hf st hg
    subst hP hw hK
    obtain ⟨xs, x, hq, hx⟩ := hg
    obtain ⟨its, rv, p, hz⟩ := I.tuple hq
    obtain ⟨u, hu, ru⟩ := rv.get hx
    obtain ⟨f0, f1, f2, f3, f4, f5⟩ := hf it (by simp)
    refine wpAny_pyNext_tuple_item st (show s.heap.IsTuple a its.toArray from p) (x := u) (by simpa using hu) fun h' st' sb => ?_
    have I1 : Inv X pins σ H { s with heap := h' } := I.turned (t' := s.toks) (fun b o hb e => (sb.2 b hb).trans e) f0 f1 f3 f4 f5
    obtain ⟨o, e, c, d⟩ := id st'
    exact ⟨u, rfl, go_of (s := { s with heap := h' }) e c d (by decide) ⟨x, H, I1, ru, ⟨rfl, fun ys hy => by rw [I.tuple_inj hy hq]; exact hx⟩, st', fun b hb => (hf b hb).1⟩⟩
  done := by
    intro X hP hw hK hc i pins s σ H E I hf st hg
    subst hP hw hK
    obtain ⟨xs, hq, hx⟩ := hg
    obtain ⟨its, rv, p, hz⟩ := I.tuple hq
    obtain ⟨f0, f1, f2, f3, f4, f5⟩ := hf it (by simp)
    have hl := rv.length
    exact wpAny_pyNext_tuple_end (I.ok.hd hc) st (show s.heap.IsTuple a its.toArray from p) (by simp; omega) fun h' eb => ⟨rfl, I.turned (t' := s.toks) (fun b o hb e => eb b o hb e) f0 f1 f3 f4 f5⟩
  self := fun _ _ _ _ _ st h => wpAny_pyIter_tupleiter st h
theorem turn_range {P : Program} {w : World} {K : PySem.W.Frag} {tg : Expr} (it : Addr) (lo : Int) (n : Nat) : Turn P w K tg (Itr lo n) [it] it (fun i h => IsRangeIter h it (lo + (i : Nat) * 1) ((n : Int) - (i : Nat)) 1) where
  mem := by simp
  obj := fun i h st b hb => by
    have e : b = it := by simpa using hb
    subst e
    exact ⟨_, st, fun v z => by
      have z' : Data.fields _ = Data.cell v := z
      cases z'⟩
  keep := fun i h h' st k => k it (by simp) _ st
  item := by
    intro X hP hw hK hc i pins s σ H E I hf st hg
    subst hP hw hK
    obtain ⟨f0, f1, f2, f3, f4, f5⟩ := hf it (by simp)
    have W := Walks.range (prog := X.prog) (w := X.w) (I.ok.hd hc) it lo 1 n
    refine W.item i s _ _ hg st fun v h' tk hv st' kk => ?_
    obtain ⟨t, rfl⟩ := hv
    have I1 : Inv X pins σ H { s with heap := h', toks := tk } := I.turned (fun b o hb e => kk b o (by simpa using hb) e) f0 f1 f3 f4 f5
    refine ⟨_, rfl, go_of (s := { s with heap := h', toks := tk }) (n := "range_iterator") st' rfl rfl (by decide) ⟨.int (lo + i), H, I1, ⟨t, ?_⟩, ⟨rfl, rfl⟩, st', fun b hb => (hf b hb).1⟩⟩
    rw [Int.mul_one]
  done := by
    intro X hP hw hK hc i pins s σ H E I hf st hg
    subst hP hw hK
    obtain ⟨f0, f1, f2, f3, f4, f5⟩ := hf it (by simp)
    exact wpAny_pyNext_range_end (I.ok.hd hc) st (by have : n ≤ i := hg; omega) fun h' eb => ⟨rfl, I.turned (t' := s.toks) (fun b o hb e => eb b o hb e) f0 f1 f3 f4 f5⟩
  self := fun _ _ _ _ _ st h => wpAny_pyIter_rangeiter st h
end L2

namespace L2
open PySem PySem.Spec PyProof.Rows
section
variable {X : Cx} {tg : Expr}
def iList (K : PySem.W.Frag) (tl : TE) : TI := fun σ H R => tl σ H fun x H1 => ∃ a, x = .ref a ∧ (∃ xs, SqL K H1 a xs) ∧ R (Itl K a) H1
def iTup (K : PySem.W.Frag) (tl : TE) : TI := fun σ H R => tl σ H fun x H1 => ∃ a, x = .ref a ∧ (∃ xs, SqT K H1 a xs) ∧ R (Itt K a) H1
theorem pi_list {l : Expr} {tl : TE} (hl : PE X l tl) : PI X tg l (iList X.K tl) := by
  intro pins s σ H R I h
  refine thn (hl pins s σ H _ I h) fun v s1 ⟨x, H1, I1, r1, q1⟩ => ?_
  obtain ⟨a, e, ⟨xs, hq⟩, q⟩ := q1
  subst e
  cases r1
  obtain ⟨its, rv, p, hz⟩ := I1.list hq
  refine wpAny_pyIter_list p.isList ?_
  refine ⟨s1.heap.objs.size, [s1.heap.objs.size], _, _, H1, rfl, I1.kept (t' := s1.toks) fun b o e => Heap.get?_push_of_some _ e, turn_list a _, ⟨_, Heap.get?_push_size _ rfl, rfl, rfl⟩, fun b hb => ?_, q⟩
  have e : b = s1.heap.objs.size := by simpa using hb
  subst e
  exact I1.fpOk (Nat.le_refl _) (I1.hok.fresh (Nat.le_refl _))
theorem pi_tup {l : Expr} {tl : TE} (hl : PE X l tl) : PI X tg l (iTup X.K tl) := by
  intro pins s σ H R I h
  refine thn (hl pins s σ H _ I h) fun v s1 ⟨x, H1, I1, r1, q1⟩ => ?_
  obtain ⟨a, e, ⟨xs, hq⟩, q⟩ := q1
  subst e
  cases r1
  obtain ⟨its, rv, p, hz⟩ := I1.tuple hq
  refine wpAny_pyIter_tuple (show s1.heap.IsTuple a its.toArray from p) ?_
  refine ⟨s1.heap.objs.size, [s1.heap.objs.size], _, _, H1, rfl, I1.kept (t' := s1.toks) fun b o e => Heap.get?_push_of_some _ e, turn_tuple a _, ⟨_, Heap.get?_push_size _ rfl, rfl, rfl⟩, fun b hb => ?_, q⟩
  have e : b = s1.heap.objs.size := by simpa using hb
  subst e
  exact I1.fpOk (Nat.le_refl _) (I1.hok.fresh (Nat.le_refl _))
/-- a range object just made, walked -/
theorem range_it {pins : List (Addr × Obj)} {σ : St} {H : Hp} {s : Shared} {R : It → Hp → Prop} {E : Value → Shared → Prop} {lo hi : Int} {t u v : Tok} {tk : Nat} (I : Inv X pins σ H s) (h1 : -(2 ^ 62) ≤ lo) (h2 : lo < 2 ^ 62) (h3 : -(2 ^ 62) ≤ hi) (h4 : hi < 2 ^ 62)
    (q : R (Itr lo (hi - lo).toNat) H) : wpAny (model X.prog X.w) X.A (pyIter (.ref s.heap.objs.size)) (PIE X pins σ tg R) E { s with heap := s.heap.push { cls := .type "range", data := .fields #[.int lo t, .int hi u, .int 1 v] }, toks := tk } := by
  refine wpAny_pyIter_range (IsRange.new ..) (small_one h1 h2 h3 h4) ?_
  have I1 : Inv X pins σ H { s with heap := s.heap.push { cls := .type "range", data := .fields #[.int lo t, .int hi u, .int 1 v] }, toks := tk } := I.kept fun b o e => Heap.get?_push_of_some _ e
  refine ⟨(s.heap.push { cls := .type "range", data := .fields #[.int lo t, .int hi u, .int 1 v] }).objs.size, [(s.heap.push { cls := .type "range", data := .fields #[.int lo t, .int hi u, .int 1 v] }).objs.size], _, _, H, rfl,
    I1.kept (t' := tk) fun b o e => Heap.get?_push_of_some _ e, turn_range _ lo (hi - lo).toNat, ?_, fun b hb => ?_, q⟩
  · have e1 : lo + ((0 : Nat) : Int) * 1 = lo := by simp
    have e2 : (((hi - lo).toNat : Nat) : Int) - ((0 : Nat) : Int) = Builtin.Range.rangeSize lo hi 1 := by rw [rangeSize_one]; split <;> omega
    show IsRangeIter _ _ (lo + ((0 : Nat) : Int) * 1) ((((hi - lo).toNat : Nat) : Int) - ((0 : Nat) : Int)) 1
    rw [e1, e2]
    exact Heap.get?_push_size _ rfl
  · have e : b = (s.heap.push { cls := .type "range", data := .fields #[.int lo t, .int hi u, .int 1 v] }).objs.size := by simpa using hb
    subst e
    exact I1.fpOk (Nat.le_refl _) (I1.hok.fresh (Nat.le_refl _))
def iRng1 (ta : TA) : TI := fun σ H R => ta σ H fun vs H1 => ∃ j : Int, vs = [.int j] ∧ -(2 ^ 62) ≤ j ∧ j < 2 ^ 62 ∧ R (Itr 0 j.toNat) H1
def iRng2 (ta : TA) : TI := fun σ H R => ta σ H fun vs H1 => ∃ i j : Int, vs = [.int i, .int j] ∧ (-(2 ^ 62) ≤ i ∧ i < 2 ^ 62 ∧ -(2 ^ 62) ≤ j ∧ j < 2 ^ 62) ∧ R (Itr i (j - i).toNat) H1
theorem pi_range1 {a : Expr} {ta : TA} {p pos : Pos} (hg : Gl X "range") (hm : X.mg "range" = none) (ha : PA X [a] ta) (hs : starEach [a] X.env = [(false, eval a X.env)] := by rfl) : PI X tg (.Call (.Name "range" p) [a] [] pos) (iRng1 ta) := by
  intro pins s σ H R I h
  refine Call_ (ld_blt I hg hm boot_range (PyProof.Rows.callWith_type1 (thn (ha pos pins s σ H _ I h) fun us s1 ⟨vs, H1, I1, r1, q1⟩ => ?_) hs rfl))
  obtain ⟨j, e, q1, q2, q⟩ := q1
  subst e
  cases r1 with
  | cons r rr =>
    cases rr
    obtain ⟨t, rfl⟩ := r
    exact call_range_1 (range_it I1 (by omega) (by omega) q1 q2 (by simpa using q))
/-! ### for -/
/-- W: the invariant by the turn and a measure; N: what the body is to reach -/
def tFor (wi : TI) (g : TG) (tb : TS) : TS := fun D σ H => wi σ H fun J H1 => ∃ W : Nat → Nat → St → Hp → Prop, (∃ m, W 0 m σ H1) ∧ ∀ i m σ H, W i m σ H →
  (J.stop i H ∧ D.nx σ H) ∨ (J.go i H ∧ ∃ N : St → Hp → Prop, (∀ σ' H', N σ' H' → ∃ m', m' < m ∧ W (i + 1) m' σ' H') ∧ ∀ x H', J.yld i H x H' → g x σ H' fun σ2 H2 => tb { D with nx := N, ct := N, bk := D.nx } σ2 H2)
/-- the records at fp as they stand -/
def pinsAt (fp : List Addr) (h : Heap) : List (Addr × Obj) := fp.filterMap fun b => (h.get? b).map fun o => (b, o)
theorem mem_pinsAt {fp : List Addr} {h : Heap} {b : Addr} {o : Obj} (hb : b ∈ fp) (e : h.get? b = some o) : (b, o) ∈ pinsAt fp h := List.mem_filterMap.mpr ⟨b, hb, by rw [e]; rfl⟩
theorem of_pinsAt {fp : List Addr} {h : Heap} {p : Addr × Obj} (hp : p ∈ pinsAt fp h) : p.1 ∈ fp ∧ h.get? p.1 = some p.2 := by
  obtain ⟨b, hb, e⟩ := List.mem_filterMap.mp hp
  cases q : h.get? b with
  | none => rw [q] at e; cases e
  | some o =>
    rw [q] at e
    have e' : (b, o) = p := Option.some.inj e
    subst e'
    exact ⟨hb, q⟩
theorem Inv.pinned {pins : List (Addr × Obj)} {σ : St} {H : Hp} {s : Shared} {fp : List Addr} (I : Inv X pins σ H s) (hf : ∀ b ∈ fp, FpOk X pins H b) (ho : ∀ b ∈ fp, ∃ o, s.heap.get? b = some o ∧ ∀ v, o.data ≠ .cell v) : Inv X (pins ++ pinsAt fp s.heap) σ H s :=
  I.pins_of fun p hp => (List.mem_append.mp hp).elim (fun z => I.pin p (List.mem_append_right _ z)) fun z => by
    obtain ⟨hb, e⟩ := of_pinsAt z
    obtain ⟨f0, f1, f2, _⟩ := hf p.1 hb
    obtain ⟨o, e', d⟩ := ho p.1 hb
    rw [e] at e'; cases e'
    exact ⟨e, f0, f1, f2, d⟩
theorem Inv.unpinned {pins pl : List (Addr × Obj)} {σ : St} {H : Hp} {s : Shared} (I : Inv X (pins ++ pl) σ H s) : Inv X pins σ H s := I.pins_of fun p hp => I.pin p (List.mem_append_right _ (List.mem_append_left _ hp))
theorem ps_for {iter : Expr} {body : List Stmt} {wi : TI} {g : TG} {tb : TS} {pos : Pos} (hp : PassesOwn (model X.prog X.w) X.A X.env X.xe) (hc : X.calm = true) (hi : PI X tg iter wi) (hg : PG X tg g) (hb : PSs X body tb)
    (hs : ∀ x, foldedSetIterable iter X.env x = pure x := by intro _; rfl) : PS X (.For tg iter body [] pos) (tFor wi g tb) := by
  intro pins s σ H D I h
  refine wpAny_For (thn (hi pins s σ H _ I h) fun v s1 h1 => thn h1 fun itv s2 h2 => ?_) hs
  obtain ⟨it, fp, tn, J, H2, e, I2, T, st2, f2, W, ⟨m0, w0⟩, turn⟩ := h2
  subst e
  -- what stays true of the iterator's objects through the loop
  have stat : ∀ {H' : Hp}, (∀ b ∈ fp, H' b = none) → ∀ b ∈ fp, FpOk X pins H' b := fun hn b hb => ⟨hn b hb, (f2 b hb).2⟩
  refine codeAny_forLoop_any (fun n s' => ∃ i σ' H', Inv X pins σ' H' s' ∧ tn i s'.heap ∧ (∀ b ∈ fp, H' b = none) ∧ W i n σ' H') ?_ m0 ⟨0, σ, H2, I2, st2, fun b hb => (f2 b hb).1, w0⟩
  rintro n s3 ⟨i, σ3, H3, I3, st3, fr3, w3⟩
  rcases turn i n σ3 H3 w3 with ⟨stop, qn⟩ | ⟨go, N, hN, step⟩
  · refine wpAny_passesOwn hp (thn (T.done X rfl rfl rfl hc i pins s3 σ3 H3 X.xe I3 (stat fr3) st3 stop) fun r s4 ⟨hr, I4⟩ => ?_)
    subst hr
    exact wpAny_execs_nil ⟨σ3, H3, I4, qn⟩
  · refine wpAny_passesOwn hp (thn (T.item X rfl rfl rfl hc i pins s3 σ3 H3 X.xe I3 (stat fr3) st3 go) fun r s4 ⟨u, hr, h4⟩ => ?_)
    subst hr
    refine wpAny_passesOwn hp (thn h4 fun _ s5 ⟨x, H5, I5, r5, y5, st5, fr5⟩ => ?_)
    have I5' := I5.pinned (stat fr5) (T.obj _ _ st5)
    refine wpAny_passesOwn hp (thn (hg _ s5 σ3 H5 x u _ I5' r5 (step x H5 y5)) fun _ s6 ⟨σ6, H6, I6, q6⟩ => ?_)
    refine wpAny_passesOwn hp (thn (hb _ s6 σ6 H6 _ I6 q6) fun f s7 q7 => ?_)
    have again : ∀ {σ7 : St} {H7 : Hp}, Inv X (pins ++ pinsAt fp s5.heap) σ7 H7 s7 → N σ7 H7 → ∃ m, m < n ∧ ∃ i σ' H', Inv X pins σ' H' s7 ∧ tn i s7.heap ∧ (∀ b ∈ fp, H' b = none) ∧ W i m σ' H' := fun {σ7 H7} I7 n7 => by
      obtain ⟨m', hm, w7⟩ := hN σ7 H7 n7
      refine ⟨m', hm, i + 1, σ7, H7, I7.unpinned, T.keep _ _ _ st5 fun b hb o e => (I7.pin (b, o) (List.mem_append_right _ (List.mem_append_right _ (mem_pinsAt hb e)))).1, fun b hb => ?_, w7⟩
      obtain ⟨o, e, d⟩ := T.obj _ _ st5 b hb
      exact (I7.pin (b, o) (List.mem_append_right _ (List.mem_append_right _ (mem_pinsAt hb e)))).2.1
    cases f with
    | next => obtain ⟨σ7, H7, I7, n7⟩ := q7; exact again I7 n7
    | cont => obtain ⟨σ7, H7, I7, n7⟩ := q7; exact again I7 n7
    | brk => obtain ⟨σ7, H7, I7, q7⟩ := q7; exact ⟨σ7, H7, I7.unpinned, q7⟩
    | ret v => obtain ⟨x7, σ7, H7, I7, r7, q7⟩ := q7; exact ⟨x7, σ7, H7, I7.unpinned, r7, q7⟩
end

/-! ### the forms one uses -/
/-- over a list that the body leaves as it is -/
theorem for_list {K : PySem.W.Frag} {a : Addr} {xs : List V} {g : TG} {tb : TS} {D : Ends} {σ : St} {H : Hp} (Pv : Nat → St → Hp → Prop) (h0 : Pv 0 σ H) (hl : ∀ i σ H, i ≤ xs.length → Pv i σ H → SqL K H a xs)
    (hs : ∀ i x σ H, xs[i]? = some x → Pv i σ H → g x σ H fun σ2 H2 => tb { D with nx := Pv (i + 1), ct := Pv (i + 1), bk := D.nx } σ2 H2) (hd : ∀ σ H, Pv xs.length σ H → D.nx σ H) :
    ∃ W : Nat → Nat → St → Hp → Prop, (∃ m, W 0 m σ H) ∧ ∀ i m σ H, W i m σ H →
      ((Itl K a).stop i H ∧ D.nx σ H) ∨ ((Itl K a).go i H ∧ ∃ N : St → Hp → Prop, (∀ σ' H', N σ' H' → ∃ m', m' < m ∧ W (i + 1) m' σ' H') ∧ ∀ x H', (Itl K a).yld i H x H' → g x σ H' fun σ2 H2 => tb { D with nx := N, ct := N, bk := D.nx } σ2 H2) := by
  refine ⟨fun i m σ H => m = xs.length - i ∧ i ≤ xs.length ∧ Pv i σ H, ⟨xs.length, by simp, Nat.zero_le _, h0⟩, ?_⟩
  rintro i m σ H ⟨rfl, hi, p⟩
  have q := hl i σ H hi p
  by_cases hlt : i < xs.length
  · refine .inr ⟨⟨xs, xs[i], q, by simp [hlt]⟩, Pv (i + 1), fun σ' H' p' => ⟨xs.length - (i + 1), by omega, rfl, hlt, p'⟩, fun x H' y => ?_⟩
    obtain ⟨e, y⟩ := y
    subst e
    exact hs i x σ _ (y xs q) p
  · have e : i = xs.length := by omega
    subst e
    exact .inl ⟨⟨xs, q, Nat.le_refl _⟩, hd σ H p⟩
theorem for_tup {K : PySem.W.Frag} {a : Addr} {xs : List V} {g : TG} {tb : TS} {D : Ends} {σ : St} {H : Hp} (Pv : Nat → St → Hp → Prop) (h0 : Pv 0 σ H) (hl : ∀ i σ H, i ≤ xs.length → Pv i σ H → SqT K H a xs)
    (hs : ∀ i x σ H, xs[i]? = some x → Pv i σ H → g x σ H fun σ2 H2 => tb { D with nx := Pv (i + 1), ct := Pv (i + 1), bk := D.nx } σ2 H2) (hd : ∀ σ H, Pv xs.length σ H → D.nx σ H) :
    ∃ W : Nat → Nat → St → Hp → Prop, (∃ m, W 0 m σ H) ∧ ∀ i m σ H, W i m σ H →
      ((Itt K a).stop i H ∧ D.nx σ H) ∨ ((Itt K a).go i H ∧ ∃ N : St → Hp → Prop, (∀ σ' H', N σ' H' → ∃ m', m' < m ∧ W (i + 1) m' σ' H') ∧ ∀ x H', (Itt K a).yld i H x H' → g x σ H' fun σ2 H2 => tb { D with nx := N, ct := N, bk := D.nx } σ2 H2) := by
  refine ⟨fun i m σ H => m = xs.length - i ∧ i ≤ xs.length ∧ Pv i σ H, ⟨xs.length, by simp, Nat.zero_le _, h0⟩, ?_⟩
  rintro i m σ H ⟨rfl, hi, p⟩
  have q := hl i σ H hi p
  by_cases hlt : i < xs.length
  · refine .inr ⟨⟨xs, xs[i], q, by simp [hlt]⟩, Pv (i + 1), fun σ' H' p' => ⟨xs.length - (i + 1), by omega, rfl, hlt, p'⟩, fun x H' y => ?_⟩
    obtain ⟨e, y⟩ := y
    subst e
    exact hs i x σ _ (y xs q) p
  · have e : i = xs.length := by omega
    subst e
    exact .inl ⟨⟨xs, q, Nat.le_refl _⟩, hd σ H p⟩
theorem for_range {lo : Int} {n : Nat} {g : TG} {tb : TS} {D : Ends} {σ : St} {H : Hp} (Pv : Nat → St → Hp → Prop) (h0 : Pv 0 σ H)
    (hs : ∀ i σ H, i < n → Pv i σ H → g (.int (lo + i)) σ H fun σ2 H2 => tb { D with nx := Pv (i + 1), ct := Pv (i + 1), bk := D.nx } σ2 H2) (hd : ∀ σ H, Pv n σ H → D.nx σ H) :
    ∃ W : Nat → Nat → St → Hp → Prop, (∃ m, W 0 m σ H) ∧ ∀ i m σ H, W i m σ H →
      ((Itr lo n).stop i H ∧ D.nx σ H) ∨ ((Itr lo n).go i H ∧ ∃ N : St → Hp → Prop, (∀ σ' H', N σ' H' → ∃ m', m' < m ∧ W (i + 1) m' σ' H') ∧ ∀ x H', (Itr lo n).yld i H x H' → g x σ H' fun σ2 H2 => tb { D with nx := N, ct := N, bk := D.nx } σ2 H2) := by
  refine ⟨fun i m σ H => m = n - i ∧ i ≤ n ∧ Pv i σ H, ⟨n, by simp, Nat.zero_le _, h0⟩, ?_⟩
  rintro i m σ H ⟨rfl, hi, p⟩
  by_cases hlt : i < n
  · refine .inr ⟨hlt, Pv (i + 1), fun σ' H' p' => ⟨n - (i + 1), by omega, rfl, hlt, p'⟩, fun x H' y => ?_⟩
    obtain ⟨e, y⟩ := y
    subst e y
    exact hs i σ _ hlt p
  · have e : i = n := by omega
    subst e
    exact .inl ⟨Nat.le_refl _, hd σ H p⟩
end L2

namespace L2
open PySem PySem.Spec PyProof.Rows

abbrev R2 := V → V → Hp → VK → Prop
/-- a two-place operation on values: f is binaryOp op, inplaceOp op or compareOp op -/
def OpR (X : Cx) (f : Value → Value → Sem Value) (r : R2) : Prop :=
  ∀ (pins : List (Addr × Obj)) (s : Shared) (σ : St) (H : Hp) (x y : V) (v u : Value) (Q : VK), Inv X pins σ H s → RelV x v → RelV y u → r x y H Q →
    wpAny (model X.prog X.w) X.A (f v u) (EP X pins σ Q) X.xe s
/-- a one-place operation -/
def UnR (X : Cx) (f : Value → Sem Value) (r : V → Hp → VK → Prop) : Prop :=
  ∀ (pins : List (Addr × Obj)) (s : Shared) (σ : St) (H : Hp) (x : V) (v : Value) (Q : VK), Inv X pins σ H s → RelV x v → r x H Q →
    wpAny (model X.prog X.w) X.A (f v) (EP X pins σ Q) X.xe s
/-- a call of a value that is known (a builtin, a type) with values -/
def CallR (X : Cx) (f : Value) (r : List V → Hp → VK → Prop) : Prop :=
  ∀ (pins : List (Addr × Obj)) (s : Shared) (σ : St) (H : Hp) (xs : List V) (us : List Value) (Q : VK), Inv X pins σ H s → Vals xs us → r xs H Q →
    wpAny (model X.prog X.w) X.A (call f us) (EP X pins σ Q) X.xe s
/-- a value's truth -/
def TruR (X : Cx) (r : V → Hp → (Bool → Hp → Prop) → Prop) : Prop :=
  ∀ (pins : List (Addr × Obj)) (s : Shared) (σ : St) (H : Hp) (x : V) (v : Value) (Q : Bool → Hp → Prop), Inv X pins σ H s → RelV x v → r x H Q →
    wpAny (model X.prog X.w) X.A (truthy v) (TP X pins σ Q) X.xe s

def tOp (r : R2) (ta tb : TE) : TE := fun σ H Q => ta σ H fun x H1 => tb σ H1 fun y H2 => r x y H2 Q
def tUn (r : V → Hp → VK → Prop) (ta : TE) : TE := fun σ H Q => ta σ H fun x H1 => r x H1 Q
/-- ints in, under C, and a value out -/
def rI (C : Int → Int → Prop) (g : Int → Int → V) : R2 := fun x y H Q => ∃ i j, x = .int i ∧ y = .int j ∧ C i j ∧ Q (g i j) H
def rI0 (g : Int → Int → V) : R2 := fun x y H Q => ∃ i j, x = .int i ∧ y = .int j ∧ Q (g i j) H
def rU (g : Int → V) : V → Hp → VK → Prop := fun x H Q => ∃ i, x = .int i ∧ Q (g i) H

section
variable {X : Cx} {a b c : Expr} {ta tb tc : TE} {pos : Pos}

theorem binT (ha : PE X a ta) (hb : PE X b tb) {pins : List (Addr × Obj)} {s : Shared} {σ : St} {H : Hp} {R : V → V → Hp → Prop} (I : Inv X pins σ H s)
    (h : ta σ H fun x H1 => tb σ H1 fun y H2 => R x y H2) {Q : Value → Shared → Prop} {f : Value → Value → Sem Value}
    (hf : ∀ v u s2 x y H2, Inv X pins σ H2 s2 → RelV x v → RelV y u → R x y H2 → wpAny (model X.prog X.w) X.A (f v u) Q X.xe s2) :
    wpAny (model X.prog X.w) X.A (eval a X.env) (fun v s₁ => wpAny (model X.prog X.w) X.A (eval b X.env) (fun u s₂ => wpAny (model X.prog X.w) X.A (f v u) Q X.xe s₂) X.xe s₁) X.xe s := by
  refine thn (ha pins s σ H _ I h) fun v s1 ⟨x, H1, I1, r1, q1⟩ => ?_
  refine thn (hb pins s1 σ H1 _ I1 q1) fun u s2 ⟨y, H2, I2, r2, q2⟩ => ?_
  exact hf v u s2 x y H2 I2 r1 r2 q2

theorem pe_op {op : Operator} {r : R2} (ho : OpR X (binaryOp op) r) (ha : PE X a ta) (hb : PE X b tb) : PE X (.BinOp a op b pos) (tOp r ta tb) := by
  intro pins s σ H Q I h
  exact wpAny_BinOp (binT ha hb I h fun v u s2 x y H2 I2 rx ry q => ho pins s2 σ H2 x y v u Q I2 rx ry q)
/-! ### ints -/
theorem opI {f : Value → Value → Sem Value} {C : Int → Int → Prop} {g : Int → Int → Int}
    (rule : ∀ (i j : Int) (t u : Tok) (s : Shared) (Q : Value → Shared → Prop) (E : Value → Shared → Prop), C i j → Q (.int (g i j) s.toks) { s with toks := s.toks + 1 } → wpAny (model X.prog X.w) X.A (f (.int i t) (.int j u)) Q E s) :
    OpR X f (rI C fun i j => .int (g i j)) := by
  intro pins s σ H x y v u Q I rx ry h
  obtain ⟨i, j, rfl, rfl, hc, q⟩ := h
  obtain ⟨t, rfl⟩ := rx
  obtain ⟨t', rfl⟩ := ry
  exact rule i j t t' s _ _ hc ⟨.int (g i j), H, I.tok _, ⟨_, rfl⟩, q⟩
theorem opI0 {f : Value → Value → Sem Value} {g : Int → Int → Int}
    (rule : ∀ (i j : Int) (t u : Tok) (s : Shared) (Q : Value → Shared → Prop) (E : Value → Shared → Prop), Q (.int (g i j) s.toks) { s with toks := s.toks + 1 } → wpAny (model X.prog X.w) X.A (f (.int i t) (.int j u)) Q E s) :
    OpR X f (rI0 fun i j => .int (g i j)) := by
  intro pins s σ H x y v u Q I rx ry h
  obtain ⟨i, j, rfl, rfl, q⟩ := h
  obtain ⟨t, rfl⟩ := rx
  obtain ⟨t', rfl⟩ := ry
  exact rule i j t t' s _ _ ⟨.int (g i j), H, I.tok _, ⟨_, rfl⟩, q⟩
theorem opB0 {f : Value → Value → Sem Value} {g : Int → Int → Bool}
    (rule : ∀ (i j : Int) (t u : Tok) (s : Shared) (Q : Value → Shared → Prop) (E : Value → Shared → Prop), Q (.bool (g i j)) s → wpAny (model X.prog X.w) X.A (f (.int i t) (.int j u)) Q E s) :
    OpR X f (rI0 fun i j => .bl (g i j)) := by
  intro pins s σ H x y v u Q I rx ry h
  obtain ⟨i, j, rfl, rfl, q⟩ := h
  obtain ⟨t, rfl⟩ := rx
  obtain ⟨t', rfl⟩ := ry
  exact rule i j t t' s _ _ ⟨.bl (g i j), H, I, rfl, q⟩

def CDiv (i j : Int) : Prop := 0 < j ∧ j < 1073741824
def CDivN (i j : Int) : Prop := j ≠ 0 ∧ j.natAbs < 1073741824
def CPow (i j : Int) : Prop := 0 ≤ j ∧ j ≤ 1000000 ∧ i.natAbs < 2 ^ 64
def CMul (i j : Int) : Prop := (-(2 ^ 64) < i ∧ i < 2 ^ 64) ∨ (-(2 ^ 64) < j ∧ j < 2 ^ 64)
theorem op_add : OpR X (binaryOp .Add) (rI0 fun i j => .int (i + j)) := opI0 fun _ _ _ _ _ _ _ q => add_int q
theorem op_sub : OpR X (binaryOp .Sub) (rI0 fun i j => .int (i - j)) := opI0 fun _ _ _ _ _ _ _ q => sub_int q
/-- // by a positive divisor -/
theorem op_fdiv : OpR X (binaryOp .FloorDiv) (rI CDiv fun i j => .int (i / j)) := opI fun i j _ _ _ _ _ hc q => by
  have h1 : (0 : Int) < j := hc.1
  have h2 : j < 1073741824 := hc.2
  exact floordiv_int (by omega) (by rw [Int.fdiv_eq_ediv_of_nonneg i (by omega)]; exact q) (.inl (PyProof.noPylong_small (by omega)))
/-- % by a positive divisor of any size -/
theorem op_mod : OpR X (binaryOp .Mod) (rI (fun _ j => 0 < j) fun i j => .int (i % j)) := opI fun i j _ _ _ _ _ hc q => by
  have h1 : (0 : Int) < j := hc
  exact mod_int' (by omega) (by rw [Int.fmod_eq_emod_of_nonneg i (by omega)]; exact q)
/-! ### bools among ints: n += (a < b) -/
end

/-! ### comparisons -/
/-- the scalars that == tells apart as data does -/
def scal : V → V → Bool
  | .non, .non => true | .non, .int _ => true | .int _, .non => true | .non, .bl _ => true | .bl _, .non => true | .non, .str _ => true | .str _, .non => true
  | .int _, .int _ => true | .bl _, .bl _ => true | .str _, .str _ => true | .byt _, .byt _ => true
  | .int _, .str _ => true | .str _, .int _ => true | .bl _, .str _ => true | .str _, .bl _ => true
  | _, _ => false
def rEq : R2 := fun x y H Q => scal x y = true ∧ Q (.bl (decide (x = y))) H
def rNe : R2 := fun x y H Q => scal x y = true ∧ Q (.bl (!decide (x = y))) H

theorem dec_int {i j : Int} : decide (V.int i = V.int j) = (i == j) := by
  rw [Bool.eq_iff_iff]
  simp
theorem dec_bl {i j : Bool} : decide (V.bl i = V.bl j) = (i == j) := by
  rw [Bool.eq_iff_iff]
  simp
theorem dec_str {i j : Str} : decide (V.str i = V.str j) = (i == j) := by
  rw [Bool.eq_iff_iff]
  simp
theorem dec_byt {i j : Array UInt8} : decide (V.byt i = V.byt j) = (i.toList == j.toList) := by
  rw [Bool.eq_iff_iff]
  cases i
  cases j
  simp

section
variable {X : Cx} {a b c : Expr} {ta tb tc : TE} {pos : Pos}
theorem fin_bl {pins : List (Addr × Obj)} {σ : St} {H : Hp} {s : Shared} {Q : VK} {k k' : Bool} (I : Inv X pins σ H s) (q : Q (.bl k) H) (e : k = k') : EP X pins σ Q (.bool k') s := by
  subst e
  exact ⟨.bl k, H, I, rfl, q⟩
theorem op_eq : OpR X (compareOp .Eq) rEq := by
  intro pins s σ H x y v u Q I rx ry h
  obtain ⟨hs, q⟩ := h
  cases x with
  | non =>
    cases rx
    cases y with
    | non => cases ry; exact PySem.EqNone.eq_none_none (fin_bl I q (by simp))
    | bl j => cases ry; exact PySem.EqNone.eq_none_bool (fin_bl I q (by simp))
    | int j => obtain ⟨t', rfl⟩ := ry; exact PySem.EqNone.eq_none_int (fin_bl I q (by simp))
    | str j => obtain ⟨t', rfl⟩ := ry; exact PySem.EqNone.eq_none_str (fin_bl I q (by simp))
    | _ => exact absurd (show false = true from hs) Bool.false_ne_true
  | bl i =>
    cases rx
    cases y with
    | non => cases ry; exact PySem.EqNone.eq_bool_none (fin_bl I q (by simp))
    | bl j => cases ry; exact eq_bool (fin_bl I q dec_bl)
    | str j => obtain ⟨t', rfl⟩ := ry; exact PySem.EqMixed.eq_bool_str (fin_bl I q (by simp))
    | _ => exact absurd (show false = true from hs) Bool.false_ne_true
  | int i =>
    obtain ⟨t, rfl⟩ := rx
    cases y with
    | non => cases ry; exact PySem.EqNone.eq_int_none (fin_bl I q (by simp))
    | int j => obtain ⟨t', rfl⟩ := ry; exact eq_int (fin_bl I q dec_int)
    | str j => obtain ⟨t', rfl⟩ := ry; exact PySem.EqMixed.eq_int_str (fin_bl I q (by simp))
    | _ => exact absurd (show false = true from hs) Bool.false_ne_true
  | str i =>
    obtain ⟨t, rfl⟩ := rx
    cases y with
    | non => cases ry; exact PySem.EqNone.eq_str_none (fin_bl I q (by simp))
    | bl j => cases ry; exact PySem.EqMixed.eq_str_bool (fin_bl I q (by simp))
    | int j => obtain ⟨t', rfl⟩ := ry; exact PySem.EqMixed.eq_str_int (fin_bl I q (by simp))
    | str j => obtain ⟨t', rfl⟩ := ry; exact eq_str (fin_bl I q dec_str)
    | _ => exact absurd (show false = true from hs) Bool.false_ne_true
  | byt i =>
    obtain ⟨t, rfl⟩ := rx
    cases y with
    | byt j => obtain ⟨t', rfl⟩ := ry; exact PySem.W.eq_bytes (fin_bl I q dec_byt)
    | _ => exact absurd (show false = true from hs) Bool.false_ne_true
  | _ => cases y <;> exact absurd (show false = true from hs) Bool.false_ne_true
theorem op_ne : OpR X (compareOp .NotEq) rNe := by
  intro pins s σ H x y v u Q I rx ry h
  obtain ⟨hs, q⟩ := h
  cases x with
  | non =>
    cases rx
    cases y with
    | non => cases ry; exact PySem.EqNone.ne_none_none (fin_bl I q (by simp))
    | bl j => cases ry; exact PySem.EqNone.ne_none_bool (fin_bl I q (by simp))
    | int j => obtain ⟨t', rfl⟩ := ry; exact PySem.EqNone.ne_none_int (fin_bl I q (by simp))
    | str j => obtain ⟨t', rfl⟩ := ry; exact PySem.EqNone.ne_none_str (fin_bl I q (by simp))
    | _ => exact absurd (show false = true from hs) Bool.false_ne_true
  | bl i =>
    cases rx
    cases y with
    | non => cases ry; exact PySem.EqNone.ne_bool_none (fin_bl I q (by simp))
    | bl j => cases ry; exact ne_bool (fin_bl I q (congrArg not dec_bl))
    | str j => obtain ⟨t', rfl⟩ := ry; exact PySem.EqMixed.ne_bool_str (fin_bl I q (by simp))
    | _ => exact absurd (show false = true from hs) Bool.false_ne_true
  | int i =>
    obtain ⟨t, rfl⟩ := rx
    cases y with
    | non => cases ry; exact PySem.EqNone.ne_int_none (fin_bl I q (by simp))
    | int j => obtain ⟨t', rfl⟩ := ry; exact ne_int (fin_bl I q (congrArg not dec_int))
    | str j => obtain ⟨t', rfl⟩ := ry; exact PySem.EqMixed.ne_int_str (fin_bl I q (by simp))
    | _ => exact absurd (show false = true from hs) Bool.false_ne_true
  | str i =>
    obtain ⟨t, rfl⟩ := rx
    cases y with
    | non => cases ry; exact PySem.EqNone.ne_str_none (fin_bl I q (by simp))
    | bl j => cases ry; exact PySem.EqMixed.ne_str_bool (fin_bl I q (by simp))
    | int j => obtain ⟨t', rfl⟩ := ry; exact PySem.EqMixed.ne_str_int (fin_bl I q (by simp))
    | str j => obtain ⟨t', rfl⟩ := ry; exact ne_str (fin_bl I q (congrArg not dec_str))
    | _ => exact absurd (show false = true from hs) Bool.false_ne_true
  | byt i =>
    obtain ⟨t, rfl⟩ := rx
    cases y with
    | byt j => obtain ⟨t', rfl⟩ := ry; exact PySem.W.ne_bytes (fin_bl I q (congrArg not dec_byt))
    | _ => exact absurd (show false = true from hs) Bool.false_ne_true
  | _ => cases y <;> exact absurd (show false = true from hs) Bool.false_ne_true

theorem op_lt : OpR X (compareOp .Lt) (rI0 fun i j => .bl (decide (i < j))) := opB0 fun _ _ _ _ _ _ _ q => lt_int q
theorem op_le : OpR X (compareOp .LtE) (rI0 fun i j => .bl (decide (i ≤ j))) := opB0 fun _ _ _ _ _ _ _ q => le_int q
theorem op_gt : OpR X (compareOp .Gt) (rI0 fun i j => .bl (decide (j < i))) := opB0 fun _ _ _ _ _ _ _ q => gt_int q
theorem op_ge : OpR X (compareOp .GtE) (rI0 fun i j => .bl (decide (j ≤ i))) := opB0 fun _ _ _ _ _ _ _ q => ge_int q
/-- is None, is not None: the right side a value none -/
theorem op_isN : OpR X (compareOp .Is) (fun x y H Q => y = .non ∧ Q (.bl (decide (x = .non))) H) := by
  intro pins s σ H x y v u Q I rx ry h
  obtain ⟨rfl, q⟩ := h
  cases ry
  refine is_none_gen (fin_bl I q ?_)
  cases x <;> first
    | (cases rx; rfl)
    | (obtain ⟨t, rfl⟩ := rx; rfl)
theorem op_notN : OpR X (compareOp .IsNot) (fun x y H Q => y = .non ∧ Q (.bl (!decide (x = .non))) H) := by
  intro pins s σ H x y v u Q I rx ry h
  obtain ⟨rfl, q⟩ := h
  cases ry
  refine isnot_none_gen (fin_bl I q ?_)
  cases x <;> first
    | (cases rx; rfl)
    | (obtain ⟨t, rfl⟩ := rx; rfl)

/-- is, is not of two objects that are tracked lists or instances -/
def isObj : HO → Bool
  | .lst _ => true
  | .ins _ _ _ => true
  | _ => false
theorem nomark (b : Expr) {op : CmpOp} (h : op ≠ .In := by decide) (h2 : op ≠ .NotIn := by decide) : behindInMarks op b = false := by
  have e1 : (op == CmpOp.In) = false := by cases op <;> first | rfl | exact absurd rfl h
  have e2 : (op == CmpOp.NotIn) = false := by cases op <;> first | rfl | exact absurd rfl h2
  cases b <;> simp [behindInMarks, e1, e2]
/-- a comparison as a value; hm: nomark b, or (for in, not in) by with_unfolding_all rfl -/
theorem pe_cmpR {op : CmpOp} {r : R2} (ho : OpR X (compareOp op) r) (ha : PE X a ta) (hb : PE X b tb) (hm : behindInMarks op b = false) : PE X (.Compare a [op] [b] pos) (tOp r ta tb) := by
  intro pins s σ H Q I h
  exact wpAny_Compare1 (binT ha hb I h fun v u s2 x y H2 I2 rx ry q => ho pins s2 σ H2 x y v u Q I2 rx ry q) hm
/-- a reading of a value as a test -/
def tTest (t : TE) : TT := fun σ H Q => t σ H fun x H' => ∃ k, x = .bl k ∧ Q k H'
theorem pt_cmpR {op : CmpOp} {r : R2} (ho : OpR X (compareOp op) r) (ha : PE X a ta) (hb : PE X b tb) (hm : behindInMarks op b = false) : PT X (.Compare a [op] [b] pos) (tTest (tOp r ta tb)) := by
  intro pins s σ H Q I h
  refine wpAny_isTrue_Compare1 (thn (ha pins s σ H _ I h) fun v s1 ⟨x, H1, I1, r1, q1⟩ => thn (hb pins s1 σ H1 _ I1 q1) fun u s2 ⟨y, H2, I2, r2, q2⟩ =>
    thn (ho pins s2 σ H2 x y v u _ I2 r1 r2 q2) fun c s3 ⟨z, H3, I3, r3, k, e, q3⟩ => ?_) hm
  subst e
  cases r3
  exact wpAny_truthy_bool ⟨H3, I3, q3⟩
/-- a op1 b op2 c -/
def tChain (r r' : R2) (ta tb tc : TE) : TE := fun σ H Q => ta σ H fun x H1 => tb σ H1 fun y H2 => r x y H2 fun z H3 => ∃ k, z = .bl k ∧
  (if k = true then tc σ H3 fun w' H4 => r' y w' H4 Q else Q (.bl false) H3)
/-! ### truth -/
/-- a value's truth by the abstract heap -/
def TruV (K : PySem.W.Frag) (x : V) (H : Hp) (k : Bool) : Prop :=
  match x with
  | .non => k = false
  | .bl b => k = b
  | .int i => k = (i != 0)
  | .str y => y.length ≤ sizeLine ∧ k = ((y.length : Int) != 0)
  | .byt y => y.size ≤ sizeLine ∧ k = ((y.size : Int) != 0)
  | .ref p => (∃ xs, SqL K H p xs ∧ k = !xs.isEmpty) ∨ (∃ xs, SqT K H p xs ∧ k = !xs.isEmpty) ∨ ∃ kvs, H p = some (.dK kvs) ∧ k = !kvs.isEmpty
  | _ => False
theorem line63 : (sizeLine : Nat) < 2 ^ 63 := by rw [sizeLine_eq]; decide
/-! ### strs and bytes -/
def PlainIxT (b : Expr) : Prop := ∀ o i, subscripted b false o i = operate [o, i] (getItem o i)
/-! ### scalar builtins, by CallR -/
theorem vals1 {x : V} {us : List Value} (r : Vals [x] us) : ∃ u, us = [u] ∧ RelV x u := by
  cases r with
  | cons r1 r2 => cases r2; exact ⟨_, rfl, r1⟩
theorem vals2 {x y : V} {us : List Value} (r : Vals [x, y] us) : ∃ u w', us = [u, w'] ∧ RelV x u ∧ RelV y w' := by
  cases r with
  | cons r1 r2 =>
    cases r2 with
    | cons r3 r4 => cases r4; exact ⟨_, _, rfl, r1, r3⟩
/-- len of a str, a bytes, a list, a tuple -/
def LenV (K : PySem.W.Frag) (x : V) (H : Hp) (n : Nat) : Prop :=
  match x with
  | .str y => y.length ≤ sizeLine ∧ n = y.length
  | .byt y => y.size ≤ sizeLine ∧ n = y.size
  | .ref p => (∃ xs, SqL K H p xs ∧ n = xs.length) ∨ ∃ xs, SqT K H p xs ∧ n = xs.length
  | _ => False
end
end L2

namespace L2
open PySem PySem.Spec PyProof.Rows

/-! ### an instance, its attributes a map -/
structure ObjM (h : Heap) (x dx C : Addr) (mA : Str → Option Value) : Prop where
  obj : h.get? x = some (PySem.W.instObj C dx)
  ns : h.Ns1 dx mA
  ne : dx ≠ x

theorem lookIn_ns {h : Heap} {dx : Addr} {mA : Str → Option Value} (n : h.Ns1 dx mA) : ∃ od, h.get? dx = some od ∧ ∀ name, PySem.W.lookIn name od = some (mA name) := by
  obtain ⟨o, es, ep, ho, hd, hk, _, hm⟩ := n
  refine ⟨o, ho, fun name => ?_⟩
  have e := hm name
  unfold nsFind findBy at e
  rw [← Array.find?_toList] at e
  unfold PySem.W.lookIn
  rw [hd]
  dsimp only
  split
  · rename_i y q
    rw [q] at e
    exact congrArg some e
  · rename_i q
    rw [q] at e
    have a : es.toList.any (·.refKey) = false := by
      rw [List.any_eq_false]
      intro y hy
      obtain ⟨z, t, hkey⟩ := hk y (Array.mem_toList_iff.mp hy)
      simp [DictEntry.refKey, hkey]
    have a' : ¬ es.toList.any (·.refKey) = true := by rw [a]; exact Bool.false_ne_true
    rw [if_neg a']
    exact congrArg some e

theorem ObjM.look {h : Heap} {x dx C : Addr} {mA : Str → Option Value} (I : ObjM h x dx C mA) : ∃ od, PySem.W.InstAt h x (PySem.W.instObj C dx) C (some od) ∧ ∀ name, PySem.W.lookIn name od = some (mA name) :=
  let ⟨od, ho, hl⟩ := lookIn_ns I.ns
  ⟨od, ⟨I.obj, rfl, rfl, ho⟩, hl⟩

section
variable {prog : Program} {w : World} {A : Around} {E : Value → Shared → Prop} {s : Shared} {K : PySem.W.Frag} {x dx C f : Addr} {mA : Str → Option Value} {name : Str} {v : Value}

theorem get_map {expr : Bool} {Q : Value → Shared → Prop} (X : K.In s.heap) (I : ObjM s.heap x dx C mA) (hg : PySem.W.plainGet K C name = true) (hh : PySem.W.hasDictIn K C = true)
    (ha : PySem.W.findIn K (.ref C) name = some none) (hv : mA name = some v) (hv' : PySem.W.handedIn v = true) (h : Q v { s with toks := s.toks + 1 }) :
    wpAny (model prog w) A (getAttr (.ref x) name expr) Q E s := by
  obtain ⟨od, J, hl⟩ := I.look
  exact PySem.W.get_value X J (PySem.W.plainGet_of hg).1 (PySem.W.findObj_own hh ha rfl (by rw [hl, hv])) hv' h

theorem get_meth {pl : Sem Bool} {Q : Value × List Value → Shared → Prop} (X : K.In s.heap) (I : ObjM s.heap x dx C mA) (hg : PySem.W.plainGet K C name = true)
    (hf : PySem.W.findIn K (.ref C) name = some (some (.ref f))) (ht : PySem.W.isFn K (.ref f) = true) (hv : mA name = none) (h : Q (.ref f, [.ref x]) s) :
    wpAny (model prog w) A (getMethod (.ref x) name pl) Q E s := by
  obtain ⟨od, J, hl⟩ := I.look
  exact PySem.W.method_fn X J (PySem.W.plainGet_of hg).1 (PySem.W.plainGet_of hg).2 hf (beq_iff_eq.mp ht) (by show (PySem.W.lookIn name od).map (·.isSome) = some false; rw [hl, hv]; rfl) h

theorem set_map {ns : List Str} {Q : Unit → Shared → Prop} (X : K.In s.heap) (I : ObjM s.heap x dx C mA)
    (hs : PySem.W.findIn K (.ref C) "__setattr__" = some (some (.builtin "object.__setattr__"))) (hp : PySem.W.plainOver K C = true) (ht : PySem.W.takerIn K C name = some none) (hh : PySem.W.hasDictIn K C = true)
    (hw : PySem.Within mA ns) (hsz : ns.length ≤ sizeLine)
    (h : ∀ h', ObjM h' x dx C (fun y => if y = name then some v else mA y) → Heap.SameBut dx s.heap h' → Q () { s with heap := h', toks := s.toks + 2 }) :
    wpAny (model prog w) A (setAttr (.ref x) name v) Q E s := by
  obtain ⟨od, J, hl⟩ := I.look
  refine PySem.W.set_plain X J hs (PySem.W.osa_open (s := { s with toks := s.toks + 1 }) (r := none) X J hp ht fun b => ?_)
  obtain ⟨cd, hc, hd'⟩ := PySem.W.any_some hh
  have hx : s.heap.get? x = some ⟨.ref C, some dx, .plain, #[]⟩ := I.obj
  refine wpAny_bind (wpAny_pure (wpAny_bind (wpAny_bind (wpAny_loadPart hx (wpAny_bind (PySem.W.Looks.here (s := { s with toks := s.toks + 1 }) (PySem.W.looks_clsIn X hc) ?_))))))
  rw [hd']
  refine wpAny_pure (a := some dx) (wpAny_bind (wpAny_pure (wpAny_bind ?_)))
  refine wpAny_nsSet1 (s := { s with toks := s.toks + 1 }) I.ns fun h' hn2 hs2 => ?_
  obtain ⟨oD, esD, epD, hoD, hdD, hcD⟩ := hn2.count (PySem.Within.cons name v hw)
  refine wpAny_bind (wpAny_lookBehind hoD (by rw [hdD]; exact pastItsLine_dict (Nat.le_trans hcD (by rw [List.length_cons]; omega))) ?_)
  exact wpAny_pure (h _ ⟨(hs2.2 _ (Ne.symm I.ne)).trans I.obj, hn2, I.ne⟩ hs2)

/-- C(..): the dict at the heap's end, the instance behind it; then its __init__ -/
theorem make_map {R : Result → Shared → Prop} {vs : List Value} {kw : List (Str × Value)} (X : K.In s.heap) (hm : PySem.W.makesIn K C = true)
    (hi : PySem.W.findIn K (.ref C) "__init__" = some (some (.ref f))) (hf : PySem.W.typeIn K (.ref f) = some (.type "function"))
    (h : codeAny (model prog w) (A.under (.builtin "type.__call__" ⟨.ref C :: vs, kw⟩)) (.call (.ref f) ⟨.ref (s.heap.objs.size + 1) :: vs, kw⟩) (PySem.W.InitBack (s.heap.objs.size + 1) R)
      { s with heap := (s.heap.push PySem.W.emptyDict).push (PySem.W.instObj C s.heap.objs.size) }) :
    codeAny (model prog w) A (.call (.ref C) ⟨vs, kw⟩) R s := by
  obtain ⟨hh, g, d, t, os⟩ := s
  exact PySem.W.make_core (PySem.W.makes_of X hm) (PySem.W.looks_findIn X hi) (fun self => PySem.W.bind_fn X self hf) (.inl rfl) h
end

/-! ### the attributes as a list of pairs -/
def putF (f : Str) (v : V) : List (Str × V) → List (Str × V)
  | [] => [(f, v)]
  | (g, x) :: r => if g = f then (g, v) :: r else (g, x) :: putF f v r
theorem lookup_putF (f g : Str) (v : V) : ∀ fs : List (Str × V), (putF f v fs).lookup g = if g = f then some v else fs.lookup g
  | [] => by
    show List.lookup g [(f, v)] = _
    by_cases h : g = f
    · have hb : (g == f) = true := beq_iff_eq.mpr h
      simp only [List.lookup, hb, if_pos h]
    · have hb : (g == f) = false := beq_eq_false_iff_ne.mpr h
      simp only [List.lookup, hb, if_neg h]
  | (k, x) :: r => by
    have ih := lookup_putF f g v r
    rw [show putF f v ((k, x) :: r) = (if k = f then (k, v) :: r else (k, x) :: putF f v r) from rfl]
    by_cases hk : k = f
    · rw [if_pos hk]
      by_cases h : g = k
      · have hb : (g == k) = true := beq_iff_eq.mpr h
        simp only [List.lookup, hb, if_pos (h.trans hk)]
      · have hb : (g == k) = false := beq_eq_false_iff_ne.mpr h
        simp only [List.lookup, hb, if_neg (fun e : g = f => h (e.trans hk.symm))]
    · rw [if_neg hk]
      by_cases h : g = k
      · have hb : (g == k) = true := beq_iff_eq.mpr h
        simp only [List.lookup, hb, if_neg (fun e : g = f => hk (h.symm.trans e))]
      · have hb : (g == k) = false := beq_eq_false_iff_ne.mpr h
        simp only [List.lookup, hb]
        exact ih
theorem keys_putF (f : Str) (v : V) : ∀ fs : List (Str × V), f ∈ (putF f v fs).map (·.1) ∧ ∀ g, g ∈ fs.map (·.1) → g ∈ (putF f v fs).map (·.1)
  | [] => ⟨by simp [putF], fun g h => by simp at h⟩
  | (k, x) :: r => by
    obtain ⟨i1, i2⟩ := keys_putF f v r
    rw [show putF f v ((k, x) :: r) = (if k = f then (k, v) :: r else (k, x) :: putF f v r) from rfl]
    by_cases hk : k = f
    · rw [if_pos hk]
      subst hk
      exact ⟨by simp, fun g h => by simpa using h⟩
    · rw [if_neg hk]
      refine ⟨?_, fun g h => ?_⟩
      · rw [List.map_cons]
        exact List.mem_cons_of_mem _ i1
      · rw [List.map_cons] at h ⊢
        rcases List.mem_cons.mp h with e | e
        · exact List.mem_cons.mpr (.inl e)
        · exact List.mem_cons_of_mem _ (i2 g e)
theorem length_putF (f : Str) (v : V) : ∀ fs : List (Str × V), (putF f v fs).length ≤ fs.length + 1
  | [] => by simp [putF]
  | (k, x) :: r => by
    have ih := length_putF f v r
    rw [show putF f v ((k, x) :: r) = (if k = f then (k, v) :: r else (k, x) :: putF f v r) from rfl]
    by_cases hk : k = f
    · rw [if_pos hk, List.length_cons, List.length_cons]; omega
    · rw [if_neg hk, List.length_cons, List.length_cons]; omega

theorem RelO.some_of {v : V} {o : Option Value} (r : RelO (some v) o) : ∃ u, o = some u ∧ RelV v u := by
  cases o with
  | none => exact (show False from r).elim
  | some u => exact ⟨u, rfl, r⟩
theorem RelO.none_of {o : Option Value} (r : RelO none o) : o = none := by
  cases o with
  | none => rfl
  | some u => exact (show False from r).elim
theorem handed_of {v : V} {u : Value} (r : RelV v u) : PySem.W.handedIn u = true := by
  cases v with
  | non => cases (show u = Value.none from r); rfl
  | bl b => cases (show u = Value.bool b from r); rfl
  | int i => obtain ⟨t, e⟩ := (show ∃ t, u = Value.int i t from r); cases e; rfl
  | str x => obtain ⟨t, e⟩ := (show ∃ t, u = Value.str x t from r); cases e; rfl
  | byt b => obtain ⟨t, e⟩ := (show ∃ t, u = Value.bytes b t from r); cases e; rfl
  | flt b => obtain ⟨t, e⟩ := (show ∃ t, u = Value.float b t from r); cases e; rfl
  | ref a => cases (show u = Value.ref a from r); rfl
  | ty n => cases (show u = Value.type n from r); rfl

section
variable {P : Program} {w : World} {H H' : Hp} {h h' : Heap} {a C dx : Addr} {fs fs' : List (Str × V)}
theorem ins_get (hok : HOk P w H h) (e : H a = some (.ins C dx fs)) : ∃ mA, ObjM h a dx C mA ∧ (∀ f, RelO (fs.lookup f) (mA f)) ∧ PySem.Within mA (fs.map (·.1)) ∧ fs.length ≤ 1000 ∧ H dx = some (.own a) := by
  obtain ⟨d, z, ne, ob, mA, n, r, q⟩ := (show ObjOk P w H h a (.ins C dx fs) from hok a _ e)
  exact ⟨mA, ⟨ob, n, ne⟩, r, q, z, d⟩
end

/-! ### what of the text a class must have -/
structure Cls (K : PySem.W.Frag) (C : Addr) : Prop where
  pg : PySem.W.plainGet K C Str.empty = true
  hd : PySem.W.hasDictIn K C = true
  po : PySem.W.plainOver K C = true
  sa : PySem.W.findIn K (.ref C) "__setattr__" = some (some (.builtin "object.__setattr__"))
theorem Cls.get {K : PySem.W.Frag} {C : Addr} (c : Cls K C) (f : Str) : PySem.W.plainGet K C f = true := c.pg
/-- no class of it has the name -/
def NoAttr (K : PySem.W.Frag) (C : Addr) (f : Str) : Prop := PySem.W.findIn K (.ref C) f = some none
theorem NoAttr.taker {K : PySem.W.Frag} {C : Addr} {f : Str} (n : NoAttr K C f) : PySem.W.takerIn K C f = some none := by
  unfold PySem.W.takerIn
  rw [show PySem.W.findIn K (.ref C) f = some none from n]
  rfl
/-- a constant of the class -/
structure Con (K : PySem.W.Frag) (C : Addr) (f : Str) (v : V) (u : Value) : Prop where
  at_ : PySem.W.findIn K (.ref C) f = some (some u)
  rel : RelV v u
  get : PySem.W.specialIn K u "__get__" = some none
  cp : PySem.W.copiedNames.contains f = false
/-- a method: a plain def of the class or of one above it -/
structure Meth (K : PySem.W.Frag) (C : Addr) (m : Str) (f : Addr) : Prop where
  at_ : PySem.W.findIn K (.ref C) m = some (some (.ref f))
  fn : PySem.W.isFn K (.ref f) = true
  kp : PySem.W.keepIn K (.ref f) = true

section
variable {X : Cx} {pins : List (Addr × Obj)} {σ : St} {H : Hp} {s : Shared} {a C dx : Addr} {fs : List (Str × V)} {f : Str} {v : V} {A : Around} {E : Value → Shared → Prop}

theorem getattr_ok {b : Bool} {Q : Value → Shared → Prop} (I : Inv X pins σ H s) (e : H a = some (.ins C dx fs)) (c : Cls X.K C) (n : NoAttr X.K C f) (l : fs.lookup f = some v)
    (h : ∀ u s', Inv X pins σ H s' → RelV v u → Q u s') : wpAny (model X.prog X.w) A (getAttr (.ref a) f b) Q E s := by
  obtain ⟨mA, O, r, _, _, _⟩ := ins_get I.hok e
  obtain ⟨u, hu, ru⟩ := RelO.some_of (v := v) (o := mA f) (by rw [← l]; exact r f)
  exact get_map I.kIn O (c.get f) c.hd n hu (handed_of ru) (h u _ (I.tok _) ru)

theorem getmeth_ok {m : Str} {g : Addr} {pl : Sem Bool} {Q : Value × List Value → Shared → Prop} (I : Inv X pins σ H s) (e : H a = some (.ins C dx fs)) (c : Cls X.K C) (k : Meth X.K C m g) (l : fs.lookup m = none)
    (h : Q (.ref g, [.ref a]) s) : wpAny (model X.prog X.w) A (getMethod (.ref a) m pl) Q E s := by
  obtain ⟨mA, O, r, _, _, _⟩ := ins_get I.hok e
  have hn : mA m = none := RelO.none_of (by rw [← l]; exact r m)
  exact get_meth I.kIn O (c.get m) k.at_ k.fn hn h

theorem setattr_ok {y : V} {u : Value} {Q : Unit → Shared → Prop} (I : Inv X pins σ H s) (e : H a = some (.ins C dx fs)) (c : Cls X.K C) (n : NoAttr X.K C f) (hl : fs.length < 1000) (ry : RelV y u)
    (h : ∀ s', Inv X pins σ (upd H a (.ins C dx (putF f y fs))) s' → Q () s') : wpAny (model X.prog X.w) A (setAttr (.ref a) f u) Q E s := by
  obtain ⟨mA, O, r, wi, _, ho⟩ := ins_get I.hok e
  have hz : (fs.map (·.1)).length ≤ sizeLine := by rw [List.length_map, sizeLine_eq]; omega
  refine set_map I.kIn O c.sa c.po n.taker c.hd wi hz fun h' O' sb => h _ ?_
  have hd : ∃ o, h'.get? dx = some o := let ⟨o, _, _, e', _⟩ := O'.ns; ⟨o, e'⟩
  refine I.write (x := a) (e := dx) (by rw [e]; exact True.intro) (.inr ho) (fun b q hb z => (sb.2 b hb).trans z) hd ?_
  refine ⟨by rw [upd_ne O.ne]; exact ho, ?_, O.ne, O'.obj, _, O'.ns, fun g => ?_, fun g hg => ?_⟩
  · have := length_putF f y fs; omega
  · show RelO ((putF f y fs).lookup g) (if g = f then some u else mA g)
    rw [lookup_putF]
    by_cases q : g = f
    · rw [if_pos q, if_pos q]; exact ry
    · rw [if_neg q, if_neg q]; exact r g
  · by_cases q : g = f
    · rw [q]; exact (keys_putF f y fs).1
    · refine (keys_putF f y fs).2 g (wi g fun z => hg ?_)
      show (if g = f then some u else mA g) = none
      rw [if_neg q]; exact z

/-- a new instance, tracked, without attributes -/
theorem Inv.made (I : Inv X pins σ H s) : Inv X pins σ (upd (upd H s.heap.objs.size (.own (s.heap.objs.size + 1))) (s.heap.objs.size + 1) (.ins C s.heap.objs.size []))
    { s with heap := (s.heap.push PySem.W.emptyDict).push (PySem.W.instObj C s.heap.objs.size) } := by
  have e1 : (s.heap.push PySem.W.emptyDict).get? s.heap.objs.size = some PySem.W.emptyDict := Heap.get?_push_size s.heap rfl
  have e2 : ((s.heap.push PySem.W.emptyDict).push (PySem.W.instObj C s.heap.objs.size)).get? (s.heap.objs.size + 1) = some (PySem.W.instObj C s.heap.objs.size) := by
    have := Heap.get?_push_size (s.heap.push PySem.W.emptyDict) (o := PySem.W.instObj C s.heap.objs.size) rfl
    rwa [Heap.size_push] at this
  have e3 : (s.heap.push PySem.W.emptyDict).Ns s.heap.objs.size (fun _ => none) := ⟨PySem.W.emptyDict, #[], _, e1, rfl, (fun e he => absurd he (by simp)), fun _ => rfl⟩
  have I1 := I.laid (a := s.heap.objs.size) (o := .own (s.heap.objs.size + 1)) (h' := s.heap.push PySem.W.emptyDict) (t' := s.toks) (fun b u q => Heap.get?_push_of_some _ q) (Nat.le_refl _) ⟨_, e1⟩
  refine I1.laid (a := s.heap.objs.size + 1) (o := .ins C s.heap.objs.size []) (t' := s.toks) (fun b u q => Heap.get?_push_of_some _ q) (Nat.le_of_eq (Heap.size_push _ _)) ?_
  have ne : s.heap.objs.size ≠ s.heap.objs.size + 1 := Nat.ne_of_lt (Nat.lt_succ_self _)
  refine ⟨by rw [upd_ne ne, upd_same], Nat.zero_le _, ne, e2, fun _ => none, (Heap.Ns1.of_empty e3).at fun o q => Heap.get?_push_of_some _ q, fun _ => True.intro, fun y hy => absurd rfl hy⟩

/-- e.f where nothing but the object is asked: through attributeBase (super) and the last hold -/
theorem attr_of {prog : Program} {w : World} {env : Env} {e : Expr} {f : Str} {pos : Pos} {s : Shared} {Q : Value → Shared → Prop} (hb : attributeBase e f env (eval e env) = eval e env)
    (h : wpAny (model prog w) A (eval e env) (fun o s₁ => wpAny (model prog w) A (getAttr o f true) Q E s₁) E s) : wpAny (model prog w) A (eval (.Attribute e f pos) env) Q E s :=
  Attribute_any_ h (by rw [arm_eval_Attribute, hb])
end

/-! ### readings and rules -/
/-- e.f, an attribute of the instance -/
def tFld (K : PySem.W.Frag) (ta : TE) (f : Str) : TE := fun σ H Q => ta σ H fun x H1 => ∃ a C dx fs v, x = .ref a ∧ H1 a = some (.ins C dx fs) ∧ Cls K C ∧ NoAttr K C f ∧ fs.lookup f = some v ∧ Q v H1
/-- e.f, a constant of the class -/
def tCon (K : PySem.W.Frag) (ta : TE) (f : Str) : TE := fun σ H Q => ta σ H fun x H1 => ∃ a C dx fs v u, x = .ref a ∧ H1 a = some (.ins C dx fs) ∧ Cls K C ∧ Con K C f v u ∧ fs.lookup f = none ∧ Q v H1
/-- e.f = value -/
def sFld (K : PySem.W.Frag) (ta tv : TE) (f : Str) : TS := fun D σ H => tv σ H fun y H1 => ta σ H1 fun x H2 => ∃ a C dx fs, x = .ref a ∧ H2 a = some (.ins C dx fs) ∧ Cls K C ∧ NoAttr K C f ∧ fs.length < 1000 ∧
  D.nx σ (upd H2 a (.ins C dx (putF f y fs)))
/-- an augmented operator on two values -/
def InOp (X : Cx) (op : Operator) (rd : V → V → Hp → VK → Prop) : Prop :=
  ∀ (pins : List (Addr × Obj)) (s : Shared) (σ : St) (H : Hp) (x y : V) (u v : Value) (Q : VK), Inv X pins σ H s → RelV x u → RelV y v → rd x y H Q → wpAny (model X.prog X.w) X.A (inplaceOp op u v) (EP X pins σ Q) X.xe s
/-- e.f op= value -/
def sFldAug (K : PySem.W.Frag) (ta tv : TE) (rd : V → V → Hp → VK → Prop) (f : Str) : TS := fun D σ H => ta σ H fun x H1 => ∃ a C dx fs v, x = .ref a ∧ H1 a = some (.ins C dx fs) ∧ Cls K C ∧ NoAttr K C f ∧ fs.lookup f = some v ∧
  tv σ H1 fun y H2 => rd v y H2 fun z H3 => ∃ dx' fs', H3 a = some (.ins C dx' fs') ∧ fs'.length < 1000 ∧ D.nx σ (upd H3 a (.ins C dx' (putF f z fs')))

section
variable {X : Cx} {o e value : Expr} {f : Str} {pos pos' tpos : Pos} {ta tv : TE}
theorem pe_fld (he : PE X e ta) (hb : attributeBase e f X.env (eval e X.env) = eval e X.env) : PE X (.Attribute e f pos) (tFld X.K ta f) := by
  intro pins s σ H Q I h
  refine attr_of hb (thn (he pins s σ H _ I h) fun u s1 ⟨x, H1, I1, rx, a, C, dx, fs, v, ex, ea, c, n, l, q⟩ => ?_)
  subst ex
  obtain rfl : u = Value.ref a := rx
  exact getattr_ok I1 ea c n l fun u' s2 I2 ru => ⟨v, H1, I2, ru, q⟩
theorem ps_fld (ha : PE X o ta) (hv : PE X value tv) (hs : swapsWith value (some (.Attribute o f pos')) pos.line X.env = pure false) : PS X (.Assign [.Attribute o f pos'] value pos) (sFld X.K ta tv f) := by
  intro pins s σ H D I h
  refine plainObj_wpAny_Assign_Attribute (thn (hv pins s σ H _ I h) fun u s1 ⟨y, H1, I1, ry, q⟩ => thn (ha pins s1 σ H1 _ I1 q) fun ov s2 ⟨x, H2, I2, rx, a, C, dx, fs, ex, ea, c, n, l, q2⟩ => ?_) hs
  subst ex
  obtain rfl : ov = Value.ref a := rx
  exact setattr_ok I2 ea c n l ry fun s3 I3 => ⟨σ, _, I3, q2⟩
def rAdd : V → V → Hp → VK → Prop := fun x y H Q => ∃ i j, x = .int i ∧ y = .int j ∧ Q (.int (i + j)) H
def rSub : V → V → Hp → VK → Prop := fun x y H Q => ∃ i j, x = .int i ∧ y = .int j ∧ Q (.int (i - j)) H
end

/-! ### isinstance -/
section
variable {X : Cx} {pins : List (Addr × Obj)} {σ : St} {H : Hp} {s : Shared} {A : Around} {E : Value → Shared → Prop} {Q : Value → Shared → Prop} {c : Value} {b : Bool}
/-- the type of a value, as the fragment's deciders take it; for an instance its class -/
inductive TyOf (K : PySem.W.Frag) (H : Hp) : V → Value → Prop where
  | non : TyOf K H .non (.type "NoneType")
  | bl (x : Bool) : TyOf K H (.bl x) (.type "bool")
  | int (i : Int) : TyOf K H (.int i) (.type "int")
  | str (x : Str) : TyOf K H (.str x) (.type "str")
  | flt (x : UInt64) : TyOf K H (.flt x) (.type "float")
  | lst {a : Addr} {xs : List V} (e : H a = some (.lst xs)) : TyOf K H (.ref a) (.type "list")
  | frz {a : Addr} {o : Obj} {xs : List V} (e : H a = some (.frz o (.lst xs))) : TyOf K H (.ref a) (.type "list")
  | tup {a : Addr} {xs : List V} (e : H a = some (.tup xs)) : TyOf K H (.ref a) (.type "tuple")
  | dK {a : Addr} {kvs : List (Key × V)} (e : H a = some (.dK kvs)) : TyOf K H (.ref a) (.type "dict")
  | dT {a : Addr} {kvs : List (List Key × V)} (e : H a = some (.dT kvs)) : TyOf K H (.ref a) (.type "dict")
  | ins {a C dx : Addr} {fs : List (Str × V)} (e : H a = some (.ins C dx fs)) (cl : Cls K C) (ha : PySem.W.findIn K (.ref C) "__class__" = some (some (.builtin "object.__class__")))
      (hn : PySem.W.specialIn K (.builtin "object.__class__") "__get__" = some (some (.builtin "getset_descriptor.__get__"))) (htk : PySem.W.takesIn K (.builtin "object.__class__") = some true)
      (hm : PySem.W.mroIn K C (.type "object") = some true) : TyOf K H (.ref a) (.ref C)
end
end L2

namespace L2
open PySem PySem.Spec PyProof.Rows

/-! ### room -/
structure Room (k : Nat) (A : Around) : Prop where
  hd : A.handled = none
  dp : A.depth + 3 * k + 5 < recursionLimit
  un : A.units + 16 * k + 200 < cLine
theorem Room.mono {j k : Nat} {A : Around} (r : Room k A) (h : j ≤ k) : Room j A := ⟨r.hd, by have := r.dp; omega, by have := r.un; omega⟩
theorem Room.deeper {k : Nat} {A : Around} (r : Room (k + 1) A) (env : Env) : Room k (A.deeper env) :=
  ⟨r.hd, by have := r.dp; show A.depth + 1 + 3 * k + 5 < _; omega, by have := r.un; show A.units + 3 + 16 * k + 200 < _; omega⟩
theorem Room.in1 {k : Nat} {A : Around} (r : Room (k + 1) A) : Room k A.in1 :=
  ⟨r.hd, by have := r.dp; show A.depth + 3 * k + 5 < _; omega, by have := r.un; show A.units + 1 + 16 * k + 200 < _; omega⟩
theorem make_depth {A : Around} {C : Addr} {us : List Value} {kw : List (Str × Value)} : (A.under (.builtin "type.__call__" ⟨.ref C :: us, kw⟩)).depth = A.depth + 1 := by
  first | rfl | simp [Around.under, Code.weight, Code.isCreation, Code.isGuard, Code.isCaller, Code.frames, Code.isFrame, guardIds]
theorem make_units {A : Around} {C : Addr} {us : List Value} {kw : List (Str × Value)} : (A.under (.builtin "type.__call__" ⟨.ref C :: us, kw⟩)).units = A.units + 1 := by
  first | rfl | simp [Around.under, Code.cUnits, Code.frames, Code.isFrame]
theorem Room.make {k : Nat} {A : Around} (r : Room (k + 1) A) (C : Addr) (us : List Value) (kw : List (Str × Value)) : Room k (A.under (.builtin "type.__call__" ⟨.ref C :: us, kw⟩)) :=
  ⟨r.hd, by have := r.dp; rw [make_depth]; omega, by have := r.un; rw [make_units]; omega⟩
theorem Room.depth {k : Nat} {A : Around} (r : Room k A) : A.depth < recursionLimit := by have := r.dp; omega
theorem Room.units {k : Nat} {A : Around} (r : Room k A) : A.units + 64 < cLine := by have := r.un; omega
/-! ### argument lists and displays -/
def tNil : TA := fun _ H Q => Q [] H
def tCons (ta : TE) (tr : TA) : TA := fun σ H Q => ta σ H fun x H1 => tr σ H1 fun xs H2 => Q (x :: xs) H2
section
variable {X : Cx} {e : Expr} {es : List Expr} {te : TE} {t : TA} {pos : Pos}
theorem pa_nil : PA X [] tNil := fun _ _ _ _ H Q I h => Calls.spliced_nil ⟨[], H, I, .nil, h⟩
theorem pa_cons (ha : PE X e te) (hr : PA X es t) (hs : starEach (e :: es) X.env = (false, eval e X.env) :: starEach es X.env := by rfl) : PA X (e :: es) (tCons te t) := by
  intro pos pins s σ H Q I h
  rw [hs]
  show wpAny _ _ (spliced ((false, eval e X.env) :: backTo pos (starEach es X.env))) _ _ s
  refine Calls.spliced_cons (thn (ha pins s σ H _ I h) fun u s1 ⟨x, H1, I1, r1, q1⟩ => ?_)
  exact thn (hr pos pins s1 σ H1 _ I1 q1) fun us s2 ⟨xs, H2, I2, r2, q2⟩ => ⟨x :: xs, H2, I2, .cons r1 r2, q2⟩

/-- a tuple, a list of written items -/
def tTup (t : TA) : TE := fun σ H Q => t σ H fun xs H1 => xs.length ≤ sizeLine ∧ ∀ p, H1 p = none → Q (.ref p) (upd H1 p (.tup xs))
def tLst (t : TA) : TE := fun σ H Q => t σ H fun xs H1 => xs.length ≤ sizeLine ∧ ∀ p, H1 p = none → Q (.ref p) (upd H1 p (.lst xs))
theorem pe_tup {x1} (h : PA X es t) : PE X (.Tuple es x1 pos) (tTup t) := by
  intro pins s σ H Q I hq
  refine wpAny_Tuple_spliced (thn (h pos pins s σ H _ I hq) fun us s1 ⟨xs, H1, I1, r, z, q⟩ => ⟨by rw [← r.length]; exact z, ?_⟩)
  have hf : H1 s1.heap.objs.size = none := I1.hok.fresh (Nat.le_refl _)
  refine ⟨.ref s1.heap.objs.size, upd H1 s1.heap.objs.size (.tup xs), I1.laid (t' := s1.toks) (fun b u e => Heap.get?_push_of_some _ e) (Nat.le_refl _) ?_, rfl, q _ hf⟩
  exact ⟨z, us, r, ⟨_, Heap.get?_push_size _ rfl, rfl, _, rfl⟩⟩
theorem pe_lst (h : PA X es t) : PE X (.List es pos) (tLst t) := by
  intro pins s σ H Q I hq
  refine wpAny_List_spliced (thn (h pos pins s σ H _ I hq) fun us s1 ⟨xs, H1, I1, r, z, q⟩ => ⟨by rw [← r.length]; exact z, ?_⟩)
  have hf : H1 s1.heap.objs.size = none := I1.hok.fresh (Nat.le_refl _)
  refine ⟨.ref s1.heap.objs.size, upd H1 s1.heap.objs.size (.lst xs), I1.laid (t' := s1.toks) (fun b u e => Heap.get?_push_of_some _ e) (Nat.le_refl _) ?_, rfl, q _ hf⟩
  exact ⟨z, us, 0, r, Heap.get?_push_size _ rfl⟩
end

/-! ### what a def promises -/
/-- a def's promise: the bound arguments in the parameters' order, the heap, the wanted end, the wanted exception -/
abbrev Sp := List V → Hp → VK → XK → Prop
/-- how an exception lies behind a call (file 08 gives it): the callers' frames, abstract heap and state ahead of the call, the wish, the exception, the state -/
abbrev CXT := List Env → Hp → Shared → XK → Value → Shared → Prop

/-- the state at a call -/
structure Env0 (P : Program) (w : World) (K : PySem.W.Frag) (mg : Str → Option Value) (base : Heap) (A : Around) (outer : List Env) (s : Shared) (H : Hp) : Prop where
  frames : A.frames = some outer
  mod : Mod K mg base
  bs : ∀ b o, base.get? b = some o → s.heap.get? b = some o ∧ H b = none
  bsz : base.objs.size ≤ s.heap.objs.size
  funs : s.heap.FunFrames base outer
  frf : ∀ b ∈ frs outer, H b = none
  hok : HOk P w H s.heap
  bare : AllBare s.gens
/-- a call's end -/
def CE (outer : List Env) (P : Program) (w : World) (H : Hp) (s : Shared) (Q : VK) (u : Value) (s' : Shared) : Prop :=
  ∃ v H', s'.os = s.os ∧ AllBare s'.gens ∧ Un (frs outer) [] H H' s.heap s'.heap ∧ HOk P w H' s'.heap ∧ RelV v u ∧ Q v H'
def CR (CX : CXT) (outer : List Env) (P : Program) (w : World) (H : Hp) (s : Shared) (Q : VK) (E : XK) (r : Result) (s' : Shared) : Prop :=
  match r with
  | .ok (.ret u) => CE outer P w H s Q u s'
  | .ok _ => False
  | .error e => CX outer H s E e s'
structure FnOk (P : Program) (w : World) (K : PySem.W.Frag) (mg : Str → Option Value) (base : Heap) (CX : CXT) (k : Nat) (f : Addr) (fd : FuncData) (ps : List Str) (sp : Sp) : Prop where
  len : ∀ vs H Q E, sp vs H Q E → vs.length = ps.length
  run : ∀ (A : Around) (outer : List Env) (s : Shared) (H : Hp) (args : Args) (us : List Value) (vs : List V) (Q : VK) (E : XK), Room k A → Env0 P w K mg base A outer s H → BindsTo s fd args (ps.zip us) → Vals vs us → sp vs H Q E →
    codeAny (model P w) A (.call (.ref f) args) (CR CX outer P w H s Q E) s
/-- a weaker promise -/
theorem FnOk.imp {P : Program} {w : World} {K : PySem.W.Frag} {mg : Str → Option Value} {base : Heap} {CX : CXT} {k : Nat} {f : Addr} {fd : FuncData} {ps : List Str} {sp sp' : Sp} (F : FnOk P w K mg base CX k f fd ps sp)
    (h : ∀ vs H Q E, sp' vs H Q E → sp vs H Q E) : FnOk P w K mg base CX k f fd ps sp' :=
  ⟨fun vs H Q E q => F.len vs H Q E (h _ _ _ _ q), fun A outer s H args us vs Q E hr he hb hv hs => F.run A outer s H args us vs Q E hr he hb hv (h _ _ _ _ hs)⟩

theorem Env0.make {P : Program} {w : World} {K : PySem.W.Frag} {mg : Str → Option Value} {base : Heap} {A : Around} {outer : List Env} {s : Shared} {H : Hp} (e : Env0 P w K mg base A outer s H) (C : Addr) (us : List Value) (kw : List (Str × Value)) :
    Env0 P w K mg base (A.under (.builtin "type.__call__" ⟨.ref C :: us, kw⟩)) outer s H := ⟨by first | exact e.frames | (simpa [Around.under, Code.envs, Code.isFrame, pushEnvs] using e.frames), e.mod, e.bs, e.bsz, e.funs, e.frf, e.hok, e.bare⟩
theorem Env0.in1 {P : Program} {w : World} {K : PySem.W.Frag} {mg : Str → Option Value} {base : Heap} {A : Around} {outer : List Env} {s : Shared} {H : Hp} (e : Env0 P w K mg base A outer s H) :
    Env0 P w K mg base A.in1 outer s H := ⟨e.frames, e.mod, e.bs, e.bsz, e.funs, e.frf, e.hok, e.bare⟩

section
variable {X : Cx} {pins : List (Addr × Obj)} {σ : St} {H : Hp} {s s' : Shared}
/-- from a body: what a callee wants -/
theorem Inv.env0 (I : Inv X pins σ H s) : Env0 X.prog X.w X.K X.mg X.base X.A X.stack s H :=
  ⟨I.ok.frames, I.ok.mod, I.bs, Nat.le_trans I.ok.bsz I.sz, I.stack, I.stkFree, I.hok, I.bare⟩
/-- behind a call -/
theorem Inv.after {Q : VK} {u : Value} (I : Inv X pins σ H s) (h : CE X.stack X.prog X.w H s Q u s') : EP X pins σ Q u s' := by
  obtain ⟨v, H', os, bare, un, hok, r, q⟩ := h
  obtain ⟨hh, g, d, t, os'⟩ := s'
  obtain rfl : os' = s.os := os
  exact ⟨v, H', I.call (h' := hh) (g' := g) (d' := d) (t' := t) (ch := []) un hok bare (fun b z => absurd z (by simp)), r, q⟩
end

/-! ### calls -/
/-- f(..): the written arguments, then the defaults dvs; E: what is wanted of an exception -/
def tCall (sp : Sp) (dvs : List V) (E : XK) (t : TA) : TE := fun σ H Q => t σ H fun vs H1 => sp (vs ++ dvs) H1 Q E
/-- o.m(..) of an instance of the class at C -/
def tMeth (C : Addr) (m : Str) (sp : Sp) (dvs : List V) (E : XK) (ta : TE) (t : TA) : TE := fun σ H Q => ta σ H fun x H1 => ∃ a dx fs, x = .ref a ∧ H1 a = some (.ins C dx fs) ∧ fs.lookup m = none ∧
  t σ H1 fun vs H2 => sp (x :: (vs ++ dvs)) H2 Q E
/-- C(..): a new instance and its dict, then __init__ -/
def tMake (C : Addr) (sp : Sp) (dvs : List V) (E : XK) (t : TA) : TE := fun σ H Q => t σ H fun vs H1 => ∀ x dx, H1 x = none → H1 dx = none → dx ≠ x →
  sp (.ref x :: (vs ++ dvs)) (upd (upd H1 dx (.own x)) x (.ins C dx [])) (fun v H2 => v = .non ∧ Q (.ref x) H2) E

/-- how the parameters are bound: us the positional arguments, kw the keywords' values by name, ds the defaults that fill up -/
def Binds (K : PySem.W.Frag) (fd : FuncData) (ps : List Str) (ds : List Value) : Prop :=
  ∀ (s : Shared) (us : List Value), K.In s.heap → (us ++ ds).length = ps.length → BindsTo s fd ⟨us, []⟩ (ps.zip (us ++ ds))
/-- every parameter is given -/
theorem Binds.all {K : PySem.W.Frag} {fd : FuncData} {ps : List Str} (h : ∀ us : List Value, us.length = ps.length → bindArgs fd ⟨us, []⟩ = pure (ps.zip us)) : Binds K fd ps [] := fun s us _ hl => by
  rw [List.append_nil] at hl ⊢
  exact .of_eq (h us hl)

/-- an exception of a callee reaches what this body wants of exceptions -/
def Passes (CX : CXT) (X : Cx) (E : XK) : Prop := ∀ (pins : List (Addr × Obj)) (σ : St) (H : Hp) (s : Shared) (e : Value) (s' : Shared), Inv X pins σ H s → CX X.stack H s E e s' → X.xe e s'

section
variable {X : Cx} {CX : CXT} {k : Nat} {f C : Addr} {fd : FuncData} {ps : List Str} {sp : Sp} {dvs : List V} {ds : List Value} {E : XK} {x m : Str} {p pos apos : Pos} {e o : Expr} {es : List Expr} {ta : TE} {t : TA}

/-- the callee runs -/
theorem run_fn {pins : List (Addr × Obj)} {σ : St} {H : Hp} {s : Shared} {Q : VK} {us : List Value} {vs : List V} (F : FnOk X.prog X.w X.K X.mg X.base CX k f fd ps sp) (hr : Room k X.A) (hb : Binds X.K fd ps ds) (hd : Vals dvs ds) (hx : Passes CX X E)
    (I : Inv X pins σ H s) (r : Vals vs us) (h : sp (vs ++ dvs) H Q E) : wpAny (model X.prog X.w) X.A (call (.ref f) us) (EP X pins σ Q) X.xe s := by
  have r2 : Vals (vs ++ dvs) (us ++ ds) := r.append hd
  have hl : (us ++ ds).length = ps.length := by rw [← r2.length]; exact F.len _ _ _ _ h
  refine wpAny_call (codeAny_mono (F.run X.A X.stack s H ⟨us, []⟩ (us ++ ds) (vs ++ dvs) Q E hr I.env0 (hb s us I.kIn hl) r2 h) fun r s' hq => ?_)
  cases r with
  | error e => exact hx pins σ H s e s' I hq
  | ok fl =>
    cases fl with
    | ret u => exact I.after hq
    | next => exact False.elim hq
    | brk => exact False.elim hq
    | cont => exact False.elim hq

theorem pe_call (F : FnOk X.prog X.w X.K X.mg X.base CX k f fd ps sp) (hr : Room k X.A) (hg : Gl X x) (hm : X.mg x = some (.ref f)) (hk : PySem.W.keepIn X.K (.ref f) = true) (hb : Binds X.K fd ps ds) (hd : Vals dvs ds) (hx : Passes CX X E)
    (ha : PA X (e :: es) t) (hdb : (x == ("__debug__" : Str)) = false := by decide) (he : starEach (e :: es) X.env = (false, eval e X.env) :: starEach es X.env := by rfl) (hpl : (backTo pos (starEach es X.env)).any (·.1) = false := by rfl) :
    PE X (.Call (.Name x p) (e :: es) [] pos) (tCall sp dvs E t) := by
  intro pins s σ H Q I h
  refine wpAny_Call_Name_kw (ld_glob I hg hm ?_ hdb)
  refine PySem.W.callWith_K (h₀ := X.base) I.ok.mod.kin hk (thn (ha pos pins s σ H _ I h) fun us s1 ⟨vs, H1, I1, r, q⟩ => ⟨I1.kIn, ?_⟩) he hpl
  exact run_fn F hr hb hd hx I1 r q
/-- o.m(e, ..) -/
theorem pe_meth {pl : Sem Bool} (he : PE X o ta) (c : Cls X.K C) (hm : Meth X.K C m f) (F : FnOk X.prog X.w X.K X.mg X.base CX k f fd ps sp) (hr : Room k X.A) (hb : Binds X.K fd ps ds) (hd : Vals dvs ds) (hx : Passes CX X E) (ha : PA X (e :: es) t)
    (hst : starEach (e :: es) X.env = (false, eval e X.env) :: starEach es X.env := by rfl) (hpl : (backTo pos (starEach es X.env)).any (·.1) = false := by rfl)
    (ht : eval (.Call (.Attribute o m apos) (e :: es) [] pos) X.env = (do
      let ov ← eval o X.env
      standAt apos.atName
      let (f, first) ← holding [ov] (getMethod ov m pl)
      callWith pos f first (backTo pos (starEach (e :: es) X.env)) (backToKw pos (keywordEach [] X.env))) := by rfl) :
    PE X (.Call (.Attribute o m apos) (e :: es) [] pos) (tMeth C m sp dvs E ta t) := by
  intro pins s σ H Q I h
  refine PySem.W.methodCall_KW (pl := pl) (thn (he pins s σ H _ I h) fun u s1 ⟨x, H1, I1, rx, a, dx, fs, ex, ea, l, q⟩ => ?_) ht
  subst ex
  obtain rfl : u = Value.ref a := rx
  refine getmeth_ok I1 ea c hm l ?_
  refine PySem.W.callWith_K (first := [.ref a]) (h₀ := X.base) I.ok.mod.kin hm.kp (thn (ha pos pins s1 σ H1 _ I1 q) fun us s2 ⟨vs, H2, I2, r, q2⟩ => ⟨I2.kIn, ?_⟩) hst hpl
  exact run_fn (us := .ref a :: us) (vs := .ref a :: vs) F hr hb hd hx I2 (.cons rfl r) q2
/-- o.m() -/
theorem pe_meth0 {pl : Sem Bool} (he : PE X o ta) (c : Cls X.K C) (hm : Meth X.K C m f) (F : FnOk X.prog X.w X.K X.mg X.base CX k f fd ps sp) (hr : Room k X.A) (hb : Binds X.K fd ps ds) (hd : Vals dvs ds) (hx : Passes CX X E)
    (ht : eval (.Call (.Attribute o m apos) [] [] pos) X.env = (do
      let ov ← eval o X.env
      standAt apos.atName
      let (f, first) ← holding [ov] (getMethod ov m pl)
      callWith pos f first (backTo pos (starEach [] X.env)) (backToKw pos (keywordEach [] X.env))) := by rfl) :
    PE X (.Call (.Attribute o m apos) [] [] pos) (tMeth C m sp dvs E ta tNil) := by
  intro pins s σ H Q I h
  refine PySem.W.methodCall_KW (pl := pl) (thn (he pins s σ H _ I h) fun u s1 ⟨x, H1, I1, rx, a, dx, fs, ex, ea, l, q⟩ => ?_) ht
  subst ex
  obtain rfl : u = Value.ref a := rx
  refine getmeth_ok I1 ea c hm l ?_
  exact PySem.W.callWith_K0 (first := [.ref a]) I1.kIn hm.kp (run_fn (us := [.ref a]) (vs := [.ref a]) F hr hb hd hx I1 (.cons rfl .nil) q)

/-- what a class must have to be made -/
structure Mk (K : PySem.W.Frag) (C f : Addr) : Prop where
  makes : PySem.W.makesIn K C = true
  init : PySem.W.findIn K (.ref C) "__init__" = some (some (.ref f))
  fn : PySem.W.isFn K (.ref f) = true
  kp : PySem.W.keepIn K (.ref C) = true

theorem run_make {pins : List (Addr × Obj)} {σ : St} {H : Hp} {s : Shared} {Q : VK} {us : List Value} {vs : List V} (M : Mk X.K C f) (F : FnOk X.prog X.w X.K X.mg X.base CX k f fd ps sp) (hr : Room (k + 1) X.A) (hb : Binds X.K fd ps ds) (hd : Vals dvs ds)
    (hx : Passes CX X E) (I : Inv X pins σ H s) (r : Vals vs us)
    (h : ∀ x dx, H x = none → H dx = none → dx ≠ x → sp (.ref x :: (vs ++ dvs)) (upd (upd H dx (.own x)) x (.ins C dx [])) (fun v H2 => v = .non ∧ Q (.ref x) H2) E) :
    wpAny (model X.prog X.w) X.A (call (.ref C) us) (EP X pins σ Q) X.xe s := by
  have hq := h (s.heap.objs.size + 1) s.heap.objs.size (I.hok.fresh (Nat.le_succ _)) (I.hok.fresh (Nat.le_refl _)) (Nat.ne_of_lt (Nat.lt_succ_self _))
  have I2 := Inv.made (C := C) I
  have r2 : Vals (V.ref (s.heap.objs.size + 1) :: (vs ++ dvs)) (Value.ref (s.heap.objs.size + 1) :: (us ++ ds)) := .cons rfl (r.append hd)
  have hl : (Value.ref (s.heap.objs.size + 1) :: us ++ ds).length = ps.length := by
    have e := r2.length
    rw [F.len _ _ _ _ hq] at e
    exact e.symm
  refine wpAny_call (make_map (f := f) I.kIn M.makes M.init (beq_iff_eq.mp M.fn) (codeAny_mono (F.run _ X.stack _ _ ⟨Value.ref (s.heap.objs.size + 1) :: us, []⟩ (Value.ref (s.heap.objs.size + 1) :: (us ++ ds)) _ _ E (hr.make C us [])
    (I2.env0.make C us []) (hb _ (Value.ref (s.heap.objs.size + 1) :: us) I2.kIn hl) r2 hq) fun r s' hq' => ?_))
  cases r with
  | error e => exact hx pins σ _ _ e s' I2 hq'
  | ok fl =>
    cases fl with
    | ret u =>
      obtain ⟨v, H', I3, rv, ev, q3⟩ := I2.after hq'
      subst ev
      exact ⟨rv, ⟨V.ref (s.heap.objs.size + 1), H', I3, rfl, q3⟩⟩
    | next => exact False.elim hq'
    | brk => exact False.elim hq'
    | cont => exact False.elim hq'
theorem pe_make (M : Mk X.K C f) (F : FnOk X.prog X.w X.K X.mg X.base CX k f fd ps sp) (hr : Room (k + 1) X.A) (hg : Gl X x) (hm : X.mg x = some (.ref C)) (hb : Binds X.K fd ps ds) (hd : Vals dvs ds) (hx : Passes CX X E)
    (ha : PA X (e :: es) t) (hdb : (x == ("__debug__" : Str)) = false := by decide) (he : starEach (e :: es) X.env = (false, eval e X.env) :: starEach es X.env := by rfl) (hpl : (backTo pos (starEach es X.env)).any (·.1) = false := by rfl) :
    PE X (.Call (.Name x p) (e :: es) [] pos) (tMake C sp dvs E t) := by
  intro pins s σ H Q I h
  refine wpAny_Call_Name_kw (ld_glob I hg hm ?_ hdb)
  refine PySem.W.callWith_K (h₀ := X.base) I.ok.mod.kin M.kp (thn (ha pos pins s σ H _ I h) fun us s1 ⟨vs, H1, I1, r, q⟩ => ⟨I1.kIn, ?_⟩) he hpl
  exact run_make M F hr hb hd hx I1 r q
theorem pe_make0 (M : Mk X.K C f) (F : FnOk X.prog X.w X.K X.mg X.base CX k f fd ps sp) (hr : Room (k + 1) X.A) (hg : Gl X x) (hm : X.mg x = some (.ref C)) (hb : Binds X.K fd ps ds) (hd : Vals dvs ds) (hx : Passes CX X E)
    (hdb : (x == ("__debug__" : Str)) = false := by decide) : PE X (.Call (.Name x p) [] [] pos) (tMake C sp dvs E tNil) := by
  intro pins s σ H Q I h
  refine wpAny_Call_Name_kw (ld_glob I hg hm ?_ hdb)
  exact PySem.W.callWith_K0 I.kIn M.kp (run_make (us := []) M F hr hb hd hx I .nil h)
end

/-! ### keywords -/
/-- the values of the keywords, from the left -/
def PK (X : Cx) (kws : List Keyword) (t : TA) : Prop :=
  ∀ (pos : Pos) (pins : List (Addr × Obj)) (s : Shared) (σ : St) (H : Hp) (Q : List V → Hp → Prop), Inv X pins σ H s → t σ H Q → wpAny (model X.prog X.w) X.A (evalAll ((backToKw pos (keywordEach kws X.env)).map (·.2))) (AP X pins σ Q) X.xe s
section
variable {X : Cx} {CX : CXT} {k : Nat} {f C : Addr} {fd : FuncData} {ps ks : List Str} {sp : Sp} {E : XK} {x m : Str} {p pos apos kpos : Pos} {e o : Expr} {es : List Expr} {kws : List Keyword} {te ta : TE} {t tk : TA} {nm : Option Str}
/-- how a call with keywords binds: g puts the positional values us and the keywords' values ws (names ks) in the parameters' order, defaults among them -/
structure KBinds (K : PySem.W.Frag) (fd : FuncData) (ps ks : List Str) (g : List Value → List Value → List Value) (gV : List V → List V → List V) : Prop where
  to : ∀ (s : Shared) (us ws : List Value), K.In s.heap → (g us ws).length = ps.length → BindsTo s fd ⟨us, ks.zip ws⟩ (ps.zip (g us ws))
  rel : ∀ {vs : List V} {us : List Value} {zs : List V} {ws : List Value}, Vals vs us → Vals zs ws → Vals (gV vs zs) (g us ws)
def tCallK (sp : Sp) (gV : List V → List V → List V) (E : XK) (t tk : TA) : TE := fun σ H Q => t σ H fun vs H1 => tk σ H1 fun zs H2 => sp (gV vs zs) H2 Q E
variable {g : List Value → List Value → List Value} {gV : List V → List V → List V}
end

/-! ### a def's body keeps its promise -/
/-- names: the parameters first -/
structure FnScope (N P : List Str) (sc : Scope) : Prop where
  kind : sc.kind = .function
  co : sc.isCoroutine = false
  gen : sc.isGenerator = false
  nd : N.Nodup
  pre : N.take P.length = P
  par : ∀ x ∈ P, sc.names.lookup x = some .local ∨ sc.names.lookup x = some .cell
  nofree : ∀ y ∈ sc.names, y.2 ≠ .free

theorem bindL_out {kindOf : Str → Option NameKind} {x : Str} : ∀ {binds : List (Str × Value)} {m : Str → Option Value}, (∀ v, (x, v) ∉ binds) → bindL kindOf binds m x = m x
  | [], _, _ => rfl
  | (n, v) :: r, m, h => by
    unfold bindL
    rw [bindL_out fun w hw => h w (List.mem_cons_of_mem _ hw)]
    split
    · have : x ≠ n := by rintro rfl; exact h v List.mem_cons_self
      simp [this]
    · rfl
theorem bindC_out {kindOf : Str → Option NameKind} {x : Str} : ∀ {binds : List (Str × Value)} {m : Str → Option Value}, (∀ v, (x, v) ∉ binds) → bindC kindOf binds m x = m x
  | [], _, _ => rfl
  | (n, v) :: r, m, h => by
    unfold bindC
    rw [bindC_out fun w hw => h w (List.mem_cons_of_mem _ hw)]
    split
    · rfl
    · have : x ≠ n := by rintro rfl; exact h v List.mem_cons_self
      simp [this]
theorem bindL_get {kindOf : Str → Option NameKind} {x : Str} {v : Value} : ∀ {P : List Str} {vs : List Value} {i : Nat} {m : Str → Option Value}, P.Nodup → P[i]? = some x → vs[i]? = some v → kindOf x = some .local →
    bindL kindOf (P.zip vs) m x = some v
  | [], _, _, _, _, h, _, _ => by simp at h
  | _ :: _, [], _, _, _, _, h, _ => by simp at h
  | p :: P, w :: vs, 0, m, nd, h1, h2, hk => by
    simp at h1 h2; subst h1; subst h2
    show bindL kindOf ((p, w) :: P.zip vs) m p = _
    unfold bindL
    rw [bindL_out fun v hv => (List.nodup_cons.mp nd).1 (List.of_mem_zip hv).1, if_pos hk]
    simp
  | p :: P, w :: vs, i + 1, m, nd, h1, h2, hk => by
    show bindL kindOf ((p, w) :: P.zip vs) m x = _
    unfold bindL
    exact bindL_get (i := i) (List.nodup_cons.mp nd).2 (by simpa using h1) (by simpa using h2) hk
theorem bindC_get {kindOf : Str → Option NameKind} {x : Str} {v : Value} : ∀ {P : List Str} {vs : List Value} {i : Nat} {m : Str → Option Value}, P.Nodup → P[i]? = some x → vs[i]? = some v → kindOf x ≠ some .local →
    bindC kindOf (P.zip vs) m x = some v
  | [], _, _, _, _, h, _, _ => by simp at h
  | _ :: _, [], _, _, _, _, h, _ => by simp at h
  | p :: P, w :: vs, 0, m, nd, h1, h2, hk => by
    simp at h1 h2; subst h1; subst h2
    show bindC kindOf ((p, w) :: P.zip vs) m p = _
    unfold bindC
    rw [bindC_out fun v hv => (List.nodup_cons.mp nd).1 (List.of_mem_zip hv).1, if_neg hk]
    simp
  | p :: P, w :: vs, i + 1, m, nd, h1, h2, hk => by
    show bindC kindOf ((p, w) :: P.zip vs) m x = _
    unfold bindC
    exact bindC_get (i := i) (List.nodup_cons.mp nd).2 (by simpa using h1) (by simpa using h2) hk

/-- the names' values at the entry -/
def start (N : List Str) (vs : List V) : St := vs.map some ++ List.replicate (N.length - vs.length) none

/-- the context of a def's body, at its entry; an exception leaves the frame, then lies as CX says -/
def cxOf (CX : CXT) (P : Program) (w : World) (K : PySem.W.Frag) (mg : Str → Option Value) (base : Heap) (N : List Str) (qual : Str) (scope : Scope) (f : Addr) (cd : Value) (A : Around) (outer : List Env) (s : Shared) (H : Hp) (E : XK) : Cx where
  prog := P
  w := w
  K := K
  mg := mg
  base := base
  A := A.deeper (envOfC qual scope s.heap.objs.size f cd)
  N := N
  s₀ := s
  H₀ := H
  env := envOfC qual scope s.heap.objs.size f cd
  outer := outer
  stack := envOfC qual scope s.heap.objs.size f cd :: outer
  ex := []
  calm := true
  fn := fun _ => true
  pn := []
  xe := fun e s' => wpAny (model P w) (A.deeper (envOfC qual scope s.heap.objs.size f cd)) (leaving (envOfC qual scope s.heap.objs.size f cd) e) (fun _ s'' => CX outer H s E e s'') (fun e' s'' => CX outer H s E e' s'') s'

theorem cell_has {sc : Scope} {n : Nat} {x : Str} (h : sc.names.lookup x = some .cell) : ∃ c, (cellsFrom n sc.names []).lookup x = some c := by
  have q := PySem.W.cellsFrom_some sc.names n [] (.inl h)
  exact Option.isSome_iff_exists.mp q

theorem inv_start {CX : CXT} {P : Program} {w : World} {K : PySem.W.Frag} {mg : Str → Option Value} {base : Heap} {N ps : List Str} {qual : Str} {scope : Scope} {f : Addr} {cd : Value} {A : Around} {outer : List Env} {s s1 : Shared} {H : Hp} {E : XK} {us : List Value} {vs : List V}
    (S : FnScope N ps scope) (hd : A.handled = none) (e0 : Env0 P w K mg base A outer s H) (hl : vs.length = ps.length) (r : Vals vs us)
    (x : InCallC s s.heap.objs.size (bindL (envOfC qual scope s.heap.objs.size f cd).kindOf (ps.zip us) fun _ => none) (cellsFrom (s.heap.objs.size + 1) scope.names []) (bindC (envOfC qual scope s.heap.objs.size f cd).kindOf (ps.zip us) fun _ => none) s1) :
    Inv (cxOf CX P w K mg base N qual scope f cd A outer s H E) [] (start N vs) H s1 := by
  have hpl : ps.length ≤ N.length := by have := congrArg List.length S.pre; rw [List.length_take] at this; omega
  obtain ⟨h1, tk, rfl, hk⟩ := x.done
  have noA : ∀ b : Addr, b ∉ (cxOf CX P w K mg base N qual scope f cd A outer s H E).ex := fun b z => absurd (show b ∈ ([] : List Addr) from z) (by simp)
  refine ⟨⟨e0.mod, S.kind, rfl, rfl, Nat.le_refl _, fun y z c h1 h2 => ?_, fun y hy => ?_, fun y c _ h => ?_, fun _ => hd, Around.frames_deeper e0.frames, .inr ⟨rfl, rfl⟩, fun b z => absurd z (noA b), e0.bs, e0.bsz, fun b _ _ => noA b, fun b z => absurd z (noA b), e0.funs, e0.frf⟩,
    rfl, e0.bare, Un.kept hk, ⟨_, x.toInCall.ns, fun i y v h1 h2 h3 => ?_⟩, fun y c h => ⟨_, x.cell y c h⟩, e0.hok.fresh (Nat.le_refl _), fun y c h => ?_, fun p hp => absurd (show p ∈ ([] : List (Addr × Obj)) from hp) (by simp), e0.hok.kept hk, ?_⟩
  · exact name_of_addr x.apart (PySem.mem_of_lookup h1) (PySem.mem_of_lookup h2)
  · have hy : scope.names.lookup y = some .cell ∨ scope.names.lookup y = some .free := hy
    rcases hy with hy | hy
    · exact cell_has hy
    · exact absurd rfl (S.nofree _ (PySem.mem_of_lookup hy))
  · exact Nat.le_of_lt (x.above y c (PySem.mem_of_lookup h))
  · have hi : i < vs.length := by
      unfold start at h2
      by_cases hi : i < vs.length
      · exact hi
      · rw [List.getElem?_append_right (by simpa using hi)] at h2
        rw [List.getElem?_replicate] at h2
        split at h2 <;> cases h2
    have ha : vs[i]? = some v := by
      unfold start at h2
      rw [List.getElem?_append_left (by simpa using hi), List.getElem?_map] at h2
      cases e : vs[i]? with
      | none => rw [e] at h2; cases h2
      | some a => rw [e] at h2; cases h2; rfl
    obtain ⟨u, hu, rv⟩ := r.get ha
    have hp : ps[i]? = some y := by
      rw [← S.pre, List.getElem?_take_of_lt (by omega)]; exact h1
    have ndP : ps.Nodup := by rw [← S.pre]; exact S.nd.sublist (List.take_sublist _ _)
    refine ⟨u, rv, ?_⟩
    rcases S.par y (List.mem_of_getElem? hp) with k | k
    · exact .inl ⟨k, bindL_get ndP hp hu k⟩
    · obtain ⟨c, e⟩ := cell_has (n := s.heap.objs.size + 1) k
      refine .inr ⟨.inl k, c, e, ?_⟩
      have q := x.cell y c e
      rw [bindC_get ndP hp hu (by show scope.names.lookup y ≠ _; rw [k]; decide)] at q
      exact q
  · exact e0.hok.fresh (Nat.le_of_lt (x.above y c (PySem.mem_of_lookup h)))
  · unfold start
    show _ = N.length
    rw [List.length_append, List.length_map, List.length_replicate]
    omega

/-- THE RULE: a def (or a method) of the text, by its body. The body's reading t is chosen for each entry; it is run at the parameters' values -/
theorem fn_of {CX : CXT} {P : Program} {w : World} {K : PySem.W.Frag} {mg : Str → Option Value} {base : Heap} {k : Nat} {f : Addr} {name qual : Str} {params : Arguments} {body : List Stmt} {scope : Scope} {dV kV doc pm cdv ct oc : Value} {an od : Option Addr}
    {osl : Array (Option Value)} {N ps : List Str} {sp : Sp} (lk : K.lookup f = some ⟨oc, od, .func (PySem.W.fnOf name qual params body scope dV kV doc pm an cdv ct), osl⟩) (hcd : PySem.W.codeIn K cdv qual = true) (S : FnScope N ps scope)
    (len : ∀ vs H Q E, sp vs H Q E → vs.length = ps.length)
    (hbody : ∀ (A : Around) (outer : List Env) (s : Shared) (H : Hp) (vs : List V) (Q : VK) (E : XK), Room k (A.deeper (envOfC qual scope s.heap.objs.size f cdv)) → sp vs H Q E →
      ∃ t, PSs (cxOf CX P w K mg base N qual scope f cdv A outer s H E) body t ∧ t { nx := fun _ H' => Q .non H', rt := Q } (start N vs) H) :
    FnOk P w K mg base CX (k + 1) f (PySem.W.fnOf name qual params body scope dV kV doc pm an cdv ct) ps sp := by
  refine ⟨len, fun A outer s H args us vs Q E hr e0 hb r hsp => ?_⟩
  have hl := len _ _ _ _ hsp
  have KX : K.In s.heap := e0.mod.kin.keeps fun b o e => (e0.bs b o e).1
  have lim : s.heap.NoLimit := e0.mod.nolimit.keeps fun b o e => (e0.bs b o e).1
  have hkind : ∀ y ∈ ps.zip us, scope.names.lookup y.1 = some .local ∨ (scope.names.lookup y.1 = some .cell ∧ ((cellsFrom (s.heap.objs.size + 1) scope.names []).lookup y.1).isSome = true) := fun ⟨n, v⟩ hy => by
    rcases S.par n (List.of_mem_zip hy).1 with q | q
    · exact .inl q
    · exact .inr ⟨q, PySem.W.cellsFrom_some _ _ _ (.inl q)⟩
  refine codeAny_call_function hr.depth (KX _ _ lk) rfl S.co S.gen rfl (PySem.W.codeRec_of KX hcd) (hb _ _ _ _ ?_)
  refine wpAny_newFunctionEnv_cells S.kind hkind fun env he s1 x => ?_
  subst he
  refine ⟨lim.keeps x.toInCall.keep, codeAny_func ?_⟩
  obtain ⟨t, ht, hq⟩ := hbody A outer s H vs Q E (hr.deeper _) hsp
  have I : Inv (cxOf CX P w K mg base N qual scope f cdv A outer s H E) [] (start N vs) H s1 := inv_start S hr.hd e0 hl r x
  refine wpAny_mono (ht [] s1 (start N vs) H _ I hq) (fun fl s' hs => ?_) fun e s' hs => hs
  have fin : ∀ {σ' : St} {H' : Hp} {v : V} {u : Value}, Inv (cxOf CX P w K mg base N qual scope f cdv A outer s H E) [] σ' H' s' → RelV v u → Q v H' → CE outer P w H s Q u s' :=
    fun {σ' H' v u} J rv q => ⟨v, H', J.os, J.bare, J.base, J.hok, rv, q⟩
  cases fl with
  | ret u =>
    obtain ⟨v, σ', H', J, rv, q⟩ := hs
    exact fin J rv q
  | next =>
    obtain ⟨σ', H', J, q⟩ := hs
    exact fin (v := V.non) (u := Value.none) J rfl q
  | brk =>
    obtain ⟨_, _, _, q⟩ := hs
    exact False.elim q
  | cont =>
    obtain ⟨_, _, _, q⟩ := hs
    exact False.elim q
end L2

namespace L2
open PySem PySem.Spec PyProof.Rows
section
variable {X : Cx} {x : Str} {p pos : Pos} {e : Expr} {es : List Expr} {t : TA} {id T : String} {r : List V → Hp → VK → Prop}

def tCB (r : List V → Hp → VK → Prop) (t : TA) : TE := fun σ H Q => t σ H fun vs H1 => r vs H1 Q
/-- f(e, ..), f a built-in function -/
theorem pe_callB (hc : CallR X (.builtin id) r) (hg : Gl X x) (hm : X.mg x = none) (hv : bootBuiltins x = some (.builtin id)) (ha : PA X (e :: es) t) (hn : x ≠ "__name__" := by decide) (hdb : (x == ("__debug__" : Str)) = false := by decide)
    (he : starEach (e :: es) X.env = (false, eval e X.env) :: starEach es X.env := by rfl) (hpl : (backTo pos (starEach es X.env)).any (·.1) = false := by rfl) : PE X (.Call (.Name x p) (e :: es) [] pos) (tCB r t) := by
  intro pins s σ H Q I h
  refine wpAny_Call_Name_kw (ld_blt I hg hm hv ?_ hn hdb)
  exact PyProof.Rows.callWith_builtin1 (thn (ha pos pins s σ H _ I h) fun us s1 ⟨vs, H1, I1, r1, q1⟩ => hc pins s1 σ H1 vs us Q I1 r1 q1) he hpl
/-- T(e, ..), T a built-in type -/
theorem pe_callTy (hc : CallR X (.type T) r) (hg : Gl X x) (hm : X.mg x = none) (hv : bootBuiltins x = some (.type T)) (ha : PA X (e :: es) t) (hn : x ≠ "__name__" := by decide) (hdb : (x == ("__debug__" : Str)) = false := by decide)
    (he : starEach (e :: es) X.env = (false, eval e X.env) :: starEach es X.env := by rfl) (hpl : (backTo pos (starEach es X.env)).any (·.1) = false := by rfl) : PE X (.Call (.Name x p) (e :: es) [] pos) (tCB r t) := by
  intro pins s σ H Q I h
  refine wpAny_Call_Name_kw (ld_blt I hg hm hv ?_ hn hdb)
  exact PyProof.Rows.callWith_type1 (thn (ha pos pins s σ H _ I h) fun us s1 ⟨vs, H1, I1, r1, q1⟩ => hc pins s1 σ H1 vs us Q I1 r1 q1) he hpl
end
end L2

namespace HT
open PySem PyProof.Rows

/-- t < u of tuples of ints -/
def lexLt : List Int → List Int → Bool
  | [], [] => false
  | [], _ :: _ => true
  | _ :: _, [] => false
  | x :: xs, y :: ys => if x = y then lexLt xs ys else decide (x < y)
theorem eqAt_int (A : Around) (s : Shared) (a : Int) (t : Tok) (c : Int) (u : Tok) : ∃ e, SeqAt.EqAt A s (.int a t) (.int c u) e ∧ (e = true ↔ a = c) :=
  ⟨(a == c), SeqAt.EqAt.int_int a t c u, by simp⟩
section
open PySem.SeqAt
open PySem.AutoSeq1 (wpAny_loadPart')
open PySem.MeetsSeq PySem.MeetsSeq2 PySem.MeetsSeq3

end

section
variable {prog : Program} {w : World} {A : Around} {E : Value → Shared → Prop} {s : Shared}

/-- t + u, t not empty -/
theorem cat_tup {t b : Addr} {vs ws : List Value} {Q : Value → Shared → Prop} (ht : IsTup s.heap t vs.toArray) (hb : IsTup s.heap b ws.toArray) (hv : vs ≠ [])
    (h1 : ws = [] → Q (.ref t) s) (h2 : ws ≠ [] → Q (.ref s.heap.objs.size) { s with heap := s.heap.push { cls := .type "tuple", data := .seq (vs ++ ws).toArray } })
    (hsz : vs.length + ws.length ≤ sizeLine) : wpAny (model prog w) A (binaryOp .Add (.ref t) (.ref b)) Q E s := by
  obtain ⟨⟨cls, dd, data, sl⟩, ho, hc, n, hd⟩ := id ht
  obtain ⟨⟨cls2, dd2, data2, sl2⟩, ho2, hc2, n2, hd2⟩ := id hb
  simp only at hc hd hc2 hd2
  subst hc hd hc2 hd2
  have e : vs.toArray ++ ws.toArray = (vs ++ ws).toArray := by simp
  by_cases hw : ws = []
  · exact concat_meets ⟨_, ho, rfl⟩ ⟨_, ho2, rfl⟩ noFill_tuple_add seq_tuple_add PySem.F.slot_tuple_add PySem.F.entry_tuple_add (PySem.F.args_tuple_add_2 _ _)
      (tuple_addW1 t b vs.toArray ws.toArray n n2 dd dd2 sl sl2 (by simpa using hv) (by simp [hw])) ⟨ho, ho2, h1 hw⟩
  · refine concat_meets ⟨_, ho, rfl⟩ ⟨_, ho2, rfl⟩ noFill_tuple_add seq_tuple_add PySem.F.slot_tuple_add PySem.F.entry_tuple_add (PySem.F.args_tuple_add_2 _ _)
      (tuple_addW2 t b vs.toArray ws.toArray n n2 dd dd2 sl sl2 (by simpa using hv) (by simpa using hw) (by rw [List.size_toArray, List.size_toArray]; exact hsz)) ⟨ho, ho2, ?_⟩
    rw [e]
    exact h2 hw

/-! ### t[a:b], not the whole -/
/-- a slice's bound as a place among n (d where it is left out) -/
def sIx (n d : Nat) : Option Int → Nat
  | none => d
  | some v => if v < 0 then (v + (n : Int)).toNat else min v.toNat n
theorem sIx_none (n d : Nat) : sIx n d none = d := rfl
theorem sIx_nat (n d k : Nat) : sIx n d (some (k : Int)) = min k n := by
  show (if (k : Int) < 0 then ((k : Int) + (n : Int)).toNat else min (k : Int).toNat n) = min k n
  rw [if_neg (by omega), Int.toNat_natCast]
theorem sIx_le (n d : Nat) (hd : d ≤ n) (o : Option Int) : sIx n d o ≤ n := by
  cases o with
  | none => exact hd
  | some v =>
    show (if v < 0 then (v + (n : Int)).toNat else min v.toNat n) ≤ n
    by_cases hv : v < 0
    · rw [if_pos hv]; omega
    · rw [if_neg hv]; exact Nat.min_le_right _ _
theorem clip_eq (v : Int) (n d : Nat) : (if v < 0 then max (v + (n : Int)) 0 else min v (n : Int)) = ((sIx n d (some v) : Nat) : Int) := by
  show (if v < 0 then max (v + (n : Int)) 0 else min v (n : Int)) = (((if v < 0 then (v + (n : Int)).toNat else min v.toNat n) : Nat) : Int)
  by_cases hv : v < 0
  · simp only [if_pos hv]; omega
  · simp only [if_neg hv]; omega
theorem adjust_gen (lo hi : Option Int) (n : Nat) : Builtin.Slice.sliceAdjust lo hi 1 (n : Int) = (((sIx n 0 lo : Nat) : Int), ((sIx n n hi : Nat) : Int)) := by
  have h1 : ¬ ((1 : Int) < 0) := by omega
  unfold Builtin.Slice.sliceAdjust
  simp only [h1, if_false]
  refine Prod.ext ?_ ?_
  · cases lo with
    | none => rfl
    | some v => exact clip_eq v n 0
  · cases hi with
    | none => rfl
    | some v => exact clip_eq v n n
theorem places_gen (i j : Nat) : Builtin.Slice.slicePlaces (i : Int) (j : Int) 1 = j - i := by
  unfold Builtin.Slice.slicePlaces
  have h1 : (1 : Int) > 0 := by omega
  simp only [h1, if_true, Int.ediv_one]
  split <;> omega
theorem slicePart_ {v : Value} {o : Option Int} {Q : Option Int → Shared → Prop} (p : IsPart v o) (h : Q o s) : wpAny (model prog w) A (Builtin.Slice.slicePartIndex v) Q E s := by
  cases p with
  | none => exact slicePart_none h
  | int i t => exact slicePart_int h
theorem sliceApplied_gen {sl : Addr} {vl vu : Value} {lo hi : Option Int} {n : Nat} {Q : Int × Int × Nat → Shared → Prop} (hs : s.heap.IsSliceOf sl vl vu .none) (pl : IsPart vl lo) (pu : IsPart vu hi)
    (h : Q (((sIx n 0 lo : Nat) : Int), 1, sIx n n hi - sIx n 0 lo) s) : wpAny (model prog w) A (Builtin.Slice.sliceApplied (.ref sl) (pure (n : Int))) Q E s := by
  obtain ⟨os, hos, hcs, hds⟩ := id hs
  unfold Builtin.Slice.sliceApplied Builtin.Slice.sliceFields
  refine wpAny_bind (wpAny_bind (wpAny_field hos hds (x := vl) rfl (wpAny_bind (wpAny_field hos hds (x := vu) rfl (wpAny_bind (wpAny_field hos hds (x := .none) rfl (wpAny_pure ?_)))))))
  refine wpAny_bind (slicePart_none ?_)
  show wpAny _ _ (if ((1 : Int) == 0) = true then _ else _) _ _ s
  rw [if_neg (by decide)]
  refine wpAny_bind (slicePart_ pl (wpAny_bind (slicePart_ pu (wpAny_bind (wpAny_pure ?_)))))
  show wpAny _ _ (match Builtin.Slice.sliceAdjust lo hi 1 (n : Int) with | (lo, hi) => pure (lo, (1 : Int), Builtin.Slice.slicePlaces lo hi 1)) _ _ s
  rw [adjust_gen lo hi n]
  show wpAny _ _ (pure (((sIx n 0 lo : Nat) : Int), (1 : Int), Builtin.Slice.slicePlaces ((sIx n 0 lo : Nat) : Int) ((sIx n n hi : Nat) : Int) 1)) _ _ s
  rw [places_gen]
  exact wpAny_pure h
theorem pick_gen (xs : Array Value) (i k : Nat) : ((List.range k).filterMap fun (m : Nat) => xs[((i : Int) + (m : Int) * 1).toNat]?).toArray = ((xs.toList.drop i).take k).toArray := by
  have e : (fun (m : Nat) => xs[((i : Int) + (m : Int) * 1).toNat]?) = fun m => xs[i + m]? := by
    funext m
    have : ((i : Int) + (m : Int) * 1).toNat = i + m := by omega
    rw [this]
  rw [e]
  have := pick_run xs i k
  rw [List.filterMap_map] at this
  have e2 : ((fun x => xs[x]?) ∘ fun x => i + x) = fun m => xs[i + m]? := rfl
  rw [e2] at this
  rw [this]

theorem getItem_tuple_cut {t sl : Addr} {items : Array Value} {vl vu : Value} {lo hi : Option Int} {Q : Value → Shared → Prop} (ht : IsTup s.heap t items) (hs : s.heap.IsSliceOf sl vl vu .none) (pl : IsPart vl lo) (pu : IsPart vu hi)
    (hw : ¬ (sIx items.size 0 lo = 0 ∧ sIx items.size items.size hi = items.size))
    (h : Q (.ref s.heap.objs.size) { s with heap := s.heap.push { cls := .type "tuple", data := .seq ((items.toList.drop (sIx items.size 0 lo)).take (sIx items.size items.size hi - sIx items.size 0 lo)).toArray } })
    (hsz : items.size ≤ sizeLine) : wpAny (model prog w) A (getItem (.ref t) (.ref sl)) Q E s := by
  have htake : sizeOk (.seq ((items.toList.drop (sIx items.size 0 lo)).take (sIx items.size items.size hi - sIx items.size 0 lo)).toArray) := by
    show ((items.toList.drop (sIx items.size 0 lo)).take (sIx items.size items.size hi - sIx items.size 0 lo)).toArray.size ≤ sizeLine
    rw [List.size_toArray, List.length_take, List.length_drop, Array.length_toList]
    omega
  have hj : sIx items.size items.size hi ≤ items.size := sIx_le _ _ (Nat.le_refl _) hi
  obtain ⟨os, hos, hcs, hds⟩ := id hs
  have hTs : s.TypeIs (.ref sl) "slice" := ⟨os, hos, hcs⟩
  unfold getItem
  try with_reducible refine wpAny_holding ?_
  first | refine wpAny_bind (wpAny_pure ?_) | skip
  refine wpAny_bind (wpAny_sequenceKey ht.typeIs (by decide) ?_)
  refine wpAny_bind (wpAny_callSpecial?_slot (name := Str.ofString "__getitem__") ht.typeIs PyProof.Rows.slot_tuple_getitem
    (wpAny_call_entry PyProof.Rows.slot_tuple_getitem ht.typeIs entry_tuple_getitem ?_ (args_tuple_getitem _ _)))
  show wpAny _ _ (Builtin.Tuple.tupleItemsOf (.ref t) >>= _) _ _ s
  refine wpAny_bind (tupleItemsOf_ ht ?_)
  refine wpAny_bind (wpAny_typeOf hTs ?_)
  rw [if_pos (by decide)]
  refine wpAny_bind (sliceApplied_gen hs pl pu ?_)
  have hno : ¬ ((((sIx items.size 0 lo : Nat) : Int) == 0 && (1 : Int) == 1 && (sIx items.size items.size hi - sIx items.size 0 lo) == items.size) = true) := by
    intro q
    rw [Bool.and_eq_true, Bool.and_eq_true] at q
    have q1 : ((sIx items.size 0 lo : Nat) : Int) = 0 := eq_of_beq q.1.1
    have q2 : sIx items.size items.size hi - sIx items.size 0 lo = items.size := eq_of_beq q.2
    exact hw ⟨by omega, by omega⟩
  show wpAny _ _ (if (((sIx items.size 0 lo : Nat) : Int) == 0 && (1 : Int) == 1 && (sIx items.size items.size hi - sIx items.size 0 lo) == items.size) = true then _ else _) _ _ s
  rw [if_neg hno, pick_gen]
  first
    | exact wpAny_bind (m := Builtin.Tuple.tupleExact _) (wpAny_newObj_type (wpAny_pure ⟨_, rfl, wpAny_pure h⟩) htake)
    | exact wpAny_bind (m := Builtin.Tuple.tupleExact _) (wpAny_newObj_type (wpAny_bind (wpAny_pure (wpAny_pure ⟨_, rfl, wpAny_pure h⟩))) htake)
    | exact wpAny_bind (wpAny_bind (m := Builtin.Tuple.tupleExact _) (wpAny_newObj_type (wpAny_pure (wpAny_pure ⟨_, rfl, wpAny_pure h⟩)) htake))
    | exact wpAny_bind (wpAny_bind (m := Builtin.Tuple.tupleExact _) (wpAny_newObj_type (wpAny_pure ⟨_, rfl, wpAny_pure h⟩) htake))
end
end HT

namespace L2
open PySem PySem.Spec PyProof.Rows

/-! ### the parts of a slice -/
abbrev TO := St → Hp → (Option Int → Hp → Prop) → Prop
/-- a slice's part (left out, or an int) -/
def PO (X : Cx) (e : Option Expr) (t : TO) : Prop :=
  ∀ (pins : List (Addr × Obj)) (s : Shared) (σ : St) (H : Hp) (Q : Option Int → Hp → Prop), Inv X pins σ H s → t σ H Q →
    wpAny (model X.prog X.w) X.A (evalPart e X.env) (fun u s' => ∃ o H', Inv X pins σ H' s' ∧ IsPart u o ∧ Q o H') X.xe s
def tNoPart : TO := fun _ H Q => Q none H
def tPart (t : TE) : TO := fun σ H Q => t σ H fun x H1 => ∃ i, x = .int i ∧ Q (some i) H1

theorem intsAre_of {ns : List Int} : ∀ {us : List Value}, Vals (ns.map V.int) us → IntsAre us ns := by
  induction ns with
  | nil => intro us r; rw [List.map_nil] at r; cases r; exact .nil
  | cons n ns ih =>
    intro us r
    rw [List.map_cons] at r
    cases r with
    | cons r1 r2 =>
      obtain ⟨t, e⟩ := r1
      subst e
      exact .cons n t (ih r2)

section
variable {X : Cx} {e : Expr} {te : TE} {lo hi : Option Expr} {tl th : TO} {pos p2 : Pos}

theorem po_none : PO X none tNoPart := by
  intro pins s σ H Q I h
  rw [evalPart_none]
  exact wpAny_pure ⟨none, H, I, .none, h⟩
theorem po_some (h : PE X e te) : PO X (some e) (tPart te) := by
  intro pins s σ H Q I hw
  rw [evalPart_some]
  refine thn (h pins s σ H _ I hw) fun u s1 ⟨x, H1, I1, r1, q1⟩ => ?_
  obtain ⟨i, rfl, q⟩ := q1
  obtain ⟨t, rfl⟩ := r1
  exact ⟨some i, H1, I1, .int i t, q⟩

/-- what a slice of a value is, by values: the slice object stands at sl -/
def SlR (X : Cx) (r : V → Option Int → Option Int → Hp → VK → Prop) : Prop :=
  ∀ (pins : List (Addr × Obj)) (s : Shared) (σ : St) (H : Hp) (x : V) (v vl vu : Value) (lo hi : Option Int) (sl : Addr) (Q : VK), Inv X pins σ H s → RelV x v → s.heap.IsSliceOf sl vl vu .none → IsPart vl lo → IsPart vu hi → r x lo hi H Q →
    ∃ T id, typeLookup (.type T) "__getitem__" = pure (some (.builtin id)) ∧ s.TypeIs v T ∧ wpAny (model X.prog X.w) X.A (getItem v (.ref sl)) (EP X pins σ Q) X.xe s
def tSl (r : V → Option Int → Option Int → Hp → VK → Prop) (te : TE) (tl th : TO) : TE := fun σ H Q => te σ H fun x H1 => tl σ H1 fun l H2 => th σ H2 fun u H3 => r x l u H3 Q
/-- a[lo:hi], any a -/
theorem pe_slice {r : V → Option Int → Option Int → Hp → VK → Prop} (hr : SlR X r) (he : PE X e te) (hl : PO X lo tl) (hu : PO X hi th) : PE X (.Subscript e (.Slice lo hi none p2) pos) (tSl r te tl th) := by
  intro pins s σ H Q I h
  refine Subscript_ (thn (he pins s σ H _ I h) fun v s1 ⟨x, H1, I1, r1, q1⟩ => ?_)
  refine wpAny_Slice (thn (hl pins s1 σ H1 _ I1 q1) fun vl s2 ⟨l, H2, I2, pl, q2⟩ => thn (hu pins s2 σ H2 _ I2 q2) fun vu s3 ⟨u, H3, I3, pu, q3⟩ => ?_)
  rw [evalPart_none]
  refine wpAny_pure ?_
  have I4 : Inv X pins σ H3 { s3 with heap := s3.heap.push { cls := .type "slice", data := .fields #[vl, vu, .none] } } := I3.kept (t' := s3.toks) fun b ob q => Heap.get?_push_of_some _ q
  obtain ⟨T, id, hT, ht, hg⟩ := hr pins { s3 with heap := s3.heap.push { cls := .type "slice", data := .fields #[vl, vu, .none] } } σ H3 x v vl vu l u s3.heap.objs.size Q I4 r1 (Heap.IsSliceOf.new ..) pl pu q3
  show wpAny (model X.prog X.w) X.A (subscriptTail e (.Slice lo hi none p2) v (.ref s3.heap.objs.size)) (EP X pins σ Q) X.xe { s3 with heap := s3.heap.push { cls := .type "slice", data := .fields #[vl, vu, .none] } }
  exact tail_any (ops := [.ref s3.heap.objs.size, v]) ht hT hg (by with_unfolding_all rfl)

/-- the items of xs[lo:hi] -/
def cutV (xs : List V) (lo hi : Option Int) : List V := (xs.drop (HT.sIx xs.length 0 lo)).take (HT.sIx xs.length xs.length hi - HT.sIx xs.length 0 lo)
theorem cutV_length (xs : List V) (lo hi : Option Int) : (cutV xs lo hi).length ≤ xs.length := by
  unfold cutV
  rw [List.length_take, List.length_drop]
  omega
/-- t[lo:hi], not the whole of it (the whole would be t itself) -/
def rSlT (K : PySem.W.Frag) : V → Option Int → Option Int → Hp → VK → Prop := fun x lo hi H Q => ∃ a xs, x = .ref a ∧ SqT K H a xs ∧
  ¬ (HT.sIx xs.length 0 lo = 0 ∧ HT.sIx xs.length xs.length hi = xs.length) ∧ ∀ p, H p = none → Q (.ref p) (upd H p (.tup (cutV xs lo hi)))
theorem sl_tup : SlR X (rSlT X.K) := by
  intro pins s σ H x v vl vu lo hi sl Q I rx hs pl pu h
  obtain ⟨a, xs, rfl, hx, hw, q⟩ := h
  cases rx
  obtain ⟨its, r, ht, hz⟩ := I.tuple hx
  have hlen : its.toArray.size = xs.length := by rw [List.size_toArray]; exact r.length.symm
  refine ⟨"tuple", _, PyProof.Rows.slot_tuple_getitem.lookup, ht.typeIs, ?_⟩
  refine HT.getItem_tuple_cut ht hs pl pu (by rw [hlen]; exact hw) ?_ (by rw [hlen]; exact hz)
  rw [hlen]
  refine ⟨.ref s.heap.objs.size, _, I.laid (t' := s.toks) (o := .tup (cutV xs lo hi)) (fun b ob q => Heap.get?_push_of_some _ q) (Nat.le_refl _) ?_, rfl, q _ (I.hok.fresh (Nat.le_refl _))⟩
  exact ⟨Nat.le_trans (cutV_length xs lo hi) hz, _, (r.drop (HT.sIx xs.length 0 lo)).take (HT.sIx xs.length xs.length hi - HT.sIx xs.length 0 lo), IsTup.new _ _⟩

/-! ### t < u, t + u -/
def rLtT (K : PySem.W.Frag) : R2 := fun x y H Q => ∃ a b ns ms, x = .ref a ∧ y = .ref b ∧ SqT K H a (ns.map V.int) ∧ SqT K H b (ms.map V.int) ∧ Q (.bl (HT.lexLt ns ms)) H
/-- t + u, t not empty: u empty gives t itself -/
def rCatT (K : PySem.W.Frag) : R2 := fun x y H Q => ∃ a b xs ys, x = .ref a ∧ y = .ref b ∧ SqT K H a xs ∧ SqT K H b ys ∧ xs ≠ [] ∧ xs.length + ys.length ≤ sizeLine ∧
  (ys = [] → Q (.ref a) H) ∧ (ys ≠ [] → ∀ p, H p = none → Q (.ref p) (upd H p (.tup (xs ++ ys))))
theorem Vals.nil_iff {xs : List V} {us : List Value} (r : Vals xs us) : us = [] ↔ xs = [] := by
  cases r with
  | nil => simp
  | cons _ _ => simp
theorem op_catT : OpR X (binaryOp .Add) (rCatT X.K) := by
  intro pins s σ H x y v u Q I rx ry h
  obtain ⟨a, b, xs, ys, rfl, rfl, ha, hb, hx, hz, q1, q2⟩ := h
  cases rx
  cases ry
  obtain ⟨its, r1, p1, _⟩ := I.tuple ha
  obtain ⟨its2, r2, p2, _⟩ := I.tuple hb
  refine HT.cat_tup p1 p2 (fun z => hx (r1.nil_iff.mp z)) (fun z => ⟨.ref a, H, I, rfl, q1 (r2.nil_iff.mp z)⟩) (fun z => ?_) (by rw [← r1.length, ← r2.length]; exact hz)
  refine ⟨.ref s.heap.objs.size, _, I.laid (t' := s.toks) (o := .tup (xs ++ ys)) (fun b ob q => Heap.get?_push_of_some _ q) (Nat.le_refl _) ?_, rfl, q2 (fun w => z (r2.nil_iff.mpr w)) _ (I.hok.fresh (Nat.le_refl _))⟩
  exact ⟨by rw [List.length_append]; exact hz, _, r1.append r2, IsTup.new _ _⟩
end
end L2

namespace L2
open PySem PySem.Spec PyProof.Rows

/-! ### places -/
/-- the place that an index of any sign means -/
def ixN (n : Nat) (i : Int) : Option Nat := if 0 ≤ i then (if i < n then some i.toNat else none) else if -(n : Int) ≤ i then some (i + n).toNat else none
def atI {α : Type} (xs : List α) (i : Int) : Option α := (ixN xs.length i).bind fun j => xs[j]?
theorem ixN_seq {n : Nat} {i : Int} {j : Nat} (h : ixN n i = some j) : seqIndex? i n = some j ∧ j < n ∧ -(n : Int) ≤ i ∧ i < n := by
  unfold ixN at h
  by_cases h0 : 0 ≤ i
  · rw [if_pos h0] at h
    by_cases h1 : i < n
    · rw [if_pos h1] at h
      have e : i.toNat = j := Option.some.inj h
      exact ⟨by rw [seqIndex_of h0 h1, e], by omega, by omega, h1⟩
    · rw [if_neg h1] at h; cases h
  · rw [if_neg h0] at h
    by_cases h1 : -(n : Int) ≤ i
    · rw [if_pos h1] at h
      have e : (i + n).toNat = j := Option.some.inj h
      exact ⟨by rw [seqIndex_neg (by omega) h1, e], by omega, h1, by omega⟩
    · rw [if_neg h1] at h; cases h
theorem atI_get {α : Type} {xs : List α} {i : Int} {v : α} (h : atI xs i = some v) : ∃ j, seqIndex? i xs.length = some j ∧ xs[j]? = some v ∧ j < xs.length ∧ -(xs.length : Int) ≤ i ∧ i < xs.length := by
  unfold atI at h
  cases e : ixN xs.length i with
  | none => rw [e] at h; cases h
  | some j =>
    rw [e] at h
    obtain ⟨h1, h2, h3, h4⟩ := ixN_seq e
    exact ⟨j, h1, h, h2, h3, h4⟩
theorem atI_nat {α : Type} {xs : List α} {j : Nat} {v : α} (h : xs[j]? = some v) : atI xs (j : Int) = some v := by
  have hj : j < xs.length := (List.getElem?_eq_some_iff.mp h).1
  have e : ixN xs.length (j : Int) = some j := by
    unfold ixN
    rw [if_pos (by omega), if_pos (by omega)]; simp
  unfold atI; rw [e]; exact h
/-! ### what may be subscripted -/
/-- what stands as an index of a plain subscript -/
def PlainIx (b : Expr) : Prop := ∀ o i, subscripted b false o i = operate [o, i] (getItem o i)
/-- a subscript by values -/
def IxR (X : Cx) (r : R2) : Prop :=
  ∀ (value slice : Expr) (pins : List (Addr × Obj)) (s : Shared) (σ : St) (H : Hp) (x y : V) (v u : Value) (Q : VK), Inv X pins σ H s → RelV x v → RelV y u → r x y H Q →
    subscripted slice false v u = operate [v, u] (getItem v u) → wpAny (model X.prog X.w) X.A (subscriptTail value slice v u) (EP X pins σ Q) X.xe s
/-- a call of a builtin's method by values: the receiver, the arguments -/
def MtR (X : Cx) (id : String) (r : V → List V → Hp → VK → Prop) : Prop :=
  ∀ (pins : List (Addr × Obj)) (s : Shared) (σ : St) (H : Hp) (x : V) (xs : List V) (v : Value) (us : List Value) (Q : VK), Inv X pins σ H s → RelV x v → Vals xs us → r x xs H Q →
    wpAny (model X.prog X.w) X.A (call (.builtin id) (v :: us)) (EP X pins σ Q) X.xe s
section
variable {X : Cx} {a b : Expr} {ta tb : TE} {pos : Pos}
/-- a[b] -/
theorem pe_ix {r : R2} (hr : IxR X r) (ha : PE X a ta) (hb : PE X b tb) (hs : PlainIx b) : PE X (.Subscript a b pos) (tOp r ta tb) := by
  intro pins s σ H Q I h
  exact Subscript_ (binT ha hb I h fun v u s2 x y H2 I2 rx ry q => hr a b pins s2 σ H2 x y v u Q I2 rx ry q (hs _ _))

def rIxL (K : PySem.W.Frag) : R2 := fun x y H Q => ∃ p xs i v, x = .ref p ∧ y = .int i ∧ SqL K H p xs ∧ atI xs i = some v ∧ Q v H
def rIxT (K : PySem.W.Frag) : R2 := fun x y H Q => ∃ p xs i v, x = .ref p ∧ y = .int i ∧ SqT K H p xs ∧ atI xs i = some v ∧ Q v H
def rIxS : R2 := fun x y H Q => ∃ z i c, x = .str z ∧ y = .int i ∧ z.length ≤ sizeLine ∧ atI z.cps.toList i = some c ∧ Q (.str ⟨#[c]⟩) H
theorem ix_list : IxR X (rIxL X.K) := by
  intro value slice pins s σ H x y v u Q I rx ry h hs
  obtain ⟨p, xs, i, z, rfl, rfl, hq, he, q⟩ := h
  cases rx
  obtain ⟨t, rfl⟩ := ry
  obtain ⟨its, r, pl, hz⟩ := I.list hq
  obtain ⟨j, h1, h2, h3, h4, h5⟩ := atI_get he
  obtain ⟨w, ew, rw'⟩ := r.get h2
  have hl := r.length
  have hn := line63
  have fin : EP X pins σ Q w s := ⟨z, H, I, rw', q⟩
  by_cases h0 : 0 ≤ i
  · have hj : i.toNat = j := by
      rw [seqIndex_of h0 h5] at h1
      exact Option.some.inj h1
    exact item_listR pl.isList h0 (by omega) (by rw [hj]; simpa using ew) fin hs
  · have hj : (i + (its.toArray.size : Int)).toNat = j := by
      rw [seqIndex_neg (by omega) h4] at h1
      rw [List.size_toArray, ← hl]
      exact Option.some.inj h1
    exact subscriptTail_builtinR (x := w) pl.isList.typeIs slot_list_getitem.lookup
      (wpAny_getItem_list_neg (Q := fun r s' => r = w ∧ EP X pins σ Q r s') pl.isList (by omega) (by rw [List.size_toArray] <;> omega) (by omega) (by rw [hj]; simpa using ew) ⟨rfl, fin⟩) hs
theorem ix_tup : IxR X (rIxT X.K) := by
  intro value slice pins s σ H x y v u Q I rx ry h hs
  obtain ⟨p, xs, i, z, rfl, rfl, hq, he, q⟩ := h
  cases rx
  obtain ⟨t, rfl⟩ := ry
  obtain ⟨its, r, pl, hz⟩ := I.tuple hq
  obtain ⟨j, h1, h2, h3, h4, h5⟩ := atI_get he
  obtain ⟨w, ew, rw'⟩ := r.get h2
  have hl := r.length
  have hn := line63
  have fin : EP X pins σ Q w s := ⟨z, H, I, rw', q⟩
  exact subscriptTail_builtinR (x := w) pl.typeIs slot_tuple_getitem.lookup
    (getItem_tuple (j := j) (Q := fun r s' => r = w ∧ EP X pins σ Q r s') pl (by omega) (by omega) (by rw [List.size_toArray, ← hl]; exact h1) (by simpa using ew) ⟨rfl, fin⟩) hs
/-- list, tuple or str -/
def rIx (K : PySem.W.Frag) : R2 := fun x y H Q => rIxL K x y H Q ∨ rIxT K x y H Q ∨ rIxS x y H Q
/-! ### xs[i] = v, any sign -/
def rSetL : V → V → V → Hp → (Hp → Prop) → Prop := fun o i v H Q => ∃ p xs k j, o = .ref p ∧ i = .int k ∧ H p = some (.lst xs) ∧ ixN xs.length k = some j ∧ Q (upd H p (.lst (xs.set j v)))
/-! ### slices -/
theorem slice_bounds (lo hi : Option Int) (n : Nat) : (sliceBounds lo hi none n).1 = ((HT.sIx n 0 lo : Nat) : Int) ∧ (sliceBounds lo hi none n).2.1 = ((HT.sIx n n hi : Nat) : Int) ∧ (sliceBounds lo hi none n).2.2 = 1 := by
  refine ⟨?_, ?_, rfl⟩
  · cases lo with
    | none => simp [sliceBounds, HT.sIx]
    | some i =>
      simp only [sliceBounds, HT.sIx, Option.getD_none, show (1 : Int) > 0 by decide, if_true]
      by_cases h : i < 0
      · simp only [h, if_true] <;> omega
      · simp only [h, if_false] <;> omega
  · cases hi with
    | none => simp [sliceBounds, HT.sIx]
    | some i =>
      simp only [sliceBounds, HT.sIx, Option.getD_none, show (1 : Int) > 0 by decide, if_true]
      by_cases h : i < 0
      · simp only [h, if_true] <;> omega
      · simp only [h, if_false] <;> omega
theorem slicePick_cut (its : List Value) (lo hi : Option Int) : slicePick its.toArray lo hi none = ((its.drop (HT.sIx its.length 0 lo)).take (HT.sIx its.length its.length hi - HT.sIx its.length 0 lo)).toArray := by
  obtain ⟨h1, h2, h3⟩ := slice_bounds lo hi its.toArray.size
  unfold slicePick
  rw [h1, h2, h3]
  simp only [sliceRange_one, pick_run, List.size_toArray] <;> rfl
/-- xs[lo:hi] of a list: a new list -/
def rSlL (K : PySem.W.Frag) : V → Option Int → Option Int → Hp → VK → Prop := fun x lo hi H Q => ∃ a xs, x = .ref a ∧ SqL K H a xs ∧ ∀ p, H p = none → Q (.ref p) (upd H p (.lst (cutV xs lo hi)))
theorem sl_list : SlR X (rSlL X.K) := by
  intro pins s σ H x v vl vu lo hi sl Q I rx hs pl pu h
  obtain ⟨a, xs, rfl, hx, q⟩ := h
  cases rx
  obtain ⟨its, r, ht, hz⟩ := I.list hx
  have hlen := r.length
  refine ⟨"list", _, slot_list_getitem.lookup, ht.isList.typeIs, ?_⟩
  refine wpAny_getItem_list_slice ht.isList hs pl pu .none (by simp) ?_ (by rw [List.size_toArray] <;> omega)
  rw [slicePick_cut, ← hlen]
  refine ⟨.ref s.heap.objs.size, _, I.laid (t' := s.toks) (o := .lst (cutV xs lo hi)) (fun b ob q => Heap.get?_push_of_some _ q) (Nat.le_refl _) ?_, rfl, q _ (I.hok.fresh (Nat.le_refl _))⟩
  exact ⟨Nat.le_trans (cutV_length xs lo hi) hz, _, 0, (r.drop (HT.sIx xs.length 0 lo)).take (HT.sIx xs.length xs.length hi - HT.sIx xs.length 0 lo), Heap.get?_push_size _ rfl⟩

/-! ### in, not in: flat items -/
def flatV : V → Bool
  | .non => true
  | .bl _ => true
  | .int _ => true
  | .str _ => true
  | _ => false
/-- == of flat values -/
def eqV : V → V → Bool
  | .non, .non => true
  | .bl a, .bl b => a == b
  | .bl a, .int b => (if a then 1 else 0) == b
  | .int a, .bl b => a == (if b then 1 else 0)
  | .int a, .int b => a == b
  | .str a, .str b => a == b
  | _, _ => false
/-- the items' answers, read off the values (a value's own answer does not lean on its token) -/
def eqU (x : V) (u : Value) : Bool := match u with
  | .none => eqV .non x
  | .bool b => eqV (.bl b) x
  | .int i _ => eqV (.int i) x
  | .str z _ => eqV (.str z) x
  | _ => false
def inV (x : V) (xs : List V) : Bool := xs.any fun y => eqV y x
/-- x in a list or tuple of flat items -/
def rIn (K : PySem.W.Frag) (neg : Bool) : R2 := fun x y H Q => ∃ p xs, y = .ref p ∧ (SqL K H p xs ∨ SqT K H p xs) ∧ flatV x = true ∧ xs.all flatV = true ∧ Q (.bl (if neg then !inV x xs else inV x xs)) H
/-! ### len, list(x), tuple(x) of any list or tuple that is read -/
theorem call_len_seq : CallR X (.builtin "len") (fun xs H Q => ∃ p ys, xs = [.ref p] ∧ (SqL X.K H p ys ∨ SqT X.K H p ys) ∧ Q (.int ys.length) H) := by
  intro pins s σ H xs us Q I r h
  obtain ⟨p, ys, rfl, hq, q⟩ := h
  obtain ⟨u, rfl, rx⟩ := vals1 r
  cases rx
  have hn := line63
  rcases hq with hq | hq
  · obtain ⟨its, r', pl, hz⟩ := I.list hq
    have hlen := r'.length
    exact Calls.call_len_list pl.isList (by simp only [List.size_toArray] <;> omega) ⟨.int ys.length, H, I.tok _, ⟨s.toks + 1, by rw [List.size_toArray, hlen]⟩, q⟩
  · obtain ⟨its, r', pl, hz⟩ := I.tuple hq
    have hlen := r'.length
    exact len_tuple pl (by simp only [List.size_toArray] <;> omega) ⟨.int ys.length, H, I.tok _, ⟨s.toks + 1, by rw [List.size_toArray, hlen]⟩, q⟩
theorem call_tuple_of : CallR X (.type "tuple") (fun xs H Q => ∃ p ys, xs = [.ref p] ∧ ((SqL X.K H p ys ∧ ∀ l, H l = none → Q (.ref l) (upd H l (.tup ys))) ∨ (SqT X.K H p ys ∧ Q (.ref p) H))) := by
  intro pins s σ H xs us Q I r h
  obtain ⟨p, ys, rfl, h⟩ := h
  obtain ⟨u, rfl, rx⟩ := vals1 r
  cases rx
  rcases h with ⟨hq, q⟩ | ⟨hq, q⟩
  · obtain ⟨its, r', pl, hz⟩ := I.list hq
    have hlen := r'.length
    refine call_tuple_list pl.isList (fun h' kp => ?_) (by simp only [List.size_toArray] <;> omega)
    have I1 : Inv X pins σ H { s with heap := h' } := I.kept (t' := s.toks) kp
    have I2 : Inv X pins σ (upd H h'.objs.size (.tup ys)) { s with heap := h'.push { cls := .type "tuple", data := .seq its.toArray } } :=
      I1.laid (t' := s.toks) (fun b o e => Heap.get?_push_of_some _ e) (Nat.le_refl _) (show ObjOk X.prog X.w _ _ _ (.tup ys) from ⟨hz, its, r', IsTup.new _ _⟩)
    exact ⟨.ref h'.objs.size, _, I2, rfl, q _ (I1.hok.fresh (Nat.le_refl _))⟩
  · obtain ⟨its, r', pl, hz⟩ := I.tuple hq
    exact call_tuple_same pl ⟨.ref p, H, I, rfl, q⟩

/-! ### the call of a builtin's method: o.m(..) -/
/-- the value is of that builtin type -/
def tyV (K : PySem.W.Frag) (T : String) (x : V) (H : Hp) : Prop := match x with
  | .str _ => T = "str"
  | .int _ => T = "int"
  | .ref p => (T = "list" ∧ ∃ xs, SqL K H p xs) ∨ (T = "tuple" ∧ ∃ o, K.lookup p = some o ∧ o.cls = .type "tuple" ∧ o.dict = none) ∨
      (T = "dict" ∧ ((∃ kvs, H p = some (.dK kvs)) ∨ ∃ kvs, H p = some (.dT kvs))) ∨ (T = "set" ∧ ∃ S n, H p = some (.set S n))
  | _ => False
theorem tyV_is {pins : List (Addr × Obj)} {σ : St} {H : Hp} {s : Shared} {T : String} {x : V} {v : Value} (I : Inv X pins σ H s) (r : RelV x v) (ty : tyV X.K T x H) :
    s.TypeIs v T ∧ ∀ a, v = .ref a → ∃ ob, s.heap.get? a = some ob ∧ ob.dict = none := by
  cases x with
  | str z =>
    obtain ⟨t, rfl⟩ := r
    cases (show T = "str" from ty)
    exact ⟨typeIs_str s z t, fun _ e => nomatch e⟩
  | int i =>
    obtain ⟨t, rfl⟩ := r
    cases (show T = "int" from ty)
    exact ⟨typeIs_int s i t, fun _ e => nomatch e⟩
  | ref p =>
    cases r
    rcases ty with ⟨rfl, xs, hq⟩ | ⟨rfl, o, hk, hc, hd⟩ | ⟨rfl, hk⟩ | ⟨rfl, S, n, hk⟩
    · obtain ⟨its, _, pl, _⟩ := I.list hq
      refine ⟨pl.isList.typeIs, fun a e => ?_⟩
      cases e
      obtain ⟨o, n, e, c, hd, _⟩ := pl
      exact ⟨o, e, hd⟩
    · refine ⟨⟨o, I.kIn p o hk, hc⟩, fun a e => ?_⟩
      cases e
      exact ⟨o, I.kIn _ o hk, hd⟩
    · have z : ∃ o, s.heap.get? p = some o ∧ o.ExactDict := by
        rcases hk with ⟨kvs, hk⟩ | ⟨kvs, hk⟩
        · obtain ⟨_, _, _, _, o, _, _, e, ex, _⟩ := I.hok p _ hk
          exact ⟨o, e, ex⟩
        · obtain ⟨_, _, _, _, o, _, _, e, ex, _⟩ := I.hok p _ hk
          exact ⟨o, e, ex⟩
      obtain ⟨o, e, ex⟩ := z
      refine ⟨⟨o, e, ex.1⟩, fun a e2 => ?_⟩
      cases e2
      exact ⟨o, e, ex.2.1⟩
    · obtain ⟨o, _, _, _, e, ex, _⟩ := I.hok p _ hk
      refine ⟨⟨o, e, ex.1⟩, fun a e2 => ?_⟩
      cases e2
      exact ⟨o, e, ex.2.1⟩
  | _ => exact False.elim ty
def tBM0 (K : PySem.W.Frag) (T : String) (r : V → List V → Hp → VK → Prop) (to : TE) : TE := fun σ H Q => to σ H fun x H1 => tyV K T x H1 ∧ r x [] H1 Q
def tBM (K : PySem.W.Frag) (T : String) (r : V → List V → Hp → VK → Prop) (to : TE) (t : TA) : TE := fun σ H Q => to σ H fun x H1 => tyV K T x H1 ∧ t σ H1 fun xs H2 => r x xs H2 Q
variable {o e : Expr} {es : List Expr} {to : TE} {t : TA} {name : Str} {apos cpos : Pos} {T id : String} {r : V → List V → Hp → VK → Prop}
theorem pe_bm (pa : PlainAttrs T) (slot : Slot T name id) (hty : typeOf (.builtin id) = pure (.type "method_descriptor")) (hm : MtR X id r) (ho : PE X o to) (ha : PA X (e :: es) t)
    (hbase : attributeBase o name X.env (eval o X.env) = eval o X.env := by rfl)
    (hfew : ((backTo cpos (starEach (e :: es) X.env)).all (fun x => !x.1) && (backToKw cpos (keywordEach [] X.env)).all (fun x => x.1.isSome)
      && decide ((e :: es).length + ([] : List Keyword).length + (if ([] : List Keyword).isEmpty then 0 else 1) < 30)) = true := by rfl)
    (hline : (apos.endLine == cpos.line) = true := by rfl) (hs : starEach (e :: es) X.env = (false, eval e X.env) :: starEach es X.env := by rfl) (hplain : (backTo cpos (starEach es X.env)).any (·.1) = false := by rfl) :
    PE X (.Call (.Attribute o name apos) (e :: es) [] cpos) (tBM X.K T r to t) := by
  intro pins s σ H Q I h
  refine wpAny_Call_method_late hbase hfew hline rfl (thn (ho pins s σ H _ I h) fun v s1 ⟨x, H1, I1, r1, ty, q1⟩ => ?_)
  obtain ⟨h1, h2⟩ := tyV_is I1 r1 ty
  refine ⟨T, id, pa, slot, hty, h1, h2, ?_⟩
  have hA := ha cpos pins s1 σ H1 _ I1 q1
  rw [hs] at hA ⊢
  refine Calls.callWith_builtin (by show (false || (backTo cpos (starEach es X.env)).any (·.1)) = false; rw [hplain] <;> rfl) (Calls.evalArgs_plain ?_)
  exact thn hA fun us s2 ⟨vs, H2, I2, r2, q2⟩ => hm pins s2 σ H2 x vs v us Q I2 r1 r2 q2
/- xs.append(e), list.index on a module's tuple .. are MtR facts of 06m -/
end
end L2

namespace L2
open PySem PySem.Spec PyProof.Rows

def MtM (X : Cx) (id : String) (r : V → List V → Hp → VK → Prop) : Prop :=
  ∀ (pins : List (Addr × Obj)) (s : Shared) (σ : St) (H : Hp) (x : V) (xs : List V) (v : Value) (us : List Value) (Q : VK), Inv X pins σ H s → RelV x v → Vals xs us → r x xs H Q →
    wpAny (model X.prog X.w) X.A (call (.builtin id) (v :: us)) (EP X pins σ Q) X.xe s

/-! ### lists of values -/
theorem Vals.one : ∀ {x : V} {us : List Value}, Vals [x] us → ∃ u, us = [u] ∧ RelV x u
  | _, _, .cons r .nil => ⟨_, rfl, r⟩
section
variable {X : Cx} {pins : List (Addr × Obj)} {σ : St} {H : Hp} {s : Shared} {l b : Addr} {xs ys zs : List V}

/-! ### the two steps: a tracked list is rewritten, a new list is laid -/
theorem Inv.lset {its its' : List Value} {n : Nat} {f : Array Value → Array Value} {t' : Nat} (I : Inv X pins σ H s) (hH : H l = some (.lst xs))
    (e : s.heap.get? l = some { cls := .type "list", data := .seq its.toArray n }) (hf : f its.toArray = its'.toArray) (hv : Vals ys its') (hz : ys.length ≤ sizeLine) :
    Inv X pins σ (upd H l (.lst ys)) { s with heap := s.heap.update l (Obj.mapSeq f), toks := t' } := by
  have q := PySem.IsL.update e f
  rw [hf] at q
  refine I.write (x := l) (e := l) (by rw [hH]; exact trivial) (.inl rfl) (fun b' u hb hu => (Heap.get?_update_other s.heap (Obj.mapSeq f) (Ne.symm hb)).trans hu) ⟨_, q⟩ ?_
  exact ⟨hz, its', _, hv, q⟩
theorem Inv.lnew {its : List Value} {t' : Nat} (I : Inv X pins σ H s) (hv : Vals ys its) (hz : ys.length ≤ sizeLine) :
    Inv X pins σ (upd H s.heap.objs.size (.lst ys)) { s with heap := s.heap.push { cls := .type "list", data := .seq its.toArray }, toks := t' } :=
  I.laid (fun _ _ q => Heap.get?_push_of_some _ q) (Nat.le_refl _) ⟨hz, its, 0, hv, Heap.get?_push_size _ rfl⟩
theorem Inv.fresh (I : Inv X pins σ H s) : H s.heap.objs.size = none := I.hok.fresh (Nat.le_refl _)
theorem Inv.lstM (I : Inv X pins σ H s) (hH : H l = some (.lst xs)) : xs.length ≤ sizeLine ∧ ∃ (its : List Value) (n : Nat), Vals xs its ∧ xs.length = its.length ∧ s.heap.get? l = some { cls := .type "list", data := .seq its.toArray n } := by
  obtain ⟨z, its, n, r, e⟩ := I.hok l _ hH
  exact ⟨z, its, n, r, r.length, e⟩

end

section
variable {X : Cx}

/-! ### methods -/
def rAppend : V → List V → Hp → VK → Prop := fun x vs H Q => ∃ l xs y, x = .ref l ∧ vs = [y] ∧ H l = some (.lst xs) ∧ xs.length < sizeLine ∧ Q .non (upd H l (.lst (xs ++ [y])))
theorem mt_append : MtM X "list.append" rAppend := by
  intro pins s σ H x vs v us Q I rx rv h
  obtain ⟨l, xs, y, rfl, rfl, hH, hz, q⟩ := h
  cases rx
  obtain ⟨u, rfl, ru⟩ := rv.one
  obtain ⟨z, its, n, r, hl, e⟩ := I.lstM hH
  refine call_meets F.slot_list_append ⟨_, e, rfl⟩ F.entry_list_append (F.args_list_append_2 _ _) (PySem.list_append l its.toArray n u (by rw [List.size_toArray]; omega)) ⟨e, ?_⟩
  refine ⟨.non, _, I.lset (its' := its ++ [u]) hH e (by simp) (r.append (.cons ru .nil)) ?_, rfl, q⟩
  rw [List.length_append, List.length_singleton]
  omega

def rExtend : V → List V → Hp → VK → Prop := fun x vs H Q => ∃ l b xs zs, x = .ref l ∧ vs = [.ref b] ∧ H l = some (.lst xs) ∧ H b = some (.lst zs) ∧ xs.length + zs.length ≤ sizeLine ∧ Q .non (upd H l (.lst (xs ++ zs)))
def rPop : V → List V → Hp → VK → Prop := fun x vs H Q => ∃ l xs y, x = .ref l ∧ vs = [] ∧ H l = some (.lst xs) ∧ xs[xs.length - 1]? = some y ∧ Q y (upd H l (.lst xs.dropLast))
def rPopAt : V → List V → Hp → VK → Prop := fun x vs H Q => ∃ l xs i k y, x = .ref l ∧ vs = [.int i] ∧ H l = some (.lst xs) ∧ -(2 ^ 63) ≤ i ∧ i < 2 ^ 63 ∧ seqIndex? i xs.length = some k ∧ xs[k]? = some y ∧ Q y (upd H l (.lst (xs.eraseIdx k)))
def rReverse : V → List V → Hp → VK → Prop := fun x vs H Q => ∃ l xs, x = .ref l ∧ vs = [] ∧ H l = some (.lst xs) ∧ Q .non (upd H l (.lst xs.reverse))
def rClear : V → List V → Hp → VK → Prop := fun x vs H Q => ∃ l xs, x = .ref l ∧ vs = [] ∧ H l = some (.lst xs) ∧ Q .non (upd H l (.lst []))
/-! ### list + list, list += list, list * int -/
def rCat : R2 := fun x y H Q => ∃ l b xs zs, x = .ref l ∧ y = .ref b ∧ H l = some (.lst xs) ∧ H b = some (.lst zs) ∧ xs.length + zs.length ≤ sizeLine ∧ ∀ p, H p = none → Q (.ref p) (upd H p (.lst (xs ++ zs)))
/-- a list times an int (a negative one is nothing) -/
def rRep : R2 := fun x y H Q => ∃ l k xs, x = .ref l ∧ y = .int k ∧ H l = some (.lst xs) ∧ -(2 ^ 63) ≤ k ∧ k < 2 ^ 63 ∧ xs.length * k.toNat ≤ sizeLine ∧
  ∀ p, H p = none → Q (.ref p) (upd H p (.lst (List.replicate k.toNat xs).flatten))
/-! ### del xs[i] -/
end

/-! ### xs[a:b] = ys -/
section
variable {prog : Program} {w : World} {A : Around} {E : Value → Shared → Prop} {s : Shared}
end

section
variable {X : Cx}
end
end L2

namespace Att
open PySem PySem.W PySem.Calls PyProof.Rows

/-! ### the script -/
theorem ints_of_wellAll {P : Params} {h : Heap} : ∀ (ns : List Int) (vs : List Value), WellAll P h vs (ns.map WData.int) → IntsAre vs ns := by
  intro ns
  induction ns with
  | nil =>
    intro vs w
    rw [List.map_nil] at w
    cases w
    exact .nil
  | cons n ns ih =>
    intro vs w
    rw [List.map_cons] at w
    cases w with
    | cons a b =>
      cases a
      exact .cons _ _ (ih _ b)

theorem script_of {l : OpenLaw} {n : Nat} (hn : l.most = some n) {P : Params} {h : Heap} {args : List WData} {vals : List Value}
    (hpre : l.row.toRowW.claim.pre args = true) (hwl : WellAll P h vals args) :
    ∃ a vs ns, vals = [Value.ref a] ∧ args = [WData.list (ns.map WData.int)] ∧ h.get? a = some { cls := .type "list", data := .seq vs.toArray } ∧ IntsAre vs ns ∧ ns.length ≤ n := by
  have hsh : WShape.hasAll [] args [.list .int] = true := (pre_splitW hpre).1
  have hc : l.pre.holds [] { args := args } = true := (pre_splitW hpre).2
  obtain ⟨d, r, rfl, h1, h2⟩ := hasAllW_cons hsh
  obtain rfl := hasAllW_nil h2
  obtain ⟨xs, rfl, h3⟩ := hasW_list h1
  obtain ⟨ns, rfl⟩ := items_int h3
  have hlen : ns.length ≤ n := by
    unfold OpenLaw.pre at hc
    have h4 : (WTm.not (.lt (.lit (.int (n : Int))) (.len (.arg 0)))).holds [] { args := [.list (ns.map .int)] } = true := by
      have h4 := (holds_andW hc).1
      rw [hn] at h4
      exact h4
    have h5 := condW_of h4 (w_not (w_lt w_lit (w_len_list (w_arg rfl))))
    rw [List.length_map] at h5
    refine Nat.le_of_not_lt fun q => ?_
    have q' : (n : Int) < ((ns.length : Nat) : Int) := by omega
    first
      | (rw [decide_eq_true q'] at h5; exact absurd h5 (by decide))
      | (simp at h5; omega)
  cases hwl with
  | cons w1 w2 =>
    cases w2
    cases w1 with
    | list ho hall => exact ⟨_, _, ns, rfl, rfl, ho, ints_of_wellAll ns _ hall, hlen⟩

theorem post_true (l : OpenLaw) (args : List WData) : l.row.toRowW.claim.post args (.bool true) args = true :=
  postW_of (r := l.row.toRowW) (X := (true == true))
    (show WShape.has [] (.bool true) .bool = true by first | rfl | decide | simp [WShape.has, WShape.arms, WShape.armsAll])
    (show (WTm.eq .res (.lit (.bool true))).value [] { args := args, res := some (.bool true), after := args } = some (.bool (true == true)) from w_eq_bool (w_res rfl) w_lit) rfl

/-! ### the attachment: holds_open's last premise (the goal 'hc' behind k_head) from a wpAny of the law's body -/
/-- the same from a codeAny of the CALL (for a layer whose function contracts speak of calls) -/
theorem attach_call {l : OpenLaw} {n : Nat} {q : Program} {loose : List Str} {XP : (Str → Option Value) → Heap → Prop} {YP : World → Heap → Prop} {d : DefRec}
    (hn : l.most = some n) (hdf : d.params.defaults = [])
    (call : ∀ (w : World) (s₀ s₁ : Shared) (mg mb : Str → Option Value) (fa : Addr) (o : Obj) (pm cd doc : Value) (a : Addr) (vs : List Value) (ns : List Int),
      Ground q loose [] XP w s₀ mg mb s₁.heap → YP w s₁.heap →
      s₁.heap.get? fa = some o → o.data = .func (docDef d.name d.params d.body d.scope pm cd doc) → s₁.heap.CodeRec cd d.name → mg d.name = some (.ref fa) →
      s₁.heap.get? a = some { cls := .type "list", data := .seq vs.toArray } → IntsAre vs ns → ns.length ≤ n → s₁.gens = #[] →
      codeAny (model l.prog w) callerA (.call (.ref fa) ⟨[.ref a], []⟩) (fun r s' => r = .ok (.ret (.bool true)) ∧ OldK s₁.heap s'.heap ∧ s'.os = s₁.os ∧ AllBare s'.gens) s₁) :
    WalkO q loose XP YP l.row.toRowW d [] (fun f vs => PySem.call f vs) := by
  intro w s₀ s₁ mg mb G Y fa o pm cd doc dV kV ho hd hcd hD hmg hg args vals as hpre hlay hrd hwl hlo
  obtain rfl : dV = .none := Dflts.none hD hdf
  obtain rfl : kV = .none := Dflts.noKw hD
  obtain ⟨a, vs, ns, rfl, rfl, hobj, hints, hlen⟩ := script_of hn hpre hwl
  refine enter_call (codeAny_mono (call w s₀ s₁ mg mb fa o pm cd doc a vs ns G Y ho (fd_plain hd) hcd hmg hobj hints hlen hg) fun r s' hq => ?_)
  obtain ⟨rfl, h2, h3, h4⟩ := hq
  exact ⟨.inl ⟨.bool true, .bool true, [], rfl, fun _ => rfl, .bool true, post_true l _, fun _ => ⟨List.Pairwise.nil, fun _ hm => (nomatch hm)⟩⟩, h2, h3, h4⟩

/-! ### rules over ANY heap (no ledger) from facts about the written part K: the library's own take a ledger (News) for what they write -/
section
variable {prog : Program} {w : World} {A : Around} {E : Value → Shared → Prop} {s : Shared} {K : Frag}

/-! the whole heap as the ledger: makes every rule that writes through a ledger a rule over any heap -/
def noObjs (h : Heap) : Heap := { h with objs := #[] }
def ledger (h : Heap) (L d : Addr) : List (Addr × Obj) := (List.range h.objs.size).filterMap fun a => if a = L ∨ a = d then none else (h.get? a).map fun o => (a, o)
end
end Att

namespace L2
open PySem PySem.Spec PyProof.Rows

theorem vals_ints : ∀ {vs : List Value} {ns : List Int}, IntsAre vs ns → Vals (ns.map V.int) vs
  | _, _, .nil => .nil
  | _, _, .cons n t h => .cons ⟨t, rfl⟩ (vals_ints h)

/-- nothing is tracked but the script, known to the object (or it is an object of the module) -/
def Only (H : Hp) : Prop := ∀ b, H b = none ∨ ∃ o xs, H b = some (.frz o (.lst xs))

end L2

namespace L2
open PySem PySem.Spec PyProof.Rows

abbrev KOf {K : PySem.W.Frag} {h : Heap} (_ : K.In h) : PySem.W.Frag := K

end L2

/- THE LAST THEOREM (shape; LID, My.* are yours):
   My.Adr: a structure of the addresses that your layer names (classes, functions); My.Txt K t: a structure (Prop) of the equations over K;
   My.txt_mk : {K} {implicit addresses ..} (e1 : nsIn K mainGlobals "law" = some (some (.ref f))) (e2 : K.lookup f = some ⟨oc, od, .func (fnOf "law" "law" params body scope dV kV doc pm an cdv ct), sl⟩) (e3 : codeIn K cdv "law" = true) .. : ∃ t, My.Txt K t

set_option maxRecDepth 100000 in
set_option maxHeartbeats 0 in
theorem PySem.Challenge.cw_LID_holds : PySem.Challenge.rw_LID.Holds := by
  w_on; o_law; k_head; (case hw => w_witness2)
  k_fill
  refine L2.walk_of (l := PySem.Challenge.rw_LID) (n := 63) (k := 40) (x := "script") (CX := fun w => ..) (sp := fun _ => My.sp_law) rfl (by decide) rfl ⟨rfl, by decide, by decide⟩ (fun w h Y => PySem.W.kIn_of Y) ?F ?S ?C
  case F =>
    intro w mg fa h KX G hmg
    have T : ∃ t, My.Txt (L2.KOf KX) t := by
      dsimp only [L2.KOf]                          -- K must stand as «<heap const> w.params» for k_is
      refine' My.txt_mk ?e1 ?e2 ?e3 ..
      (case e1 => PySem.W.k_is)                    -- in the order: a name -> its address -> its object -> its parts
      (case e2 => PySem.W.k_is)
      ..
    obtain ⟨t, T⟩ := T
    have e0 := hmg.symm.trans (PySem.W.mg_of KX G T.law)
    cases e0                                       -- fa is the law's own address
    exact ⟨_, fun s u => .of_eq rfl, fun base kb nb => My.law_fn T kb nb⟩     -- if «.of_eq rfl» comes too early: refine' ⟨_, ?b, fun base kb nb => My.law_fn T kb nb⟩; exact fun s u => .of_eq rfl
  case S => exact fun w H a ns hl hO hS => ..
  case C => exact ..
(the tactic k_is has no namespace: write k_is) -/

/-! SHORT WORDS over the layer: a def of the text, its body, what a loop and a test want. -/
namespace L2
open PySem PySem.Spec PyProof.Rows

/-! ### the text by places -/
/-- the j-th statement of a class's body -/
def inClass (s : Stmt) (j : Nat) : Stmt := match s with
  | .ClassDef _ _ _ body _ _ _ _ _ _ _ => body.getD j (.Pass ⟨0, 0, 0, 0⟩)
  | _ => .Pass ⟨0, 0, 0, 0⟩
def defArgs (s : Stmt) : Arguments := match s with
  | .FunctionDef _ a _ _ _ _ _ _ _ _ => a
  | _ => { posonlyargs := [], args := [], vararg := none, kwonlyargs := [], kw_defaults := [], kwarg := none, defaults := [] }
def defBody (s : Stmt) : List Stmt := match s with
  | .FunctionDef _ _ b _ _ _ _ _ _ _ => b
  | _ => []
def defScope (s : Stmt) : Scope := match s with
  | .FunctionDef _ _ _ _ _ _ sc _ _ _ => sc
  | _ => { kind := .function, names := [], isGenerator := false, isCoroutine := false }

/-! ### no exception leaves a def -/
abbrev CX0 : CXT := fun _ _ _ _ _ _ => False
abbrev E0 : XK := fun _ _ _ => False
theorem pass0 {X : Cx} : Passes CX0 X E0 := fun _ _ _ _ _ _ _ h => h.elim

/-! ### a def (or method) of the text as it stands behind the top -/
structure Fun (K : PySem.W.Frag) (x qual : Str) (st : Stmt) (f : Addr) (fd : FuncData) : Prop where
  ex : ∃ (oc : Value) (od : Option Addr) (kV doc pm : Value) (an : Option Addr) (cdv ct : Value) (osl : Array (Option Value)),
    fd = PySem.W.fnOf x qual (defArgs st) (defBody st) (defScope st) .none kV doc pm an cdv ct ∧ K.lookup f = some ⟨oc, od, .func fd, osl⟩ ∧ PySem.W.codeIn K cdv qual = true
  kp : PySem.W.keepIn K (.ref f) = true
section
variable {P : Program} {w : World} {K : PySem.W.Frag} {mg : Str → Option Value} {base : Heap}
/-- THE RULE for a def: its body as a term of rules, and the reading of that term -/
theorem Fun.ok {x qual : Str} {st : Stmt} {f : Addr} {fd : FuncData} {N ps : List Str} {k : Nat} {sp : Sp} (F : Fun K x qual st f fd) (S : FnScope N ps (defScope st)) (len : ∀ vs H Q E, sp vs H Q E → vs.length = ps.length)
    (hbody : ∀ (cdv : Value) (A : Around) (outer : List Env) (s : Shared) (H : Hp) (vs : List V) (Q : VK) (E : XK), Room k (A.deeper (envOfC qual (defScope st) s.heap.objs.size f cdv)) → sp vs H Q E →
      ∃ t, PSs (cxOf CX0 P w K mg base N qual (defScope st) f cdv A outer s H E).nox (defBody st) t ∧ t { nx := fun _ H' => Q .non H', rt := Q } (start N vs) H) : FnOk P w K mg base CX0 (k + 1) f fd ps sp := by
  obtain ⟨oc, od, kV, doc, pm, an, cdv, ct, osl, rfl, lk, hcd⟩ := F.ex
  refine fn_of lk hcd S len fun A outer s H vs Q E hr hsp => ?_
  obtain ⟨t, h, q⟩ := hbody cdv A outer s H vs Q E hr hsp
  exact ⟨t, h.nox, q⟩
/-- how its arguments bind (no defaults): h is «fun _ _ _ _ _ _ us hl => match us, hl with | [_, _], _ => rfl», one _ a parameter -/
theorem Fun.binds {x qual : Str} {st : Stmt} {f : Addr} {fd : FuncData} {ps : List Str} (F : Fun K x qual st f fd)
    (h : ∀ (kV doc pm : Value) (an : Option Addr) (cdv ct : Value) (us : List Value), us.length = ps.length → bindArgs (PySem.W.fnOf x qual (defArgs st) (defBody st) (defScope st) .none kV doc pm an cdv ct) ⟨us, []⟩ = pure (ps.zip us)) : Binds K fd ps [] := by
  obtain ⟨oc, od, kV, doc, pm, an, cdv, ct, osl, rfl, lk, hcd⟩ := F.ex
  exact .all (h kV doc pm an cdv ct)
theorem fun_mk {x qual : Str} {st : Stmt} {f : Addr} {oc : Value} {od an : Option Addr} {osl : Array (Option Value)} {kV doc pm cdv ct : Value} (l : K.lookup f = some ⟨oc, od, .func (PySem.W.fnOf x qual (defArgs st) (defBody st) (defScope st) .none kV doc pm an cdv ct), osl⟩)
    (c : PySem.W.codeIn K cdv qual = true) (k : PySem.W.keepIn K (.ref f) = true) : Fun K x qual st f (PySem.W.fnOf x qual (defArgs st) (defBody st) (defScope st) .none kV doc pm an cdv ct) := ⟨⟨oc, od, kV, doc, pm, an, cdv, ct, osl, rfl, l, c⟩, k⟩
end
theorem small1000 {n : Nat} (h : n ≤ 1000) : n < sizeLine := Nat.lt_of_le_of_lt h (by decide)

/-! ### expressions in short: the name that stands in the i-th slot -/
section
variable {X : Cx}
theorem pv (i : Nat) {x : Str} {pos : Pos} (hN : X.N[i]? = some x := by rfl) (hv : Vis X.env.scope x := by first | exact Or.inl rfl | exact Or.inr (Or.inl rfl) | exact Or.inr (Or.inr rfl)) (hd : (x == ("__debug__" : Str)) = false := by decide)
    (hcd : (x == ("__classdict__" : Str)) = false := by decide) : PE X (.Name x pos) (tVar i) := pe_var hN hv hd hcd
end

/-! ### tests -/
theorem iteF {A B : Prop} (h : B) : if false = true then A else B := by
  rw [if_neg Bool.false_ne_true]
  exact h
theorem iteT {A B : Prop} (h : A) : if true = true then A else B := by
  rw [if_pos rfl]
  exact h
theorem ite2 {c A B : Prop} [Decidable c] (h1 : c → A) (h2 : ¬ c → B) : if c then A else B := by
  by_cases h : c
  · rw [if_pos h]
    exact h1 h
  · rw [if_neg h]
    exact h2 h
/-! ### heaps -/
/-- all that was tracked is as it was -/
def Same (H H' : Hp) : Prop := ∀ b o, H b = some o → H' b = some o
theorem Same.refl (H : Hp) : Same H H := fun _ _ h => h
theorem Same.trans {H H1 H2 : Hp} (a : Same H H1) (b : Same H1 H2) : Same H H2 := fun c o h => b c o (a c o h)
theorem Same.free {H H' : Hp} (e : Same H H') {l : Addr} (h : H' l = Option.none) : H l = Option.none := by
  cases q : H l with
  | none => rfl
  | some o =>
    rw [e l o q] at h
    cases h
theorem Same.seq {K : PySem.W.Frag} {H H' : Hp} {a : Addr} {xs : List V} (e : Same H H') (h : SqL K H a xs) : SqL K H' a xs := by
  rcases h with (h | ⟨o, h⟩) | h
  · exact .inl (.inl (e _ _ h))
  · exact .inl (.inr ⟨o, e _ _ h⟩)
  · exact .inr h

end L2

namespace L2
open PySem PySem.Spec PyProof.Rows

section
variable {X : Cx}
/-! ### more of texts, truths, kinds -/
/-- == of two lists of flat items -/
def eqVs : List V → List V → Bool
  | [], [] => true
  | x :: xs, y :: ys => eqV x y && eqVs xs ys
  | _, _ => false
end
end L2

namespace L2
open PySem PySem.Spec PyProof.Rows
/-! ### what a comprehension's block sees of the names around it -/
def cloOf (env : Env) : List (Str × NameKind) → List (Str × Addr) → List (Str × Addr)
  | [], cs => cs
  | (n, k) :: r, cs => cloOf env r (if k == .free then match env.cells.lookup n with | some a => (n, a) :: cs | none => cs else cs)
theorem closureFor_free {scope : Scope} {env : Env} (h : ∀ y ∈ scope.names, y.2 = .free → ∃ c, env.cells.lookup y.1 = some c) : closureFor scope env = pure (cloOf env scope.names []) := by
  have key : ∀ (l : List (Str × NameKind)) (cs : List (Str × Addr)), (∀ y ∈ l, y.2 = .free → ∃ c, env.cells.lookup y.1 = some c) →
      (forIn l cs (fun (x : Str × NameKind) (r : List (Str × Addr)) => (if (x.2 == NameKind.free) = true then (do let a ← cellOf env x.1; pure (ForInStep.yield ((x.1, a) :: r))) else pure (ForInStep.yield r) : Sem (ForInStep (List (Str × Addr)))))) = (pure (cloOf env l cs) : Sem _) := by
    intro l
    induction l with
    | nil => intro cs _; rfl
    | cons y r ih =>
      intro cs hy
      obtain ⟨n, k⟩ := y
      have hr : ∀ z ∈ r, z.2 = .free → ∃ c, env.cells.lookup z.1 = some c := fun z hz => hy z (List.mem_cons_of_mem _ hz)
      rw [List.forIn_cons]
      by_cases hk : (k == NameKind.free) = true
      · obtain ⟨c, hc⟩ := hy (n, k) List.mem_cons_self (by simpa using hk)
        have e : cellOf env n = pure c := by unfold cellOf; rw [hc]
        simp only [hk, if_true, e, pure_bind, cloOf, hc]
        exact ih _ hr
      · have hk' : (k == NameKind.free) = false := by simpa using hk
        simp only [hk', Bool.false_eq_true, if_false, pure_bind, cloOf]
        exact ih _ hr
  have e : closureFor scope env = (forIn scope.names ([] : List (Str × Addr)) (fun (x : Str × NameKind) (r : List (Str × Addr)) => (if (x.2 == NameKind.free) = true then (do let a ← cellOf env x.1; pure (ForInStep.yield ((x.1, a) :: r))) else pure (ForInStep.yield r) : Sem (ForInStep (List (Str × Addr))))) >>= fun cs => pure cs) := by
    unfold closureFor
    rfl
  rw [e, key scope.names [] h]
  all_goals rfl
theorem cloOf_sub {env : Env} : ∀ (l : List (Str × NameKind)) (cs : List (Str × Addr)), (∀ p ∈ cs, env.cells.lookup p.1 = some p.2) → ∀ p ∈ cloOf env l cs, env.cells.lookup p.1 = some p.2
  | [], cs, h, p, hp => h p hp
  | (n, k) :: r, cs, h, p, hp => by
    unfold cloOf at hp
    refine cloOf_sub r _ ?_ p hp
    split
    · split
      · rename_i a ea
        intro q hq
        rcases List.mem_cons.mp hq with e | hq
        · rw [e]; exact ea
        · exact h q hq
      · exact h
    · exact h
theorem cloOf_keeps {env : Env} : ∀ (l : List (Str × NameKind)) (cs : List (Str × Addr)) {y : Str}, (∃ p ∈ cs, p.1 = y) → ∃ p ∈ cloOf env l cs, p.1 = y
  | [], cs, y, h => h
  | (n, k) :: r, cs, y, ⟨p, hp, e⟩ => by
    unfold cloOf
    refine cloOf_keeps r _ ?_
    split
    · split
      · exact ⟨p, List.mem_cons_of_mem _ hp, e⟩
      · exact ⟨p, hp, e⟩
    · exact ⟨p, hp, e⟩
theorem cloOf_has {env : Env} : ∀ (l : List (Str × NameKind)) (cs : List (Str × Addr)) {y : Str} {c : Addr}, (y, NameKind.free) ∈ l → env.cells.lookup y = some c → ∃ p ∈ cloOf env l cs, p.1 = y
  | (n, k) :: r, cs, y, c, hm, hc => by
    unfold cloOf
    rcases List.mem_cons.mp hm with e | hm
    · cases e
      refine cloOf_keeps r _ ?_
      rw [if_pos (by rfl), hc]
      exact ⟨_, List.mem_cons_self, rfl⟩
    · exact cloOf_has r _ hm hc
theorem lookup_of_mem {α : Type} : ∀ {l : List (Str × α)} {p : Str × α}, p ∈ l → ∃ c, l.lookup p.1 = some c
  | q :: l, p, h => by
    obtain ⟨n, a⟩ := q
    rw [List.lookup_cons]
    split
    · exact ⟨_, rfl⟩
    · rename_i hne
      rcases List.mem_cons.mp h with e | h
      · subst e; simp at hne
      · exact lookup_of_mem h
theorem cloOf_lookup {env : Env} {l : List (Str × NameKind)} {y : Str} {c : Addr} (hm : (y, NameKind.free) ∈ l) (hc : env.cells.lookup y = some c) : (cloOf env l []).lookup y = some c := by
  obtain ⟨p, hp, e⟩ := cloOf_has l [] hm hc
  obtain ⟨c', e'⟩ := lookup_of_mem hp
  rw [e] at e'
  have q := cloOf_sub l [] (fun _ z => nomatch z) _ (PySem.mem_of_lookup e')
  rw [hc] at q
  rw [e']
  exact q.symm
theorem cloOf_lookup_sub {env : Env} {l : List (Str × NameKind)} {y : Str} {c : Addr} (h : (cloOf env l []).lookup y = some c) : env.cells.lookup y = some c :=
  cloOf_sub l [] (fun _ z => nomatch z) _ (PySem.mem_of_lookup h)
theorem relabel_free {env : Env} : ∀ {names : List (Str × NameKind)} {x : Str} {k : NameKind}, (names.map fun (n, k) => if (k == NameKind.free && env.scope.kind == .function && env.kindOf n == some .cell) then (n, NameKind.cell) else (n, k)).lookup x = some k →
    ∃ k', names.lookup x = some k' ∧ (k' = k ∨ k' = .free)
  | [], _, _, h => by simp at h
  | (n, k0) :: r, x, k, h => by
    have ih := @relabel_free env r x k
    have h : List.lookup x ((if (k0 == NameKind.free && env.scope.kind == .function && env.kindOf n == some .cell) = true then (n, NameKind.cell) else (n, k0)) :: _) = some k := h
    cases hx : x == n with
    | true =>
      refine ⟨k0, by simp only [List.lookup_cons, hx], ?_⟩
      by_cases hc : (k0 == NameKind.free && env.scope.kind == .function && env.kindOf n == some .cell) = true
      · refine .inr ?_
        simp only [Bool.and_eq_true] at hc
        exact beq_iff_eq.mp hc.1.1
      · rw [if_neg hc] at h
        simp only [List.lookup_cons, hx] at h
        exact .inl (Option.some.inj h)
    | false =>
      have h2 : List.lookup x (r.map fun (n, k) => if (k == NameKind.free && env.scope.kind == .function && env.kindOf n == some .cell) then (n, NameKind.cell) else (n, k)) = some k := by
        by_cases hc : (k0 == NameKind.free && env.scope.kind == .function && env.kindOf n == some .cell) = true
        · rw [if_pos hc] at h; simp only [List.lookup_cons, hx] at h; exact h
        · rw [if_neg hc] at h; simp only [List.lookup_cons, hx] at h; exact h
      obtain ⟨k', e1, e2⟩ := ih h2
      exact ⟨k', by simp only [List.lookup_cons, hx]; exact e1, e2⟩
theorem relabel_of_free {env : Env} : ∀ {names : List (Str × NameKind)} {x : Str}, names.lookup x = some .free →
    (names.map fun (n, k) => if (k == NameKind.free && env.scope.kind == .function && env.kindOf n == some .cell) then (n, NameKind.cell) else (n, k)).lookup x = some .cell ∨
    (names.map fun (n, k) => if (k == NameKind.free && env.scope.kind == .function && env.kindOf n == some .cell) then (n, NameKind.cell) else (n, k)).lookup x = some .free
  | [], _, h => by simp at h
  | (n, k0) :: r, x, h => by
    have ih := @relabel_of_free env r x
    show List.lookup x ((if (k0 == NameKind.free && env.scope.kind == .function && env.kindOf n == some .cell) = true then (n, NameKind.cell) else (n, k0)) :: _) = some .cell ∨ List.lookup x ((if (k0 == NameKind.free && env.scope.kind == .function && env.kindOf n == some .cell) = true then (n, NameKind.cell) else (n, k0)) :: _) = some .free
    cases hx : x == n with
    | true =>
      simp only [List.lookup_cons, hx] at h
      by_cases hc : (k0 == NameKind.free && env.scope.kind == .function && env.kindOf n == some .cell) = true
      · rw [if_pos hc]; simp only [List.lookup_cons, hx]; simp
      · rw [if_neg hc]; simp only [List.lookup_cons, hx]; exact .inr (by rw [Option.some.inj h])
    | false =>
      simp only [List.lookup_cons, hx] at h
      by_cases hc : (k0 == NameKind.free && env.scope.kind == .function && env.kindOf n == some .cell) = true
      · rw [if_pos hc]; simp only [List.lookup_cons, hx]; exact ih h
      · rw [if_neg hc]; simp only [List.lookup_cons, hx]; exact ih h

/-! ### the signs of a text, walked -/
def Its (z : Str) : It := ⟨fun i _ => i < z.length, fun i H x H' => H' = H ∧ ∃ c, z.cps.toList[i]? = some c ∧ x = .str ⟨#[c]⟩, fun i _ => z.length ≤ i⟩
structure StrIt (P : Program) (w : World) (it : Addr) (ty : String) (z : Str) (t : Tok) : Prop where
  W : ∀ A' : Around, A'.handled = none → Walks P w A' it [it] [it] z.cps.size (SignAt z) (fun i h => h.IsStrIter it ty z t i)
  en : ∀ (A : Around) (i : Nat) (s : Shared) (Q : Option Value → Shared → Prop) (E : Value → Shared → Prop), A.handled = none → s.heap.IsStrIter it ty z t i → z.cps[i]? = none →
    (∀ h', Heap.ExtBut it s.heap h' → Q none { s with heap := h' }) → wpAny (model P w) A (pyNext (.ref it)) Q E s
  me : ∀ (A : Around) (i : Nat) (s : Shared) (Q : Value → Shared → Prop) (E : Value → Shared → Prop), s.heap.IsStrIter it ty z t i → Q (.ref it) s → wpAny (model P w) A (pyIter (.ref it)) Q E s
  ne : ["enumerate", "zip", "dict_itemiterator", "dict_reverseitemiterator", "odict_iterator", "itertools.zip_longest", "itertools.pairwise"].contains ty = false
def iStr (tl : TE) : TI := fun σ H R => tl σ H fun x H1 => ∃ z, x = .str z ∧ R (Its z) H1
/-! ### a list made by walking -/
/-- the context of the block: it begins at s, H, the iterator's records at fp -/
def Cx.blk (X : Cx) (N' : List Str) (scope : Scope) (C : Addr) (fp : List Addr) (s : Shared) (H : Hp) : Cx :=
  { X with N := N', s₀ := s, H₀ := H, env := compEnvC scope (cloOf X.env scope.names []) C X.env, outer := X.stack, ex := fp, fn := fun _ => false, pn := [], xe := fun _ _ => False }
/-- the block's names: its own first, then those of the def around it, at the slots fv -/
structure BlkScope (N : List Str) (sc scope : Scope) (x : Str) (N' : List Str) (fv : List Nat) : Prop where
  nocell : ∀ y ∈ scope.names, y.2 ≠ .cell
  kind : scope.kind = .function
  names : ∀ y ∈ scope.names, y.2 = .local → scope.names.lookup y.1 = some .local
  loc : scope.names.lookup x = some .local
  free : ∀ y ∈ scope.names, y.2 = .free → sc.names.lookup y.1 = some .cell ∨ sc.names.lookup y.1 = some .free
  nd : N'.Nodup
  hd : N'[0]? = some x
  len : N'.length = fv.length + 1
  at_ : ∀ j, j < fv.length → (N'[j + 1]?).isSome = true ∧ N'[j + 1]? = (fv[j]?).bind (fun i => N[i]?) ∧ (N'[j + 1]?).bind (fun y => scope.names.lookup y) = some .free
def blkVals (fv : List Nat) (σ : St) : St := fv.map fun k => (σ[k]?).join
/-- the tests of a walking -/
abbrev testsOf (ifs : List Expr) (env : Env) : Sem Bool := forIn ifs true fun c r => if r = true then do let ok ← isTrue c env (eval c env); pure (ForInStep.yield ok) else pure (ForInStep.yield r)
def PTs (X : Cx) (ifs : List Expr) (t : TT) : Prop :=
  ∀ (pins : List (Addr × Obj)) (s : Shared) (σ : St) (H : Hp) (Q : Bool → Hp → Prop), Inv X pins σ H s → t σ H Q → wpAny (model X.prog X.w) X.A (testsOf ifs X.env) (TP X pins σ Q) X.xe s
def tAll : TT := fun _ H Q => Q true H
theorem pts_nil {X : Cx} : PTs X [] tAll := fun pins s σ H Q I h => wpAny_pure ⟨H, I, h⟩
theorem pts_one {X : Cx} {c : Expr} {t : TT} (hc : PT X c t) : PTs X [c] t := by
  intro pins s σ H Q I h
  have e : testsOf [c] X.env = (isTrue c X.env (eval c X.env) >>= fun ok => pure ok) := by
    unfold testsOf
    rw [List.forIn_cons]
    simp
  rw [e]
  exact wpAny_bind (thn (hc pins s σ H Q I h) fun b s1 q => wpAny_pure q)
def tLC (wi : TI) (fv : List Nat) (tt : TT) (te : TE) : TE := fun σ H Q => wi σ H fun J H1 => ∃ (W : Nat → List V → Hp → Prop) (n : Nat), W 0 [] H1 ∧ n ≤ sizeLine ∧ ∀ i ys H, W i ys H →
  (J.stop i H ∧ ∀ p, H p = none → Q (.ref p) (upd H p (.lst ys))) ∨
  (J.go i H ∧ i < n ∧ ∀ x H', J.yld i H x H' → tt (some x :: blkVals fv σ) H' fun c H2 => if c = true then te (some x :: blkVals fv σ) H2 fun y H3 => W (i + 1) (ys ++ [y]) H3 else W (i + 1) ys H2)

section
variable {X : Cx} {N' : List Str} {scope : Scope} {x : Str} {fv : List Nat}
theorem blk_inv {pins : List (Addr × Obj)} {σ : St} {H : Hp} {s : Shared} {fp : List Addr} {C : Addr} {h1 : Heap} {m : Str → Option Value} {tk : Nat} {pl : List (Addr × Obj)} (S : BlkScope X.N X.env.scope scope x N' fv) (I : Inv X pins σ H s)
    (hf : ∀ b ∈ fp, FpOk X pins H b) (hfo : ∀ b ∈ fp, b < s.heap.objs.size) (hC : s.heap.objs.size ≤ C) (kp : ∀ b o, s.heap.get? b = some o → h1.get? b = some o) (hn : h1.Ns C m)
    (hpl : ∀ p ∈ pl, h1.get? p.1 = some p.2 ∧ s.heap.objs.size ≤ p.1 ∧ p.1 ≠ C ∧ ∀ v, p.2.data ≠ .cell v) :
    Inv (X.blk N' scope C fp s H) pl (none :: blkVals fv σ) H { s with heap := h1, toks := tk } := by
  have clo : ∀ y c, (cloOf X.env scope.names []).lookup y = some c → X.env.cells.lookup y = some c := fun y c e => cloOf_lookup_sub e
  have cell : ∀ y c, (cloOf X.env scope.names []).lookup y = some c → ∃ v, s.heap.IsCell c v := fun y c e => I.cell y c (clo y c e)
  have lt : ∀ y c, (cloOf X.env scope.names []).lookup y = some c → c < s.heap.objs.size := fun y c e => by obtain ⟨v, q⟩ := cell y c e; exact q.lt
  have kc : ∀ c v, s.heap.IsCell c v → h1.IsCell c v := fun c v q => by obtain ⟨o, e, d⟩ := q; exact ⟨o, kp _ _ e, d⟩
  refine ⟨⟨I.ok.mod, S.kind, I.ok.glob, I.ok.blt, hC, fun y z c e1 e2 => I.ok.inj y z c (clo y c e1) (clo z c e2), fun y hy => ?_, fun y c e => ?_, I.ok.hd, I.ok.frames, .inl rfl, fun b hb => ⟨?_, fun y c e z => (hf b hb).2.2.2.2.1 y c (clo y c e) z⟩, fun b o e => I.bs b o e, Nat.le_trans I.ok.bsz I.sz, fun b o e hb => ?_, fun b hb hb2 => ?_, I.stack, I.stkFree⟩,
    rfl, I.bare, Un.kept kp, ⟨m, hn, fun i y v h1' h2 h3 => ?_⟩, fun y c e => ?_, I.hok.fresh hC, fun y c e => I.freeC y c (clo y c e), fun p hp => ?_, I.hok.kept kp, ?_⟩
  · have hy' : ∃ k, scope.names.lookup y = some k ∧ k = .free := by
      rcases hy with hy | hy
      · obtain ⟨k', e1, e2⟩ := relabel_free (env := X.env) (names := scope.names) (x := y) (k := .cell) hy
        rcases e2 with e2 | e2
        · exact absurd e2 (S.nocell _ (PySem.mem_of_lookup e1))
        · exact ⟨k', e1, e2⟩
      · obtain ⟨k', e1, e2⟩ := relabel_free (env := X.env) (names := scope.names) (x := y) (k := .free) hy
        rcases e2 with e2 | e2
        · exact ⟨k', e1, e2⟩
        · exact ⟨k', e1, e2⟩
    obtain ⟨k, e, rfl⟩ := hy'
    have hm := PySem.mem_of_lookup e
    obtain ⟨c, hc⟩ := I.ok.has y (S.free _ hm rfl)
    exact ⟨c, cloOf_lookup hm hc⟩
  · exact (Bool.false_ne_true (show false = true from e)).elim
  · exact Nat.ne_of_lt (Nat.lt_of_lt_of_le (hfo b hb) hC)
  · have e' := e
    rcases (hf b hb).2.2.2.1 with z | z
    · exact I.ok.noex b o e z
    · exact absurd (Nat.lt_of_lt_of_le (Heap.lt_size e) (Nat.le_trans I.ok.bsz z)) (Nat.lt_irrefl _)
  · have q := I.stkSub b hb2
    rcases List.mem_cons.mp q with z | z
    · exact (hf b hb).2.1 z
    · exact (hf b hb).2.2.1 z
  · cases i with
    | zero =>
      have z : (none : Option V) = some v := Option.some.inj h2
      cases z
    | succ j =>
      have h2' : (blkVals fv σ)[j]? = some (some v) := h2
      unfold blkVals at h2'
      rw [List.getElem?_map] at h2'
      cases ej : fv[j]? with
      | none => rw [ej] at h2'; cases h2'
      | some k =>
        rw [ej] at h2'
        have h4 : (σ[k]?).join = some v := Option.some.inj h2'
        have h5 : σ[k]? = some (some v) := by
          cases es : σ[k]? with
          | none => rw [es] at h4; cases h4
          | some w' => rw [es] at h4; rw [show w' = some v from h4]
        have hj : j < fv.length := (List.getElem?_eq_some_iff.mp ej).1
        obtain ⟨_, a1, a2⟩ := S.at_ j hj
        have h1'' : N'[j + 1]? = some y := h1'
        rw [h1''] at a1 a2
        rw [ej] at a1
        have a3 : X.N[k]? = some y := a1.symm
        have a4 : scope.names.lookup y = some .free := a2
        have hm := PySem.mem_of_lookup a4
        have kd : X.env.kindOf y = some .cell ∨ X.env.kindOf y = some .free := S.free _ hm rfl
        obtain ⟨mX, _, hlX⟩ := I.loc
        obtain ⟨u, ru, lk⟩ := hlX k y v a3 h5 (kd.elim (fun z => .inr (.inl z)) fun z => .inr (.inr z))
        refine ⟨u, ru, .inr ?_⟩
        rcases lk with ⟨z, _⟩ | ⟨_, c, hc, hcell⟩
        · rcases kd with z' | z' <;> rw [z'] at z <;> cases z
        · exact ⟨relabel_of_free (env := X.env) a4, c, cloOf_lookup hm hc, kc _ _ hcell⟩
  · obtain ⟨v, q⟩ := cell y c e
    exact ⟨v, kc _ _ q⟩
  · have hp' : p ∈ pl := hp
    obtain ⟨e, l1, l2, d⟩ := hpl p hp'
    exact ⟨e, I.hok.fresh l1, l2, fun z => absurd (I.stkSub _ z) (fun q => by
      rcases List.mem_cons.mp q with q | q
      · exact absurd I.lt (by rw [← q]; exact Nat.not_lt.mpr l1)
      · exact I.nofs l1 q), d⟩
  · show (none :: blkVals fv σ).length = N'.length
    rw [S.len]
    unfold blkVals
    simp
end
end L2

namespace L2
open PySem PySem.Spec PyProof.Rows
theorem nox {α : Type} {t : Sem α} {Q Q' : α → Shared → Prop} {M : Model} {A : Around} {E : Value → Shared → Prop} {s : Shared} (h : wpAny M A t Q (fun _ _ => False) s) (hQ : ∀ a s, Q a s → Q' a s) : wpAny M A t Q' E s := wpAny_mono h hQ fun _ _ f => f.elim
set_option maxHeartbeats 1600000 in
theorem pe_lc {X : Cx} {elt iter : Expr} {x : Str} {px : Pos} {ifs : List Expr} {scope : Scope} {pos : Pos} {N' : List Str} {fv : List Nat} {wi : TI} {tt : TT} {te : TE}
    (S : BlkScope X.N X.env.scope scope x N' fv) (hc : X.calm = true) (hi : PI X (.Name x px) iter wi)
    (ht : ∀ C fp s H, PTs (X.blk N' scope C fp s H) ifs tt) (he : ∀ C fp s H, PE (X.blk N' scope C fp s H) elt te)
    (hs : ∀ x, foldedSetIterable iter X.env x = pure x := by intro _; rfl) :
    PE X (.ListComp elt [⟨.Name x px, iter, ifs, 0⟩] scope pos) (tLC wi fv tt te) := by
  intro pins s σ H Q I h
  rw [eval_ListComp]
  refine wpAny_comprehension_free (use := none) rfl hs (closureFor_free fun y hy hk => I.ok.has y.1 (S.free y hy hk)) S.kind S.names
    (wpAny_mono (hi pins s σ H _ I h) (fun xv s1 h1 => wpAny_mono h1 (fun itv s2 h2 => ?_) fun _ _ e => e) fun _ _ e => e)
  obtain ⟨it, fp, tn, J, H2, rfl, I2, T, st2, f2, W, n, w0, hn, turn⟩ := h2
  refine wpAny_newObj_type (wpAny_newFunctionEnv S.nocell (by intro y hy; simp at hy) (fun h1 hns hsb => ?_) S.kind)
  dsimp only at hns hsb ⊢
  generalize hH : s2.heap.push { cls := .type "list", dict := none, data := .seq ([] : List Value).toArray } = G at hns hsb ⊢
  have hG : G.objs.size = s2.heap.objs.size + 1 := by rw [← hH, Heap.size_push]
  have kpG : ∀ b o, s2.heap.get? b = some o → G.get? b = some o := fun b o e => hH ▸ Heap.get?_push_of_some _ e
  have kp1 : ∀ b o, b < G.objs.size → G.get? b = some o → h1.get? b = some o := fun b o lt e => hsb.extBut b o (Nat.ne_of_lt lt) (Heap.get?_push_of_some _ e)
  have kp : ∀ b o, s2.heap.get? b = some o → h1.get? b = some o := fun b o e => kp1 b o (by rw [hG]; exact Nat.lt_succ_of_lt (Heap.lt_size e)) (kpG b o e)
  have hD : h1.PlainList s2.heap.objs.size #[] := ⟨_, kp1 _ _ (by rw [hG]; exact Nat.lt_succ_self _) (hH ▸ Heap.get?_push_size _ rfl)⟩
  have hDC : s2.heap.objs.size ≠ G.objs.size := by rw [hG]; exact Nat.ne_of_lt (Nat.lt_succ_self _)
  have hC : s2.heap.objs.size ≤ G.objs.size := by rw [hG]; exact Nat.le_succ _
  have hfo : ∀ b ∈ fp, b < s2.heap.objs.size := fun b hb => by obtain ⟨o, e, _⟩ := T.obj 0 _ st2 b hb; exact Heap.lt_size e
  -- what is true of the iterator's records in the block
  have stat : ∀ {H' : Hp} {pl : List (Addr × Obj)}, (∀ b ∈ fp, H' b = none) → (∀ p ∈ pl, p.1 ∉ fp) → ∀ b ∈ fp, FpOk (X.blk N' scope G.objs.size fp s2 H2) pl H' b := fun {H' pl} hn hpl b hb => by
    obtain ⟨_, g1, g2, g3, g4, g5⟩ := f2 b hb
    refine ⟨hn b hb, Nat.ne_of_lt (Nat.lt_of_lt_of_le (hfo b hb) hC), fun z => ?_, .inl hb, fun y c e => g4 y c (cloOf_lookup_sub e), fun p hp e => ?_⟩
    · rcases List.mem_cons.mp (I2.stkSub b z) with q | q
      · exact g1 q
      · exact g2 q
    · exact hpl p hp (e ▸ hb)
  have hDf : s2.heap.objs.size ∉ fp := fun z => absurd (hfo _ z) (Nat.lt_irrefl _)
  have hlc : (X.blk N' scope G.objs.size fp s2 H2).env.scope.names.lookup x = some .local := lookup_relabel_local S.loc
  have hcl : ∀ y c, (X.blk N' scope G.objs.size fp s2 H2).env.cells.lookup y = some c → c ≠ s2.heap.objs.size := fun y c e z => by
    obtain ⟨v, q⟩ := I2.cell y c (cloOf_lookup_sub e)
    exact absurd q.lt (by rw [z]; exact Nat.lt_irrefl _)
  have pin1 : ∀ {s' : Shared} {H' : Hp} {ob : Obj} {i : Nat} {ys : List V}, Inv (X.blk N' scope G.objs.size fp s2 H2) [] (none :: blkVals fv σ) H' s' → s'.heap.get? s2.heap.objs.size = some ob → (∀ v, ob.data ≠ .cell v) → H' s2.heap.objs.size = none →
      Inv (X.blk N' scope G.objs.size fp s2 H2) [(s2.heap.objs.size, ob)] (none :: blkVals fv σ) H' s' := fun {s' H' ob i ys} J1 e d f => J1.pins_of fun p hp => by
    have z : p = (s2.heap.objs.size, ob) := by simpa using hp
    subst z
    refine ⟨e, f, hDC, fun z => ?_, d⟩
    rcases List.mem_cons.mp (I2.stkSub _ z) with q | q
    · exact absurd I2.lt (by rw [← q]; exact Nat.lt_irrefl _)
    · exact I2.nofs (Nat.le_refl _) q
  have loop : ∀ s3 : Shared, s3 = { s2 with heap := h1, toks := s2.toks + ([] : List (Str × Value)).length } →
      codeAny (model X.prog X.w) X.A (.compLoop (.ListComp elt [⟨.Name x px, iter, ifs, 0⟩] scope pos) 0 (.ref it) (.ref s2.heap.objs.size) (X.blk N' scope G.objs.size fp s2 H2).env)
        (compPost (model X.prog X.w) X.A X.xe none (EP X pins σ Q) (.ref s2.heap.objs.size) G.objs.size) s3 := by
    rintro s3 rfl
    refine codeAny_compLoop_tests (fun k s' => ∃ i ys H' its, k = n + 1 - i ∧ i ≤ n ∧ ys.length ≤ i ∧ Vals ys its ∧ s'.heap.PlainList s2.heap.objs.size its.toArray ∧
      Inv (X.blk N' scope G.objs.size fp s2 H2) [] (none :: blkVals fv σ) H' s' ∧ H' s2.heap.objs.size = none ∧ tn i s'.heap ∧ (∀ b ∈ fp, H' b = none) ∧ W i ys H') ?_ (n + 1)
      ⟨0, [], H2, [], rfl, Nat.zero_le _, Nat.le_refl _, .nil, hD, blk_inv S I2 f2 hfo hC kp hns (fun p hp => nomatch hp), I2.hok.fresh (Nat.le_refl _), T.keep _ _ _ st2 fun b _ o e => kp b o e, fun b hb => (f2 b hb).1, w0⟩
    rintro k s4 ⟨i, ys, H4, its, rfl, hin, hyi, rv, pl4, I4, fD4, st4, ff4, w4⟩
    obtain ⟨cnt, eD⟩ := id pl4
    have I4p := pin1 (i := i) (ys := ys) I4 eD (fun v z => by cases z) fD4
    have np : ∀ p ∈ [(s2.heap.objs.size, ({ cls := .type "list", data := .seq its.toArray cnt } : Obj))], p.1 ∉ fp := fun p hp => by
      have z : p = (s2.heap.objs.size, ({ cls := .type "list", data := .seq its.toArray cnt } : Obj)) := by simpa using hp
      subst z; exact hDf
    rcases turn i ys H4 w4 with ⟨stop, fin⟩ | ⟨go, hi2, step⟩
    · refine wpAny_mono (T.done (X.blk N' scope G.objs.size fp s2 H2) rfl rfl rfl hc i _ s4 _ H4 _ I4p (stat ff4 np) st4 stop) (fun r s5 ⟨hr, I5⟩ => ?_) fun _ _ e => e
      subst hr
      obtain ⟨m5, hm5, _⟩ := I5.loc
      have eD5 : s5.heap.get? s2.heap.objs.size = some { cls := .type "list", data := .seq its.toArray cnt } := (I5.pin _ (List.mem_append_right _ List.mem_cons_self)).1
      refine ⟨m5, hm5, fun h' sb => ⟨.ref s2.heap.objs.size, upd H4 s2.heap.objs.size (.lst ys), ?_, rfl, fin _ fD4⟩⟩
      have ltC : ∀ {b : Addr} {o : Obj}, s2.heap.get? b = some o → b ≠ G.objs.size := fun {b o} e => Nat.ne_of_lt (Nat.lt_of_lt_of_le (Heap.lt_size e) hC)
      have fD2 : H2 s2.heap.objs.size = none := I2.hok.fresh (Nat.le_refl _)
      have ltD : ∀ {b : Addr} {o : Obj}, s2.heap.get? b = some o → b ≠ s2.heap.objs.size := fun {b o} e => Nat.ne_of_lt (Heap.lt_size e)
      have B := I5.base
      refine I2.call' (s' := { s5 with heap := h' }) (ch := fp) I5.os ⟨fun b o e nb hb hx => ?_, fun b o e nb hb hx => ?_, fun b o e nb hx => ?_, fun b o e hx => ?_, fun b xs e => ?_, fun b o u e => ?_, fun b ps e => ?_⟩ ?_ I5.bare fun b hb => ?_
      · exact sb.extBut b o (ltC e) (B.keep b o e nb hb hx)
      · obtain ⟨sl, q⟩ := B.slot b o e nb hb hx
        exact ⟨sl, sb.extBut b _ (ltC e) q⟩
      · rw [upd_ne (ltD e)]; exact B.free b o e nb hx
      · obtain ⟨o', q⟩ := B.there b o e hx
        exact ⟨o', sb.extBut b o' (ltC e) q⟩
      · have e' : H2 b = some (.tup xs) := e
        rw [upd_ne (ne_of_none e' fD2)]; exact B.tups b xs e
      · have e' : H2 b = some (.frz o u) := e
        rw [upd_ne (ne_of_none e' fD2)]; exact B.frzs b o u e
      · have e' : H2 b = some (.tbl ps) := e
        rw [upd_ne (ne_of_none e' fD2)]; exact B.tbls b ps e
      · intro b u e
        by_cases hb : b = s2.heap.objs.size
        · subst hb
          rw [upd_same] at e
          cases e
          exact ⟨Nat.le_trans hyi (Nat.le_trans hin hn), its, cnt, rv, sb.extBut _ _ hDC eD5⟩
        · rw [upd_ne hb] at e
          have fC : H4 G.objs.size = none := I5.free
          refine (I5.hok b u e).stay (fun c v hc' q => sb.extBut c v ?_ q) (fun c q => by rw [upd_ne (ne_of_none q fD4)]; exact q) fun c xs q => by rw [upd_ne (ne_of_none q fD4)]; exact q
          rcases hc' with z | z
          · subst z; exact ne_of_none e fC
          · exact ne_of_none z fC
      · obtain ⟨_, g1, g2, g3, g4, g5⟩ := f2 b hb
        exact ⟨g3, g1, g4, g5⟩
    · refine wpAny_mono (T.item (X.blk N' scope G.objs.size fp s2 H2) rfl rfl rfl hc i _ s4 _ H4 _ I4p (stat ff4 np) st4 go) (fun r s5 ⟨u, hr, h5⟩ => ?_) fun _ _ e => e
      subst hr
      show wpAny _ _ (letOwnedTupleGo (.Name x px) (.ref it) u >>= fun _ => assign (.Name x px) (X.blk N' scope G.objs.size fp s2 H2).env u) _ _ s5
      refine wpAny_bind (wpAny_mono h5 (fun _ s6 ⟨xv, H6, I6, r6, y6, st6, ff6⟩ => ?_) fun _ _ e => e)
      have I6' := I6.pinned (stat ff6 np) (T.obj _ _ st6)
      have out : ∀ {σ' : St} {H' : Hp} {s' : Shared}, Inv (X.blk N' scope G.objs.size fp s2 H2) ([(s2.heap.objs.size, ({ cls := .type "list", data := .seq its.toArray cnt } : Obj))] ++ pinsAt fp s6.heap) σ' H' s' →
          s'.heap.PlainList s2.heap.objs.size its.toArray ∧ H' s2.heap.objs.size = none ∧ (∀ b ∈ fp, H' b = none) ∧ (∀ b ∈ fp, ∀ o, s6.heap.get? b = some o → s'.heap.get? b = some o) := fun {σ' H' s'} J1 => by
        have q := J1.pin (s2.heap.objs.size, ({ cls := .type "list", data := .seq its.toArray cnt } : Obj)) (List.mem_append_right _ (List.mem_append_left _ List.mem_cons_self))
        refine ⟨⟨cnt, q.1⟩, q.2.1, fun b hb => ?_, fun b hb o e => (J1.pin (b, o) (List.mem_append_right _ (List.mem_append_right _ (mem_pinsAt hb e)))).1⟩
        obtain ⟨o, e, d⟩ := T.obj _ _ st6 b hb
        exact (J1.pin (b, o) (List.mem_append_right _ (List.mem_append_right _ (mem_pinsAt hb e)))).2.1
      refine nox ((pg_name (X := X.blk N' scope G.objs.size fp s2 H2) (i := 0) S.nd S.hd (.inl hlc) (.inr hlc)) _ s6 _ H6 xv u (fun σ' H' => σ' = some xv :: blkVals fv σ ∧ H' = H6) I6' r6 ⟨rfl, rfl⟩) fun _ s7 ⟨σ7, H7, I7, e7, e7'⟩ => ?_
      subst e7 e7'
      refine nox (ht _ _ _ _ _ s7 _ H7 _ I7 (step xv H7 y6)) fun ok s8 ⟨H8, I8, q8⟩ => ?_
      cases ok with
      | false =>
        obtain ⟨o1, o2, o3, o4⟩ := out I8
        exact ⟨n + 1 - (i + 1), by omega, i + 1, ys, H8, its, rfl, hi2, Nat.le_succ_of_le hyi, rv, o1, (I8.pins_of (pins' := []) fun p hp => nomatch hp).weak (σ' := none :: blkVals fv σ) rfl (fun j v e => by
          cases j with
          | zero => cases (show (none : Option V) = some v from Option.some.inj e)
          | succ j => exact e), o2, T.keep _ _ _ st6 o4, o3, q8⟩
      | true =>
        refine nox (he _ _ _ _ _ s8 _ H8 _ I8 q8) fun yv s9 ⟨y, H9, I9, r9, q9⟩ => ?_
        obtain ⟨o1, o2, o3, o4⟩ := out I9
        have hlen := rv.length
        refine wpAny_list_append_plain (hsz := by rw [List.size_toArray, ← hlen]; exact Nat.le_trans hyi (Nat.le_trans hin hn)) o1 fun h' pl' sb' => ?_
        have I9' : Inv (X.blk N' scope G.objs.size fp s2 H2) [] (some xv :: blkVals fv σ) H9 { s9 with heap := h' } :=
          (I9.pins_of (pins' := []) fun p hp => nomatch hp).turned (t' := s9.toks) (it := s2.heap.objs.size) (fun b o hb e => sb'.extBut b o hb e) o2 hDC (.inr (Nat.le_refl _)) hcl (fun p hp => nomatch hp)
        refine ⟨n + 1 - (i + 1), by omega, i + 1, ys ++ [y], H9, its ++ [yv], rfl, hi2, by rw [List.length_append]; exact Nat.succ_le_succ hyi, rv.append (.cons r9 .nil), ?_, I9'.weak (σ' := none :: blkVals fv σ) rfl (fun j v e => by
          cases j with
          | zero => cases (show (none : Option V) = some v from Option.some.inj e)
          | succ j => exact e), o2, T.keep _ _ _ st6 fun b hb o e => sb'.extBut b o (fun z => hDf (z ▸ hb)) (o4 b hb o e), o3, q9⟩
        have e9 : (its ++ [yv]).toArray = its.toArray.push yv := by simp
        rw [e9]
        exact pl'
  exact codeAny_compStart_list (loop _ rfl) (T.self _ 0 _ _ _ (T.keep _ _ _ st2 fun b _ o e => kp b o e) (loop _ rfl))
end L2

namespace L2
open PySem PySem.Spec PyProof.Rows
end L2

namespace L2
open PySem PySem.Spec PyProof.Rows
set_option maxHeartbeats 1600000 in
theorem lc_core {X : Cx} {elt iter : Expr} {x : Str} {px : Pos} {ifs : List Expr} {scope : Scope} {pos : Pos} {N' : List Str} {fv : List Nat} {tt : TT} {te : TE} {pins : List (Addr × Obj)} {σ : St} {s2 : Shared} {H2 : Hp} {it : Addr} {fp : List Addr} {tn : Nat → Heap → Prop} {J : It}
    {RR : Value → Addr → Result → Shared → Prop} {Fin : List V → Hp → Prop} {E : Value → Shared → Prop} {W : Nat → List V → Hp → Prop} {n : Nat}
    (S : BlkScope X.N X.env.scope scope x N' fv) (hc : X.calm = true)
    (ht : ∀ C fp s H, PTs (X.blk N' scope C fp s H) ifs tt) (he : ∀ C fp s H, PE (X.blk N' scope C fp s H) elt te)
    (I2 : Inv X pins σ H2 s2) (T : Turn X.prog X.w X.K (.Name x px) J fp it tn) (st2 : tn 0 s2.heap) (f2 : ∀ b ∈ fp, FpOk X pins H2 b) (w0 : W 0 [] H2) (hn : n ≤ sizeLine)
    (turn : ∀ i ys H, W i ys H → (J.stop i H ∧ Fin ys H) ∨ (J.go i H ∧ i < n ∧ ∀ x H', J.yld i H x H' → tt (some x :: blkVals fv σ) H' fun c H2 => if c = true then te (some x :: blkVals fv σ) H2 fun y H3 => W (i + 1) (ys ++ [y]) H3 else W (i + 1) ys H2))
    (fin : ∀ (D C : Addr) (ys : List V) (H4 : Hp) (s5 : Shared) (m5 : Str → Option Value), Inv X pins σ (upd H4 D (.lst ys)) s5 → s5.heap.Ns C m5 → C ≠ D → H4 D = none → H4 C = none → C ≠ X.env.locals → X.s₀.heap.objs.size ≤ C → (∀ y c, X.env.cells.lookup y = some c → c ≠ C) → (∀ p ∈ X.pn ++ pins, p.1 ≠ C) → Fin ys H4 → RR (.ref D) C (.ok .next) s5) :
    wpAny (model X.prog X.w) X.A (newList []) (fun acc s₃ => wpAny (model X.prog X.w) X.A (newFunctionEnv scope X.env.globals (cloOf X.env scope.names []) [] X.env.qual none .none (some X.env)) (fun cenv s₄ =>
      codeAny (model X.prog X.w) X.A (.compStart (.ListComp elt [⟨.Name x px, iter, ifs, 0⟩] scope pos) 0 (.ref it) acc { cenv with scope := relabel scope X.env }) (RR acc cenv.locals) s₄) E s₃) E s2 := by
  refine wpAny_newObj_type (wpAny_newFunctionEnv S.nocell (by intro y hy; simp at hy) (fun h1 hns hsb => ?_) S.kind)
  dsimp only at hns hsb ⊢
  generalize hH : s2.heap.push { cls := .type "list", dict := none, data := .seq ([] : List Value).toArray } = G at hns hsb ⊢
  have hG : G.objs.size = s2.heap.objs.size + 1 := by rw [← hH, Heap.size_push]
  have kpG : ∀ b o, s2.heap.get? b = some o → G.get? b = some o := fun b o e => hH ▸ Heap.get?_push_of_some _ e
  have kp1 : ∀ b o, b < G.objs.size → G.get? b = some o → h1.get? b = some o := fun b o lt e => hsb.extBut b o (Nat.ne_of_lt lt) (Heap.get?_push_of_some _ e)
  have kp : ∀ b o, s2.heap.get? b = some o → h1.get? b = some o := fun b o e => kp1 b o (by rw [hG]; exact Nat.lt_succ_of_lt (Heap.lt_size e)) (kpG b o e)
  have hD : h1.PlainList s2.heap.objs.size #[] := ⟨_, kp1 _ _ (by rw [hG]; exact Nat.lt_succ_self _) (hH ▸ Heap.get?_push_size _ rfl)⟩
  have hDC : s2.heap.objs.size ≠ G.objs.size := by rw [hG]; exact Nat.ne_of_lt (Nat.lt_succ_self _)
  have hC : s2.heap.objs.size ≤ G.objs.size := by rw [hG]; exact Nat.le_succ _
  have hfo : ∀ b ∈ fp, b < s2.heap.objs.size := fun b hb => by obtain ⟨o, e, _⟩ := T.obj 0 _ st2 b hb; exact Heap.lt_size e
  -- what is true of the iterator's records in the block
  have stat : ∀ {H' : Hp} {pl : List (Addr × Obj)}, (∀ b ∈ fp, H' b = none) → (∀ p ∈ pl, p.1 ∉ fp) → ∀ b ∈ fp, FpOk (X.blk N' scope G.objs.size fp s2 H2) pl H' b := fun {H' pl} hn hpl b hb => by
    obtain ⟨_, g1, g2, g3, g4, g5⟩ := f2 b hb
    refine ⟨hn b hb, Nat.ne_of_lt (Nat.lt_of_lt_of_le (hfo b hb) hC), fun z => ?_, .inl hb, fun y c e => g4 y c (cloOf_lookup_sub e), fun p hp e => ?_⟩
    · rcases List.mem_cons.mp (I2.stkSub b z) with q | q
      · exact g1 q
      · exact g2 q
    · exact hpl p hp (e ▸ hb)
  have hDf : s2.heap.objs.size ∉ fp := fun z => absurd (hfo _ z) (Nat.lt_irrefl _)
  have hlc : (X.blk N' scope G.objs.size fp s2 H2).env.scope.names.lookup x = some .local := lookup_relabel_local S.loc
  have hcl : ∀ y c, (X.blk N' scope G.objs.size fp s2 H2).env.cells.lookup y = some c → c ≠ s2.heap.objs.size := fun y c e z => by
    obtain ⟨v, q⟩ := I2.cell y c (cloOf_lookup_sub e)
    exact absurd q.lt (by rw [z]; exact Nat.lt_irrefl _)
  have pin1 : ∀ {s' : Shared} {H' : Hp} {ob : Obj} {i : Nat} {ys : List V}, Inv (X.blk N' scope G.objs.size fp s2 H2) [] (none :: blkVals fv σ) H' s' → s'.heap.get? s2.heap.objs.size = some ob → (∀ v, ob.data ≠ .cell v) → H' s2.heap.objs.size = none →
      Inv (X.blk N' scope G.objs.size fp s2 H2) [(s2.heap.objs.size, ob)] (none :: blkVals fv σ) H' s' := fun {s' H' ob i ys} J1 e d f => J1.pins_of fun p hp => by
    have z : p = (s2.heap.objs.size, ob) := by simpa using hp
    subst z
    refine ⟨e, f, hDC, fun z => ?_, d⟩
    rcases List.mem_cons.mp (I2.stkSub _ z) with q | q
    · exact absurd I2.lt (by rw [← q]; exact Nat.lt_irrefl _)
    · exact I2.nofs (Nat.le_refl _) q
  have loop : ∀ s3 : Shared, s3 = { s2 with heap := h1, toks := s2.toks + ([] : List (Str × Value)).length } →
      codeAny (model X.prog X.w) X.A (.compLoop (.ListComp elt [⟨.Name x px, iter, ifs, 0⟩] scope pos) 0 (.ref it) (.ref s2.heap.objs.size) (X.blk N' scope G.objs.size fp s2 H2).env)
        (RR (.ref s2.heap.objs.size) G.objs.size) s3 := by
    rintro s3 rfl
    refine codeAny_compLoop_tests (fun k s' => ∃ i ys H' its, k = n + 1 - i ∧ i ≤ n ∧ ys.length ≤ i ∧ Vals ys its ∧ s'.heap.PlainList s2.heap.objs.size its.toArray ∧
      Inv (X.blk N' scope G.objs.size fp s2 H2) [] (none :: blkVals fv σ) H' s' ∧ H' s2.heap.objs.size = none ∧ tn i s'.heap ∧ (∀ b ∈ fp, H' b = none) ∧ W i ys H') ?_ (n + 1)
      ⟨0, [], H2, [], rfl, Nat.zero_le _, Nat.le_refl _, .nil, hD, blk_inv S I2 f2 hfo hC kp hns (fun p hp => nomatch hp), I2.hok.fresh (Nat.le_refl _), T.keep _ _ _ st2 fun b _ o e => kp b o e, fun b hb => (f2 b hb).1, w0⟩
    rintro k s4 ⟨i, ys, H4, its, rfl, hin, hyi, rv, pl4, I4, fD4, st4, ff4, w4⟩
    obtain ⟨cnt, eD⟩ := id pl4
    have I4p := pin1 (i := i) (ys := ys) I4 eD (fun v z => by cases z) fD4
    have np : ∀ p ∈ [(s2.heap.objs.size, ({ cls := .type "list", data := .seq its.toArray cnt } : Obj))], p.1 ∉ fp := fun p hp => by
      have z : p = (s2.heap.objs.size, ({ cls := .type "list", data := .seq its.toArray cnt } : Obj)) := by simpa using hp
      subst z; exact hDf
    rcases turn i ys H4 w4 with ⟨stop, fn⟩ | ⟨go, hi2, step⟩
    · refine wpAny_mono (T.done (X.blk N' scope G.objs.size fp s2 H2) rfl rfl rfl hc i _ s4 _ H4 _ I4p (stat ff4 np) st4 stop) (fun r s5 ⟨hr, I5⟩ => ?_) fun _ _ e => e
      subst hr
      obtain ⟨m5, hm5, _⟩ := I5.loc
      have eD5 : s5.heap.get? s2.heap.objs.size = some { cls := .type "list", data := .seq its.toArray cnt } := (I5.pin _ (List.mem_append_right _ List.mem_cons_self)).1
      have fD2 : H2 s2.heap.objs.size = none := I2.hok.fresh (Nat.le_refl _)
      have ltD : ∀ {b : Addr} {o : Obj}, s2.heap.get? b = some o → b ≠ s2.heap.objs.size := fun {b o} e => Nat.ne_of_lt (Heap.lt_size e)
      have B := I5.base
      have fC : H4 G.objs.size = none := I5.free
      have I5X : Inv X pins σ (upd H4 s2.heap.objs.size (.lst ys)) s5 := by
        refine I2.call' (s' := s5) (ch := fp) I5.os ⟨fun b o e nb hb hx => B.keep b o e nb hb hx, fun b o e nb hb hx => B.slot b o e nb hb hx, fun b o e nb hx => ?_, fun b o e hx => B.there b o e hx, fun b xs e => ?_, fun b o u e => ?_, fun b ps e => ?_⟩ ?_ I5.bare fun b hb => ?_
        · rw [upd_ne (ltD e)]; exact B.free b o e nb hx
        · have e' : H2 b = some (.tup xs) := e
          rw [upd_ne (ne_of_none e' fD2)]; exact B.tups b xs e
        · have e' : H2 b = some (.frz o u) := e
          rw [upd_ne (ne_of_none e' fD2)]; exact B.frzs b o u e
        · have e' : H2 b = some (.tbl ps) := e
          rw [upd_ne (ne_of_none e' fD2)]; exact B.tbls b ps e
        · intro b u e
          by_cases hb : b = s2.heap.objs.size
          · subst hb
            rw [upd_same] at e
            cases e
            exact ⟨Nat.le_trans hyi (Nat.le_trans hin hn), its, cnt, rv, eD5⟩
          · rw [upd_ne hb] at e
            exact (I5.hok b u e).stay (fun c v hc' q => q) (fun c q => by rw [upd_ne (ne_of_none q fD4)]; exact q) fun c xs q => by rw [upd_ne (ne_of_none q fD4)]; exact q
        · obtain ⟨_, g1, g2, g3, g4, g5⟩ := f2 b hb
          exact ⟨g3, g1, g4, g5⟩
      refine fin s2.heap.objs.size G.objs.size ys H4 s5 m5 I5X hm5 hDC.symm fD4 fC (Nat.ne_of_gt (Nat.lt_of_lt_of_le I2.lt hC)) (Nat.le_trans I2.sz hC) (fun y c e z => ?_) (fun p hp z => ?_) fn
      · obtain ⟨v, q⟩ := I2.cell y c e
        exact absurd (Nat.lt_of_lt_of_le q.lt hC) (by rw [z]; exact Nat.lt_irrefl _)
      · exact absurd (Nat.lt_of_lt_of_le (Heap.lt_size (I2.pin p hp).1) hC) (by rw [z]; exact Nat.lt_irrefl _)
    · refine wpAny_mono (T.item (X.blk N' scope G.objs.size fp s2 H2) rfl rfl rfl hc i _ s4 _ H4 _ I4p (stat ff4 np) st4 go) (fun r s5 ⟨u, hr, h5⟩ => ?_) fun _ _ e => e
      subst hr
      show wpAny _ _ (letOwnedTupleGo (.Name x px) (.ref it) u >>= fun _ => assign (.Name x px) (X.blk N' scope G.objs.size fp s2 H2).env u) _ _ s5
      refine wpAny_bind (wpAny_mono h5 (fun _ s6 ⟨xv, H6, I6, r6, y6, st6, ff6⟩ => ?_) fun _ _ e => e)
      have I6' := I6.pinned (stat ff6 np) (T.obj _ _ st6)
      have out : ∀ {σ' : St} {H' : Hp} {s' : Shared}, Inv (X.blk N' scope G.objs.size fp s2 H2) ([(s2.heap.objs.size, ({ cls := .type "list", data := .seq its.toArray cnt } : Obj))] ++ pinsAt fp s6.heap) σ' H' s' →
          s'.heap.PlainList s2.heap.objs.size its.toArray ∧ H' s2.heap.objs.size = none ∧ (∀ b ∈ fp, H' b = none) ∧ (∀ b ∈ fp, ∀ o, s6.heap.get? b = some o → s'.heap.get? b = some o) := fun {σ' H' s'} J1 => by
        have q := J1.pin (s2.heap.objs.size, ({ cls := .type "list", data := .seq its.toArray cnt } : Obj)) (List.mem_append_right _ (List.mem_append_left _ List.mem_cons_self))
        refine ⟨⟨cnt, q.1⟩, q.2.1, fun b hb => ?_, fun b hb o e => (J1.pin (b, o) (List.mem_append_right _ (List.mem_append_right _ (mem_pinsAt hb e)))).1⟩
        obtain ⟨o, e, d⟩ := T.obj _ _ st6 b hb
        exact (J1.pin (b, o) (List.mem_append_right _ (List.mem_append_right _ (mem_pinsAt hb e)))).2.1
      refine nox ((pg_name (X := X.blk N' scope G.objs.size fp s2 H2) (i := 0) S.nd S.hd (.inl hlc) (.inr hlc)) _ s6 _ H6 xv u (fun σ' H' => σ' = some xv :: blkVals fv σ ∧ H' = H6) I6' r6 ⟨rfl, rfl⟩) fun _ s7 ⟨σ7, H7, I7, e7, e7'⟩ => ?_
      subst e7 e7'
      refine nox (ht _ _ _ _ _ s7 _ H7 _ I7 (step xv H7 y6)) fun ok s8 ⟨H8, I8, q8⟩ => ?_
      cases ok with
      | false =>
        obtain ⟨o1, o2, o3, o4⟩ := out I8
        exact ⟨n + 1 - (i + 1), by omega, i + 1, ys, H8, its, rfl, hi2, Nat.le_succ_of_le hyi, rv, o1, (I8.pins_of (pins' := []) fun p hp => nomatch hp).weak (σ' := none :: blkVals fv σ) rfl (fun j v e => by
          cases j with
          | zero => cases (show (none : Option V) = some v from Option.some.inj e)
          | succ j => exact e), o2, T.keep _ _ _ st6 o4, o3, q8⟩
      | true =>
        refine nox (he _ _ _ _ _ s8 _ H8 _ I8 q8) fun yv s9 ⟨y, H9, I9, r9, q9⟩ => ?_
        obtain ⟨o1, o2, o3, o4⟩ := out I9
        have hlen := rv.length
        refine wpAny_list_append_plain (hsz := by rw [List.size_toArray, ← hlen]; exact Nat.le_trans hyi (Nat.le_trans hin hn)) o1 fun h' pl' sb' => ?_
        have I9' : Inv (X.blk N' scope G.objs.size fp s2 H2) [] (some xv :: blkVals fv σ) H9 { s9 with heap := h' } :=
          (I9.pins_of (pins' := []) fun p hp => nomatch hp).turned (t' := s9.toks) (it := s2.heap.objs.size) (fun b o hb e => sb'.extBut b o hb e) o2 hDC (.inr (Nat.le_refl _)) hcl (fun p hp => nomatch hp)
        refine ⟨n + 1 - (i + 1), by omega, i + 1, ys ++ [y], H9, its ++ [yv], rfl, hi2, by rw [List.length_append]; exact Nat.succ_le_succ hyi, rv.append (.cons r9 .nil), ?_, I9'.weak (σ' := none :: blkVals fv σ) rfl (fun j v e => by
          cases j with
          | zero => cases (show (none : Option V) = some v from Option.some.inj e)
          | succ j => exact e), o2, T.keep _ _ _ st6 fun b hb o e => sb'.extBut b o (fun z => hDf (z ▸ hb)) (o4 b hb o e), o3, q9⟩
        have e9 : (its ++ [yv]).toArray = its.toArray.push yv := by simp
        rw [e9]
        exact pl'
  exact codeAny_compStart_list (loop _ rfl) (T.self _ 0 _ _ _ (T.keep _ _ _ st2 fun b _ o e => kp b o e) (loop _ rfl))

/-- name = [.. for ..] -/
def tSetLC (j : Nat) (wi : TI) (fv : List Nat) (tt : TT) (te : TE) : TS := fun D σ H => wi σ H fun J H1 => ∃ (W : Nat → List V → Hp → Prop) (n : Nat), W 0 [] H1 ∧ n ≤ sizeLine ∧ ∀ i ys H, W i ys H →
  (J.stop i H ∧ ∀ p, H p = none → D.nx (σ.set j (some (.ref p))) (upd H p (.lst ys))) ∨
  (J.go i H ∧ i < n ∧ ∀ x H', J.yld i H x H' → tt (some x :: blkVals fv σ) H' fun c H2 => if c = true then te (some x :: blkVals fv σ) H2 fun y H3 => W (i + 1) (ys ++ [y]) H3 else W (i + 1) ys H2)
theorem ps_setLC {X : Cx} {elt iter : Expr} {x y : Str} {px py : Pos} {ifs : List Expr} {scope : Scope} {pos spos : Pos} {N' : List Str} {fv : List Nat} {wi : TI} {tt : TT} {te : TE} {j : Nat}
    (hN : X.N.Nodup) (hj : X.N[j]? = some y) (hy : Loc X.env.scope y)
    (S : BlkScope X.N X.env.scope scope x N' fv) (hc : X.calm = true) (hi : PI X (.Name x px) iter wi)
    (ht : ∀ C fp s H, PTs (X.blk N' scope C fp s H) ifs tt) (he : ∀ C fp s H, PE (X.blk N' scope C fp s H) elt te)
    (hsw : swapsWith (.ListComp elt [⟨.Name x px, iter, ifs, 0⟩] scope pos) (some (.Name y py)) spos.line X.env = pure true := by rfl)
    (hf : X.fn y = true ∨ X.env.scope.names.lookup y = some .local := by first | exact .inl rfl | exact .inr rfl | assumption)
    (hs : ∀ x, foldedSetIterable iter X.env x = pure x := by intro _; rfl) :
    PS X (.Assign [.Name y py] (.ListComp elt [⟨.Name x px, iter, ifs, 0⟩] scope pos) spos) (tSetLC j wi fv tt te) := by
  intro pins s σ H D I h
  rw [exec_Assign_Name_used _ _ _ _ hsw]
  refine wpAny_bind (wpAny_standAt (wpAny_bind ?_))
  show wpAny _ X.A (do let _ ← comprehension (.ListComp elt [⟨.Name x px, iter, ifs, 0⟩] scope pos) scope X.env _ (newList []) false (eval iter X.env) (some (assign (.Name y py) X.env))) _ _ s
  refine wpAny_bind (wpAny_mono (wpAny_comprehension_free (use := some (assign (.Name y py) X.env)) (Q := fun _ s' => SP X pins D .next s') rfl hs (closureFor_free fun y hy hk => I.ok.has y.1 (S.free y hy hk)) S.kind S.names
    (wpAny_mono (hi pins s σ H _ I h) (fun xv s1 h1 => wpAny_mono h1 (fun itv s2 h2 => ?_) fun _ _ e => e) fun _ _ e => e)) (fun _ s' hq => wpAny_pure (wpAny_pure hq)) fun _ _ e => e)
  obtain ⟨it, fp, tn, J, H2, rfl, I2, T, st2, f2, W, n, w0, hn, turn⟩ := h2
  refine lc_core (Fin := fun ys H => ∀ p, H p = none → D.nx (σ.set j (some (.ref p))) (upd H p (.lst ys))) (RR := fun acc C => compPost (model X.prog X.w) X.A X.xe (some (assign (.Name y py) X.env)) (fun _ s' => SP X pins D .next s') acc C) S hc ht he I2 T st2 f2 w0 hn turn ?_
  intro E' C ys H4 s5 m5 I5 hm5 hCE fD fC hCL hC0 hCc hCp q
  show wpAny _ X.A (assign (.Name y py) X.env (.ref E')) _ _ _
  refine wpAny_assign_Name (store_ok2 I5 hN hj hy (v := .ref E') rfl (fun s6 I6 hch => ?_) hf)
  obtain ⟨a, sb, ha⟩ := hch
  have nCa : C ≠ a := by
    rcases ha with rfl | ha
    · exact hCL
    · exact fun e => hCc _ _ ha e.symm
  refine ⟨m5, hm5.sameBut sb nCa, fun h' sb' => ⟨_, _, ?_, q E' fD⟩⟩
  exact I6.turned (t' := s6.toks) (it := C) (fun b o hb e => sb'.extBut b o hb e) (by rw [upd_ne hCE]; exact fC) hCL (.inr hC0) hCc hCp
end L2

namespace L2
open PySem PySem.Spec PyProof.Rows
open Builtin Builtin.Str
section
variable {X : Cx}
end
end L2

namespace L2
open PySem PySem.Spec PyProof.Rows
section
variable {X : Cx}
/-- // by a positive divisor of up to some thousand figures -/
def CDivB (_ j : Int) : Prop := 0 < j ∧ j.natAbs.log2 < 9000
end
end L2

namespace L2
open PySem PySem.Spec PyProof.Rows
section
variable {X : Cx}
end
end L2

namespace L2
open PySem PySem.Spec PyProof.Rows
/-! ### exceptions of the program's own classes -/
/-- what is tracked, and what was there in h0, is in B, but for the frames l -/
def Cov (l : List Env) (h0 : Heap) (H : Hp) (B h : Heap) : Prop := ∀ b o, h.get? b = some o → b ∉ frs l → (H b ≠ none ∨ ∃ o0, h0.get? b = some o0) → B.get? b = some o
/-- an exception at ea, of the class at C, flies through the frames l -/
def Fly (l : List Env) (h0 : Heap) (H : Hp) (ea C : Addr) (h : Heap) : Prop := ∃ B a0, Heap.FlyingW B l ea (.ref C) a0 h ∧ Cov l h0 H B h
def CXE (P : Program) (w : World) : CXT := fun outer H s E e s' => ∃ ea C H', e = .ref ea ∧ s'.os = s.os ∧ AllBare s'.gens ∧ Un (frs outer) [] H H' s.heap s'.heap ∧ HOk P w H' s'.heap ∧ Fly outer s.heap H' ea C s'.heap ∧ E e (some C) H'
section
variable {l : List Env} {H : Hp} {B h h' hc : Heap} {P : Program} {w : World}
end
/-- the context of a def's body whose exceptions go on -/
structure Cx.Def (X : Cx) (E : XK) : Prop where
  stk : X.stack = X.env :: X.outer
  fr : X.env.frame = some X.env.locals
  ex : X.ex = []
  xe : X.xe = fun e s' => wpAny (model X.prog X.w) X.A (leaving X.env e) (fun _ s'' => CXE X.prog X.w X.outer X.H₀ X.s₀ E e s'') (fun e' s'' => CXE X.prog X.w X.outer X.H₀ X.s₀ E e' s'') s'
section
variable {X : Cx} {E : XK} {pins : List (Addr × Obj)} {σ : St} {H H' : Hp} {s s' : Shared}
end
section
variable {P : Program} {w : World} {K : PySem.W.Frag} {mg : Str → Option Value} {base : Heap}
end
end L2

namespace L2
open PySem PySem.Spec PyProof.Rows
section
variable {X : Cx} {E : XK}
/-- raise C(arg) -/
def tRaise (C : Addr) (E : XK) (ta : TA) : TS := fun _ σ H => ta σ H fun vs H1 => vs.length ≤ 1 ∧ ∀ ea, E (.ref ea) (some C) H1
end
end L2

namespace L2
open PySem PySem.Spec PyProof.Rows
/-- an exception that has come down -/
def ExcO (ea C : Addr) : HO := .ext fun h => ∃ o, h.get? ea = some o ∧ o.cls = .ref C
abbrev Cx.hnd (X : Cx) (ev : Value) : Cx := { X with A := X.A.mark (some ev), calm := false, xe := fun _ _ => False }
section
variable {X : Cx} {pins : List (Addr × Obj)} {σ : St} {H H1 : Hp} {s s1 : Shared} {ev : Value}
/-- a handler's class takes the exception -/
def Takes (X : Cx) (C CB : Addr) : Prop := ∀ (A : Around) (s : Shared) (ea : Addr) (ob : Obj) (Q : Bool → Shared → Prop) (E : Value → Shared → Prop), X.K.In s.heap → s.heap.get? ea = some ob → ob.cls = .ref C → Q true s → wpAny (model X.prog X.w) A (excMatches (.ref ea) (.ref CB)) Q E s
/-! ### try around one call -/
abbrev TX := St → Hp → VK → XK → Prop
def XP (X : Cx) (pins : List (Addr × Obj)) (σ : St) (E : XK) (ev : Value) (s' : Shared) : Prop := ∃ s1 H1 ea C H', Inv X pins σ H1 s1 ∧ ev = .ref ea ∧ Inv X pins σ H' s' ∧ Fly X.stack s1.heap H' ea C s'.heap ∧ E ev (some C) H'
def PEX (X : Cx) (e : Expr) (t : TX) : Prop :=
  ∀ (pins : List (Addr × Obj)) (s : Shared) (σ : St) (H : Hp) (Q : VK) (E : XK), Inv X pins σ H s → t σ H Q E → wpAny (model X.prog X.w) X.A (eval e X.env) (EP X pins σ Q) (XP X pins σ E) s
def xCall (sp : Sp) (dvs : List V) (t : TA) : TX := fun σ H Q E => t σ H fun vs H1 => sp (vs ++ dvs) H1 Q E
end
section
variable {X : Cx} {k : Nat} {f C : Addr} {fd : FuncData} {ps : List Str} {sp : Sp} {dvs : List V} {ds : List Value} {x : Str} {p pos : Pos} {e : Expr} {es : List Expr} {t : TA}
end
section
variable {X : Cx} {e : Expr} {t : TX} {C CB : Addr} {cx y : Str} {np hpos pos py apos : Pos} {b₀ : Stmt} {suite : List Stmt} {th : TS} {j : Nat}
def tTrySet (j : Nat) (C : Addr) (t : TX) (th : TS) : TS := fun D σ H => t σ H (fun v H1 => D.nx (σ.set j (some v)) H1) fun ev c H1 => ∃ ea, ev = .ref ea ∧ c = some C ∧ (H1 ea = none → th D σ (upd H1 ea (ExcO ea C)))
def tTryDrop (C : Addr) (t : TX) (th : TS) : TS := fun D σ H => t σ H (fun _ H1 => D.nx σ H1) fun ev c H1 => ∃ ea, ev = .ref ea ∧ c = some C ∧ (H1 ea = none → th D σ (upd H1 ea (ExcO ea C)))
end
end L2

namespace L2
open PySem PySem.Spec PyProof.Rows PySem.Builtin PySem.Builtin.ObjectAttr PySem.Builtin.Getset_descriptor
/-! ### the kind of an exception of an own class -/
section
variable {prog : Program} {w : World} {A : Around} {E : Value → Shared → Prop} {s : Shared} {K : PySem.W.Frag} {x D : Addr} {ox : Obj}
/-- what the top must say of such a class -/
structure ExcK (K : PySem.W.Frag) (D : Addr) : Prop where
  ga : PySem.W.findIn K (.ref D) "__getattribute__" = some (some (.builtin "BaseException.__getattribute__"))
  gh : PySem.W.findIn K (.ref D) "__getattr__" = some none
  ha : PySem.W.findIn K (.ref D) "__class__" = some (some (.builtin "object.__class__"))
  hn : PySem.W.specialIn K (.builtin "object.__class__") "__get__" = some (some (.builtin "getset_descriptor.__get__"))
  htk : PySem.W.takesIn K (.builtin "object.__class__") = some true
  hm : PySem.W.mroIn K D (.type "object") = some true
  hb : PySem.W.mroIn K D (.type "BaseException") = some true
end
end L2

namespace L2
open PySem PySem.Spec PyProof.Rows
section
variable {K : PySem.W.Frag} {x D : Addr}
end
section
variable {X : Cx}
end
section
variable {X : Cx} {pins : List (Addr × Obj)} {σ : St} {H H1 : Hp} {s s1 : Shared} {ev : Value}
def Ends.gone (D : Ends) (i : Nat) : Ends := ⟨fun σ H => D.nx (σ.set i none) H, D.rt, fun σ H => D.bk (σ.set i none) H, fun σ H => D.ct (σ.set i none) H⟩
end
section
variable {X : Cx} {e : Expr} {t : TX} {C CB : Addr} {cx n : Str} {np hpos pos epos : Pos} {b₀ : Stmt} {suite : List Stmt} {th : TS} {i : Nat}
/-- try: one call, dropped; except CB as n -/
def tTryAs (i : Nat) (C : Addr) (t : TX) (th : TS) : TS := fun D σ H => t σ H (fun _ H1 => D.nx σ H1) fun ev c H1 => ∃ ea, ev = .ref ea ∧ c = some C ∧ (H1 ea = none → th (D.gone i) (σ.set i (some (.ref ea))) (upd H1 ea (ExcO ea C)))
end
end L2

/-! data that == compares: flat values and tuples of them; lists of such -/
namespace L2
open PySem PySem.Spec PyProof.Rows
theorem PE.ex {X : Cx} {α : Type} {e : Expr} {t : α → TE} (h : ∀ a, PE X e (t a)) : PE X e (fun σ H Q => ∃ a, t a σ H Q) := by
  intro pins s σ H Q I q
  obtain ⟨a, q⟩ := q
  exact h a pins s σ H Q I q
section
variable {P : Program} {w : World} {K : PySem.W.Frag} {H : Hp} {h : Heap} {a b : Addr} {xs ys : List V}
theorem sqL_raw (hok : HOk P w H h) (kin : K.In h) (q : SqL K H a xs) : ∃ its : List Value, Vals xs its ∧ PlainL h a its.toArray ∧ xs.length ≤ sizeLine := by
  rcases q with q | ⟨o, its, n, hk, hc, hd, hs, hz, r⟩
  · obtain ⟨z, its, n, r, e⟩ := q.ok hok
    exact ⟨its, r, ⟨_, n, e, rfl, rfl, rfl⟩, z⟩
  · refine ⟨its.toList, r, ⟨o, n, kin a o hk, hc, hd, by simpa using hs⟩, ?_⟩
    have e := r.length
    simp only [Array.length_toList] at e
    omega
theorem sqT_raw (hok : HOk P w H h) (kin : K.In h) (q : SqT K H a xs) : ∃ its : List Value, Vals xs its ∧ IsTup h a its.toArray ∧ xs.length ≤ sizeLine := by
  rcases q with q | ⟨o, its, n, hk, hc, hs, hz, r⟩
  · obtain ⟨z, its, r, p⟩ := q.ok hok
    exact ⟨its, r, p, z⟩
  · refine ⟨its.toList, r, ⟨o, kin a o hk, hc, n, by simpa using hs⟩, ?_⟩
    have e := r.length
    simp only [Array.length_toList] at e
    omega
theorem sqT_inj (hok : HOk P w H h) (kin : K.In h) (q : SqT K H a xs) (q' : SqT K H a ys) : xs = ys := by
  obtain ⟨its, r, ⟨o, e, _, n, d⟩, _⟩ := sqT_raw hok kin q
  obtain ⟨its', r', ⟨o', e', _, n', d'⟩, _⟩ := sqT_raw hok kin q'
  rw [e] at e'; cases e'
  rw [d] at d'
  injection d' with d1 _
  have : its = its' := by simpa using congrArg Array.toList d1
  subst this
  exact r.inj r'
/-- a tuple: a new one, or one of the module -/
def SqU (K : PySem.W.Frag) (H : Hp) (a : Addr) (xs : List V) : Prop :=
  H a = some (.tup xs) ∨ ∃ (o : Obj) (its : Array Value) (n : Nat), K.lookup a = some o ∧ o.cls = .type "tuple" ∧ o.data = .seq its n ∧ its.size ≤ sizeLine ∧ Vals xs its.toList
theorem SqU.sq (q : SqU K H a xs) : SqT K H a xs := q.elim (fun z => .inl (.inl z)) .inr
/-- the tuples stay -/
def TSame (H H' : Hp) : Prop := ∀ b xs, H b = some (.tup xs) → H' b = some (.tup xs)
theorem Same.ts {H H' : Hp} (e : Same H H') : TSame H H' := fun b xs h => e b _ h
theorem TSame.trans {H H1 H2 : Hp} (a : TSame H H1) (b : TSame H1 H2) : TSame H H2 := fun c xs h => b c xs (a c xs h)
theorem SqU.keep {H' : Hp} (e : TSame H H') (q : SqU K H a xs) : SqU K H' a xs := q.elim (fun z => .inl (e _ _ z)) .inr
end
/-! ### answers of == and != -/
def EqIs (K : PySem.W.Frag) (n : Nat) (H : Hp) (x y : V) (b : Bool) : Prop :=
  ∀ (P : Program) (w : World) (A : Around) (s : Shared) (u v : Value), A.units + n < cLine → HOk P w H s.heap → K.In s.heap → RelV x u → RelV y v → SeqAt.EqAt A s u v b
def RcIs (K : PySem.W.Frag) (n : Nat) (H : Hp) (x y : V) (b : Bool) : Prop :=
  ∀ (P : Program) (w : World) (A : Around) (s : Shared) (u v : Value), A.units + n < cLine → HOk P w H s.heap → K.In s.heap → RelV x u → RelV y v → SeqAt.RcAt A s u v b
def NeIs (K : PySem.W.Frag) (n : Nat) (H : Hp) (x y : V) (b : Bool) : Prop :=
  ∀ (P : Program) (w : World) (A : Around) (s : Shared) (u v : Value), A.units + n < cLine → HOk P w H s.heap → K.In s.heap → RelV x u → RelV y v → SeqAt.RcNeAt A s u v (!b)
section
variable {K : PySem.W.Frag} {H : Hp} {a b : Addr} {n m : Nat} {x y : V} {r : Bool}
theorem EqIs.mono (h : EqIs K n H x y r) (le : n ≤ m) : EqIs K m H x y r := fun P w A s u v hA => h P w A s u v (by omega)
theorem tupRc {us vs : List V} {e : Nat → Bool} (ha : SqT K H a us) (hb : SqT K H b vs) (hl : us.length = vs.length) (he : ∀ (j : Nat) x y, us[j]? = some x → vs[j]? = some y → EqIs K n H x y (e j)) :
    RcIs K (n + 1) H (.ref a) (.ref b) ((List.range us.length).all e) ∧ NeIs K (n + 1) H (.ref a) (.ref b) ((List.range us.length).all e) := by
  have main : ∀ (P : Program) (w : World) (A : Around) (s : Shared) (u v : Value), A.units + (n + 1) < cLine → HOk P w H s.heap → K.In s.heap → RelV (.ref a) u → RelV (.ref b) v →
      SeqAt.RcAt A s u v ((List.range us.length).all e) ∧ SeqAt.RcNeAt A s u v (!(List.range us.length).all e) := by
    intro P w A s u v hA hok kin r1 r2
    cases r1
    cases r2
    obtain ⟨i1, v1, p1, _⟩ := sqT_raw hok kin ha
    obtain ⟨i2, v2, p2, _⟩ := sqT_raw hok kin hb
    have l1 := v1.length
    have l2 := v2.length
    have items : ∀ j (h1 : j < i1.toArray.size) (h2 : j < i2.toArray.size), SeqAt.EqAt A.in1 s i1.toArray[j] i2.toArray[j] (e j) := fun j h1 h2 => by
      have h1' : j < i1.length := by simpa using h1
      have h2' : j < i2.length := by simpa using h2
      have e1 : us[j]? = some us[j] := List.getElem?_eq_getElem (by omega)
      have e2 : vs[j]? = some vs[j] := List.getElem?_eq_getElem (by omega)
      obtain ⟨u, eu, ru⟩ := v1.get e1
      obtain ⟨v, ev, rv⟩ := v2.get e2
      have q := he j _ _ e1 e2 P w A.in1 s u v (by show A.units + 1 + n < cLine; omega) hok kin ru rv
      have z1 : i1.toArray[j] = u := by
        rw [List.getElem?_eq_getElem h1'] at eu
        simpa using Option.some.inj eu
      have z2 : i2.toArray[j] = v := by
        rw [List.getElem?_eq_getElem h2'] at ev
        simpa using Option.some.inj ev
      rw [z1, z2]
      exact q
    have ez : ((List.range (min i1.toArray.size i2.toArray.size)).all e && i1.toArray.size == i2.toArray.size) = (List.range us.length).all e := by
      have s1 : i1.toArray.size = us.length := by simp [l1]
      have s2 : i2.toArray.size = us.length := by simp [← l2, hl]
      rw [s1, s2, Nat.min_self]
      simp
    constructor
    · have q := SeqAt.RcAt.tuples (A := A) (s := s) (e := e) p1 p2 (by omega) items
      rw [ez] at q
      exact q
    · have q := SeqAt.RcNeAt.tuples (A := A) (s := s) (e := e) p1 p2 (by omega) items
      rw [ez] at q
      exact q
  exact ⟨fun P w A s u v h1 h2 h3 h4 h5 => (main P w A s u v h1 h2 h3 h4 h5).1, fun P w A s u v h1 h2 h3 h4 h5 => (main P w A s u v h1 h2 h3 h4 h5).2⟩
theorem eqIs_ref (h : RcIs K n H (.ref a) (.ref b) r) (hs : ∀ (P : Program) (w : World) (h : Heap), HOk P w H h → K.In h → a = b → r = true) : EqIs K n H (.ref a) (.ref b) r := by
  intro P w A s u v hA hok kin r1 r2
  have q := h P w A s u v hA hok kin r1 r2
  cases r1
  cases r2
  by_cases e : a = b
  · rw [hs P w s.heap hok kin e, e]
    exact SeqAt.EqAt.same _
  · exact SeqAt.EqAt.of_refs e q
end
/-- a kind of data: how it lies, that it lies for one thing alone, and what == and != tell of it -/
structure Cod (α : Type) [DecidableEq α] where
  n : Nat
  rp : PySem.W.Frag → Hp → α → V → Prop
  inj : ∀ {P : Program} {w : World} {K : PySem.W.Frag} {H : Hp} {h : Heap} {x y : α} {v : V}, HOk P w H h → K.In h → rp K H x v → rp K H y v → x = y
  eq : ∀ {K : PySem.W.Frag} {H : Hp} {x y : α} {u v : V}, rp K H x u → rp K H y v → EqIs K n H u v (decide (x = y))
  rc : ∀ {K : PySem.W.Frag} {H : Hp} {x y : α} {u v : V}, rp K H x u → rp K H y v → RcIs K n H u v (decide (x = y))
  ne : ∀ {K : PySem.W.Frag} {H : Hp} {x y : α} {u v : V}, rp K H x u → rp K H y v → NeIs K n H u v (decide (x = y))
  keep : ∀ {K : PySem.W.Frag} {H H' : Hp} {x : α} {v : V}, TSame H H' → rp K H x v → rp K H' x v
def cInt : Cod Int where
  n := 0
  rp _ _ i v := v = .int i
  inj _ _ h1 h2 := by
    rw [h1] at h2
    exact V.int.inj h2
  eq h1 h2 := by
    intro P w A s u v _ _ _ r1 r2
    subst h1 h2
    obtain ⟨t, rfl⟩ := r1
    obtain ⟨t', rfl⟩ := r2
    rw [← Bool.beq_eq_decide_eq]
    exact SeqAt.EqAt.int_int _ t _ t'
  rc h1 h2 := by
    intro P w A s u v _ _ _ r1 r2
    subst h1 h2
    obtain ⟨t, rfl⟩ := r1
    obtain ⟨t', rfl⟩ := r2
    rw [← Bool.beq_eq_decide_eq]
    exact SeqAt.RcAt.int_int _ t _ t'
  ne h1 h2 := by
    intro P w A s u v _ _ _ r1 r2
    subst h1 h2
    obtain ⟨t, rfl⟩ := r1
    obtain ⟨t', rfl⟩ := r2
    rw [← Bool.beq_eq_decide_eq]
    exact SeqAt.RcNeAt.int_int _ t _ t'
  keep _ h := h
theorem str_beq_dec (x y : Str) : decide (x = y) = (x == y) := by
  rw [Bool.eq_iff_iff]
  simp
def cStr : Cod Str where
  n := 0
  rp _ _ i v := v = .str i
  inj _ _ h1 h2 := by
    rw [h1] at h2
    exact V.str.inj h2
  eq h1 h2 := by
    intro P w A s u v _ _ _ r1 r2
    subst h1 h2
    obtain ⟨t, rfl⟩ := r1
    obtain ⟨t', rfl⟩ := r2
    rw [str_beq_dec]
    exact SeqAt.EqAt.str_str _ t _ t'
  rc h1 h2 := by
    intro P w A s u v _ _ _ r1 r2
    subst h1 h2
    obtain ⟨t, rfl⟩ := r1
    obtain ⟨t', rfl⟩ := r2
    rw [str_beq_dec]
    exact SeqAt.RcAt.str_str _ t _ t'
  ne h1 h2 := by
    intro P w A s u v _ _ _ r1 r2
    subst h1 h2
    obtain ⟨t, rfl⟩ := r1
    obtain ⟨t', rfl⟩ := r2
    rw [str_beq_dec]
    exact SeqAt.RcNeAt.str_str _ t _ t'
  keep _ h := h
def cBl : Cod Bool where
  n := 0
  rp _ _ i v := v = .bl i
  inj _ _ h1 h2 := by
    rw [h1] at h2
    exact V.bl.inj h2
  eq h1 h2 := by
    intro P w A s u v _ _ _ r1 r2
    subst h1 h2
    cases r1
    cases r2
    rw [← Bool.beq_eq_decide_eq]
    exact SeqAt.EqAt.bool_bool _ _
  rc h1 h2 := by
    intro P w A s u v _ _ _ r1 r2
    subst h1 h2
    cases r1
    cases r2
    rw [← Bool.beq_eq_decide_eq]
    exact SeqAt.RcAt.bool_bool _ _
  ne h1 h2 := by
    intro P w A s u v _ _ _ r1 r2
    subst h1 h2
    cases r1
    cases r2
    rw [← Bool.beq_eq_decide_eq]
    exact SeqAt.RcNeAt.bool_bool _ _
  keep _ h := h
section
variable {α β γ : Type} [DecidableEq α] [DecidableEq β] [DecidableEq γ]
def cVia (f : β → α) (hf : ∀ x y, f x = f y → x = y) (c : Cod α) : Cod β where
  n := c.n
  rp K H x v := c.rp K H (f x) v
  inj h1 h2 h3 h4 := hf _ _ (c.inj h1 h2 h3 h4)
  eq {K H x y u v} h1 h2 := by
    have e : decide (x = y) = decide (f x = f y) := decide_eq_decide.mpr ⟨fun z => by rw [z], fun z => hf _ _ z⟩
    rw [e]
    exact c.eq h1 h2
  rc {K H x y u v} h1 h2 := by
    have e : decide (x = y) = decide (f x = f y) := decide_eq_decide.mpr ⟨fun z => by rw [z], fun z => hf _ _ z⟩
    rw [e]
    exact c.rc h1 h2
  ne {K H x y u v} h1 h2 := by
    have e : decide (x = y) = decide (f x = f y) := decide_eq_decide.mpr ⟨fun z => by rw [z], fun z => hf _ _ z⟩
    rw [e]
    exact c.ne h1 h2
  keep h1 h2 := c.keep h1 h2
def rT2 (c : Cod α) (d : Cod β) (K : PySem.W.Frag) (H : Hp) (x : α × β) (v : V) : Prop := ∃ a u w, v = .ref a ∧ SqU K H a [u, w] ∧ c.rp K H x.1 u ∧ d.rp K H x.2 w
theorem rT2_inj {c : Cod α} {d : Cod β} {P : Program} {w : World} {K : PySem.W.Frag} {H : Hp} {h : Heap} {x y : α × β} {v : V} (hok : HOk P w H h) (kin : K.In h) (h1 : rT2 c d K H x v) (h2 : rT2 c d K H y v) : x = y := by
  obtain ⟨a, u, t, rfl, ha, hu, ht⟩ := h1
  obtain ⟨b, u', t', e, hb, hu', ht'⟩ := h2
  cases e
  have z := sqT_inj hok kin ha.sq hb.sq
  cases z
  exact Prod.ext (c.inj hok kin hu hu') (d.inj hok kin ht ht')
theorem rT2_rc {c : Cod α} {d : Cod β} {K : PySem.W.Frag} {H : Hp} {x y : α × β} {u v : V} (h1 : rT2 c d K H x u) (h2 : rT2 c d K H y v) :
    RcIs K (max c.n d.n + 1) H u v (decide (x = y)) ∧ NeIs K (max c.n d.n + 1) H u v (decide (x = y)) := by
  obtain ⟨a, u, t, rfl, ha, hu, ht⟩ := h1
  obtain ⟨b, u', t', rfl, hb, hu', ht'⟩ := h2
  have T := tupRc (n := max c.n d.n) (e := fun j => if j = 0 then decide (x.1 = y.1) else decide (x.2 = y.2)) ha.sq hb.sq rfl (fun j p q e1 e2 => by
    match j, e1, e2 with
    | 0, e1, e2 => cases e1; cases e2; exact (c.eq hu hu').mono (Nat.le_max_left _ _)
    | 1, e1, e2 => cases e1; cases e2; exact (d.eq ht ht').mono (Nat.le_max_right _ _))
  have e : ((List.range ([u, t] : List V).length).all fun j => if j = 0 then decide (x.1 = y.1) else decide (x.2 = y.2)) = decide (x = y) := by
    show (decide (x.1 = y.1) && (decide (x.2 = y.2) && true)) = decide (x = y)
    rw [Bool.and_true, ← Bool.decide_and]
    exact decide_eq_decide.mpr (Prod.ext_iff (x := x) (y := y)).symm
  rw [e] at T
  exact T
def cT2 (c : Cod α) (d : Cod β) : Cod (α × β) where
  n := max c.n d.n + 1
  rp := rT2 c d
  inj := rT2_inj
  rc h1 h2 := (rT2_rc h1 h2).1
  ne h1 h2 := (rT2_rc h1 h2).2
  eq {K H x y u v} h1 h2 := by
    have r := (rT2_rc h1 h2).1
    have i := fun P w h hok kin => rT2_inj (c := c) (d := d) (P := P) (w := w) (K := K) (H := H) (h := h) (x := x) (y := y) (v := v) hok kin
    obtain ⟨a, _, _, rfl, _⟩ := id h1
    obtain ⟨b, _, _, rfl, _⟩ := id h2
    refine eqIs_ref r fun P w h hok kin e => ?_
    subst e
    exact decide_eq_true (i P w h hok kin h1 h2)
  keep e h := let ⟨a, u, w, h1, h2, h3, h4⟩ := h; ⟨a, u, w, h1, h2.keep e, c.keep e h3, d.keep e h4⟩
def rT3 (c : Cod α) (d : Cod β) (f : Cod γ) (K : PySem.W.Frag) (H : Hp) (x : α × β × γ) (v : V) : Prop := ∃ a u w z, v = .ref a ∧ SqU K H a [u, w, z] ∧ c.rp K H x.1 u ∧ d.rp K H x.2.1 w ∧ f.rp K H x.2.2 z
theorem rT3_inj {c : Cod α} {d : Cod β} {f : Cod γ} {P : Program} {w : World} {K : PySem.W.Frag} {H : Hp} {h : Heap} {x y : α × β × γ} {v : V} (hok : HOk P w H h) (kin : K.In h) (h1 : rT3 c d f K H x v) (h2 : rT3 c d f K H y v) : x = y := by
  obtain ⟨a, u, t, z, rfl, ha, hu, ht, hz⟩ := h1
  obtain ⟨b, u', t', z', e, hb, hu', ht', hz'⟩ := h2
  cases e
  have q := sqT_inj hok kin ha.sq hb.sq
  cases q
  exact Prod.ext (c.inj hok kin hu hu') (Prod.ext (d.inj hok kin ht ht') (f.inj hok kin hz hz'))
theorem rT3_rc {c : Cod α} {d : Cod β} {f : Cod γ} {K : PySem.W.Frag} {H : Hp} {x y : α × β × γ} {u v : V} (h1 : rT3 c d f K H x u) (h2 : rT3 c d f K H y v) :
    RcIs K (max c.n (max d.n f.n) + 1) H u v (decide (x = y)) ∧ NeIs K (max c.n (max d.n f.n) + 1) H u v (decide (x = y)) := by
  obtain ⟨a, u, t, z, rfl, ha, hu, ht, hz⟩ := h1
  obtain ⟨b, u', t', z', rfl, hb, hu', ht', hz'⟩ := h2
  have T := tupRc (n := max c.n (max d.n f.n)) (e := fun j => if j = 0 then decide (x.1 = y.1) else if j = 1 then decide (x.2.1 = y.2.1) else decide (x.2.2 = y.2.2)) ha.sq hb.sq rfl (fun j p q e1 e2 => by
    match j, e1, e2 with
    | 0, e1, e2 => cases e1; cases e2; exact (c.eq hu hu').mono (Nat.le_max_left _ _)
    | 1, e1, e2 => cases e1; cases e2; exact (d.eq ht ht').mono (Nat.le_trans (Nat.le_max_left _ _) (Nat.le_max_right _ _))
    | 2, e1, e2 => cases e1; cases e2; exact (f.eq hz hz').mono (Nat.le_trans (Nat.le_max_right _ _) (Nat.le_max_right _ _)))
  have e : ((List.range ([u, t, z] : List V).length).all fun j => if j = 0 then decide (x.1 = y.1) else if j = 1 then decide (x.2.1 = y.2.1) else decide (x.2.2 = y.2.2)) = decide (x = y) := by
    show (decide (x.1 = y.1) && (decide (x.2.1 = y.2.1) && (decide (x.2.2 = y.2.2) && true))) = decide (x = y)
    rw [Bool.and_true, ← Bool.decide_and, ← Bool.decide_and]
    refine decide_eq_decide.mpr ⟨fun z => Prod.ext z.1 (Prod.ext z.2.1 z.2.2), fun z => ?_⟩
    rw [z]
    exact ⟨rfl, rfl, rfl⟩
  rw [e] at T
  exact T
def cT3 (c : Cod α) (d : Cod β) (f : Cod γ) : Cod (α × β × γ) where
  n := max c.n (max d.n f.n) + 1
  rp := rT3 c d f
  inj := rT3_inj
  rc h1 h2 := (rT3_rc h1 h2).1
  ne h1 h2 := (rT3_rc h1 h2).2
  eq {K H x y u v} h1 h2 := by
    have r := (rT3_rc h1 h2).1
    have i := fun P w h hok kin => rT3_inj (c := c) (d := d) (f := f) (P := P) (w := w) (K := K) (H := H) (h := h) (x := x) (y := y) (v := v) hok kin
    obtain ⟨a, _, _, _, rfl, _⟩ := id h1
    obtain ⟨b, _, _, _, rfl, _⟩ := id h2
    refine eqIs_ref r fun P w h hok kin e => ?_
    subst e
    exact decide_eq_true (i P w h hok kin h1 h2)
  keep e h := let ⟨a, u, w, z, h1, h2, h3, h4, h5⟩ := h; ⟨a, u, w, z, h1, h2.keep e, c.keep e h3, d.keep e h4, f.keep e h5⟩
end
/-! ### lists of such data -/
section
variable {α : Type} [DecidableEq α] {K : PySem.W.Frag} {H : Hp}
theorem _root_.PySem.Paired.get {β γ : Type} {R : β → γ → Prop} : ∀ {xs : List β} {us : List γ}, Paired R xs us → ∀ {j : Nat} {u : γ}, us[j]? = some u → ∃ x, xs[j]? = some x ∧ R x u
  | _, _, .nil, j, u, e => by simp at e
  | _, _, .cons r t, 0, u, e => by simp at e; subst e; exact ⟨_, rfl, r⟩
  | _, _, .cons r t, j + 1, u, e => PySem.Paired.get t (j := j) (by simpa using e)
theorem _root_.PySem.Paired.get1 {β γ : Type} {R : β → γ → Prop} : ∀ {xs : List β} {us : List γ}, Paired R xs us → ∀ {j : Nat} {x : β}, xs[j]? = some x → ∃ u, us[j]? = some u ∧ R x u
  | _, _, .nil, j, u, e => by simp at e
  | _, _, .cons r t, 0, u, e => by simp at e; subst e; exact ⟨_, rfl, r⟩
  | _, _, .cons r t, j + 1, u, e => PySem.Paired.get1 t (j := j) (by simpa using e)
theorem _root_.PySem.Paired.len {β γ : Type} {R : β → γ → Prop} : ∀ {xs : List β} {us : List γ}, Paired R xs us → xs.length = us.length
  | _, _, .nil => rfl
  | _, _, .cons r t => by simp [PySem.Paired.len t]
theorem _root_.PySem.Paired.app {β γ : Type} {R : β → γ → Prop} : ∀ {xs ys : List β} {us vs : List γ}, Paired R xs us → Paired R ys vs → Paired R (xs ++ ys) (us ++ vs)
  | _, _, _, _, .nil, s => s
  | _, _, _, _, .cons r t, s => .cons r (PySem.Paired.app t s)
theorem range_all_eq {xs ys : List α} {n : Nat} (h1 : xs.length = n) (h2 : ys.length = n) : ((List.range n).all fun j => decide (xs[j]? = ys[j]?)) = decide (xs = ys) := by
  rw [Bool.eq_iff_iff, List.all_eq_true, decide_eq_true_eq]
  constructor
  · intro h
    apply List.ext_getElem?
    intro i
    by_cases hi : i < n
    · exact of_decide_eq_true (h i (List.mem_range.mpr hi))
    · rw [List.getElem?_eq_none (by omega), List.getElem?_eq_none (by omega)]
  · intro h i _
    rw [h]
    exact decide_eq_true rfl
theorem listRc {c : Cod α} {a b : Addr} {us vs : List V} {xs ys : List α} (ha : SqL K H a us) (hb : SqL K H b vs) (px : Paired (c.rp K H) xs us) (py : Paired (c.rp K H) ys vs) :
    RcIs K (c.n + 1) H (.ref a) (.ref b) (decide (xs = ys)) ∧ NeIs K (c.n + 1) H (.ref a) (.ref b) (decide (xs = ys)) := by
  have main : ∀ (P : Program) (w : World) (A : Around) (s : Shared) (u v : Value), A.units + (c.n + 1) < cLine → HOk P w H s.heap → K.In s.heap → RelV (.ref a) u → RelV (.ref b) v →
      SeqAt.RcAt A s u v (decide (xs = ys)) ∧ SeqAt.RcNeAt A s u v (!decide (xs = ys)) := by
    intro P w A s u v hA hok kin r1 r2
    cases r1
    cases r2
    obtain ⟨i1, v1, p1, _⟩ := sqL_raw hok kin ha
    obtain ⟨i2, v2, p2, _⟩ := sqL_raw hok kin hb
    have l1 := v1.length
    have l2 := v2.length
    have m1 := px.len
    have m2 := py.len
    by_cases hl : i1.length = i2.length
    · have items : ∀ j (h1 : j < i1.toArray.size) (h2 : j < i2.toArray.size), SeqAt.EqAt A.in1 s i1.toArray[j] i2.toArray[j] (decide (xs[j]? = ys[j]?)) := fun j h1 h2 => by
        have h1' : j < i1.length := by simpa using h1
        have h2' : j < i2.length := by simpa using h2
        have e1 : us[j]? = some us[j] := List.getElem?_eq_getElem (by omega)
        have e2 : vs[j]? = some vs[j] := List.getElem?_eq_getElem (by omega)
        obtain ⟨u, eu, ru⟩ := v1.get e1
        obtain ⟨v, ev, rv⟩ := v2.get e2
        obtain ⟨x, ex, rx⟩ := px.get e1
        obtain ⟨y, ey, ry⟩ := py.get e2
        have q := c.eq rx ry P w A.in1 s u v (by show A.units + 1 + c.n < cLine; omega) hok kin ru rv
        have z1 : i1.toArray[j] = u := by
          rw [List.getElem?_eq_getElem h1'] at eu
          simpa using Option.some.inj eu
        have z2 : i2.toArray[j] = v := by
          rw [List.getElem?_eq_getElem h2'] at ev
          simpa using Option.some.inj ev
        rw [z1, z2, ex, ey]
        have e : decide ((some x : Option α) = some y) = decide (x = y) := decide_eq_decide.mpr ⟨fun z => Option.some.inj z, fun z => by rw [z]⟩
        rw [e]
        exact q
      have ez : (List.range i1.toArray.size).all (fun j => decide (xs[j]? = ys[j]?)) = decide (xs = ys) := range_all_eq (by rw [List.size_toArray]; omega) (by rw [List.size_toArray]; omega)
      constructor
      · have q := SeqAt.RcAt.lists (A := A) (s := s) p1.isList p2.isList (by simpa using hl) (by omega) items
        rw [ez] at q
        exact q
      · have q := SeqAt.RcNeAt.lists (A := A) (s := s) p1.isList p2.isList (by simpa using hl) (by omega) items
        rw [ez] at q
        exact q
    · have hsz : (i1.toArray.size != i2.toArray.size) = true := by simpa using hl
      have e : decide (xs = ys) = false := decide_eq_false fun z => hl (by rw [← l1, ← l2, ← m1, ← m2, z])
      rw [e]
      exact ⟨SeqAt.RcAt.lists_lengths p1.isList p2.isList hsz (by omega), SeqAt.RcNeAt.lists_lengths p1.isList p2.isList hsz (by omega)⟩
  exact ⟨fun P w A s u v h1 h2 h3 h4 h5 => (main P w A s u v h1 h2 h3 h4 h5).1, fun P w A s u v h1 h2 h3 h4 h5 => (main P w A s u v h1 h2 h3 h4 h5).2⟩
end
section
variable {X : Cx} {α : Type} [DecidableEq α]
theorem hun {c : Nat} {k : Nat} {A : Around} (hr : Room k A) (h : c ≤ 60 := by decide) : A.units + c + 1 < cLine := by
  have := hr.units
  omega
theorem op_eqC (c : Cod α) (hu : X.A.units + c.n + 1 < cLine) : OpR X (compareOp .Eq) (fun x y H Q => ∃ a b, c.rp X.K H a x ∧ c.rp X.K H b y ∧ Q (.bl (decide (a = b))) H) := by
  intro pins s σ H x y v u Q I rx ry h
  obtain ⟨a, b, ha, hb, q⟩ := h
  exact c.rc ha hb X.prog X.w X.A s v u (by omega) I.hok I.kIn rx ry X.prog X.w X.xe _ ⟨.bl _, H, I, rfl, q⟩
theorem op_neC (c : Cod α) (hu : X.A.units + c.n + 1 < cLine) : OpR X (compareOp .NotEq) (fun x y H Q => ∃ a b, c.rp X.K H a x ∧ c.rp X.K H b y ∧ Q (.bl (!decide (a = b))) H) := by
  intro pins s σ H x y v u Q I rx ry h
  obtain ⟨a, b, ha, hb, q⟩ := h
  exact c.ne ha hb X.prog X.w X.A s v u (by omega) I.hok I.kIn rx ry X.prog X.w X.xe _ ⟨.bl _, H, I, rfl, q⟩
/-- a list of such data -/
def LsOf (c : Cod α) (K : PySem.W.Frag) (H : Hp) (xs : List α) (v : V) : Prop := ∃ a us, v = .ref a ∧ SqL K H a us ∧ Paired (c.rp K H) xs us
theorem op_eqL (c : Cod α) (hu : X.A.units + c.n + 1 < cLine) : OpR X (compareOp .Eq) (fun x y H Q => ∃ xs ys, LsOf c X.K H xs x ∧ LsOf c X.K H ys y ∧ Q (.bl (decide (xs = ys))) H) := by
  intro pins s σ H x y v u Q I rx ry h
  obtain ⟨xs, ys, ⟨a, us, rfl, ha, px⟩, ⟨b, vs, rfl, hb, py⟩, q⟩ := h
  exact (listRc ha hb px py).1 X.prog X.w X.A s v u (by omega) I.hok I.kIn rx ry X.prog X.w X.xe _ ⟨.bl _, H, I, rfl, q⟩
noncomputable def eqR (c : Cod α) (K : PySem.W.Frag) (H : Hp) (a : α) (u : Value) : Bool := @decide (∃ v, RelV v u ∧ c.rp K H a v) (Classical.propDecidable _)
theorem eqR_of {c : Cod α} {P : Program} {w : World} {K : PySem.W.Frag} {H : Hp} {h : Heap} {a z : α} {v : V} {u : Value} (hok : HOk P w H h) (kin : K.In h) (r : RelV v u) (q : c.rp K H z v) : eqR c K H a u = decide (z = a) := by
  unfold eqR
  by_cases e : z = a
  · subst e
    rw [decide_eq_true (show z = z from rfl)]
    exact @decide_eq_true _ (Classical.propDecidable _) ⟨v, r, q⟩
  · rw [decide_eq_false e]
    refine @decide_eq_false _ (Classical.propDecidable _) fun ⟨v', r', q'⟩ => e ?_
    have := r.inj r'
    subst this
    exact c.inj hok kin q q'
theorem any_eqR {c : Cod α} {P : Program} {w : World} {K : PySem.W.Frag} {H : Hp} {h : Heap} {a : α} (hok : HOk P w H h) (kin : K.In h) : ∀ {xs : List α} {us : List V} {its : List Value}, Paired (c.rp K H) xs us → Vals us its → its.any (eqR c K H a) = decide (a ∈ xs)
  | _, _, _, .nil, .nil => by simp
  | x :: xs, _, _, .cons p t, .cons r s => by
    rw [List.any_cons, eqR_of hok kin r p, any_eqR hok kin t s, Bool.eq_iff_iff]
    simp only [Bool.or_eq_true, decide_eq_true_eq, List.mem_cons]
    exact ⟨fun z => z.elim (fun e => .inl e.symm) .inr, fun z => z.elim (fun e => .inl e.symm) .inr⟩
theorem mem_eqR {c : Cod α} {P : Program} {w : World} {A : Around} {s : Shared} {K : PySem.W.Frag} {H : Hp} {a : α} {x : V} {v : Value} (hok : HOk P w H s.heap) (kin : K.In s.heap) (hA : A.units + c.n < cLine) (rx : RelV x v) (qx : c.rp K H a x) :
    ∀ {xs : List α} {us : List V} {its : List Value}, Paired (c.rp K H) xs us → Vals us its → ∀ u ∈ its, SeqAt.EqAt A s u v (eqR c K H a u)
  | _, _, _, .nil, .nil => fun u hu => by cases hu
  | _, _, _, .cons p t, .cons r q => fun u' hu => by
    rcases List.mem_cons.mp hu with rfl | hu
    · rw [eqR_of hok kin r p]
      exact c.eq p qx P w A s _ v hA hok kin r rx
    · exact mem_eqR hok kin hA rx qx t q u' hu
def rInC (c : Cod α) (K : PySem.W.Frag) : R2 := fun x y H Q => ∃ a p us xs, c.rp K H a x ∧ y = .ref p ∧ (SqL K H p us ∨ SqT K H p us) ∧ Paired (c.rp K H) xs us ∧ Q (.bl (decide (a ∈ xs))) H
def rNinC (c : Cod α) (K : PySem.W.Frag) : R2 := fun x y H Q => ∃ a p us xs, c.rp K H a x ∧ y = .ref p ∧ (SqL K H p us ∨ SqT K H p us) ∧ Paired (c.rp K H) xs us ∧ Q (.bl (!decide (a ∈ xs))) H
theorem op_inC (c : Cod α) (hu : X.A.units + c.n + 1 < cLine) : OpR X (compareOp .In) (rInC c X.K) := by
  intro pins s σ H x y v u Q I rx ry h
  obtain ⟨a, p, us, xs, ha, rfl, hq, px, q⟩ := h
  cases ry
  rcases hq with hq | hq
  · obtain ⟨its, r, pl, hz⟩ := I.list hq
    refine SeqAt.in_listAt (eqR c X.K H a) pl.isList (fun w hw => mem_eqR I.hok I.kIn (by show X.A.units + 1 + c.n < cLine; omega) rx ha px r w (by simpa using hw)) ⟨.bl _, H, I, rfl, ?_⟩
    rw [show its.toArray.any (eqR c X.K H a) = its.any (eqR c X.K H a) by simp, any_eqR I.hok I.kIn px r]
    exact q
  · obtain ⟨its, r, pl, hz⟩ := I.tuple hq
    refine SeqAt.in_tupleAt (eqR c X.K H a) pl (fun w hw => mem_eqR I.hok I.kIn (by show X.A.units + 1 + c.n < cLine; omega) rx ha px r w (by simpa using hw)) ⟨.bl _, H, I, rfl, ?_⟩
    rw [show its.toArray.any (eqR c X.K H a) = its.any (eqR c X.K H a) by simp, any_eqR I.hok I.kIn px r]
    exact q
theorem op_notinC (c : Cod α) (hu : X.A.units + c.n + 1 < cLine) : OpR X (compareOp .NotIn) (rNinC c X.K) := by
  intro pins s σ H x y v u Q I rx ry h
  obtain ⟨a, p, us, xs, ha, rfl, hq, px, q⟩ := h
  cases ry
  rcases hq with hq | hq
  · obtain ⟨its, r, pl, hz⟩ := I.list hq
    refine SeqAt.notIn_listAt (eqR c X.K H a) pl.isList (fun w hw => mem_eqR I.hok I.kIn (by show X.A.units + 1 + c.n < cLine; omega) rx ha px r w (by simpa using hw)) ⟨.bl _, H, I, rfl, ?_⟩
    rw [show its.toArray.any (eqR c X.K H a) = its.any (eqR c X.K H a) by simp, any_eqR I.hok I.kIn px r]
    exact q
  · obtain ⟨its, r, pl, hz⟩ := I.tuple hq
    refine SeqAt.notIn_tupleAt (eqR c X.K H a) pl (fun w hw => mem_eqR I.hok I.kIn (by show X.A.units + 1 + c.n < cLine; omega) rx ha px r w (by simpa using hw)) ⟨.bl _, H, I, rfl, ?_⟩
    rw [show its.toArray.any (eqR c X.K H a) = its.any (eqR c X.K H a) by simp, any_eqR I.hok I.kIn px r]
    exact q
end
end L2

/-! a list made by walking, with several names told at each turn -/
namespace L2
open PySem PySem.Spec PyProof.Rows
structure BlkS (N : List Str) (sc scope : Scope) (mm : Nat) (N' : List Str) (fv : List Nat) : Prop where
  nocell : ∀ y ∈ scope.names, y.2 ≠ .cell
  kind : scope.kind = .function
  names : ∀ y ∈ scope.names, y.2 = .local → scope.names.lookup y.1 = some .local
  free : ∀ y ∈ scope.names, y.2 = .free → sc.names.lookup y.1 = some .cell ∨ sc.names.lookup y.1 = some .free
  nd : N'.Nodup
  len : N'.length = fv.length + mm
  at_ : ∀ j, j < fv.length → (N'[j + mm]?).isSome = true ∧ N'[j + mm]? = (fv[j]?).bind (fun i => N[i]?) ∧ (N'[j + mm]?).bind (fun y => scope.names.lookup y) = some .free
def bv (mm : Nat) (fv : List Nat) (σ : St) : St := List.replicate mm none ++ blkVals fv σ
def Ext (σ σ' : St) : Prop := σ.length = σ'.length ∧ ∀ (j : Nat) v, σ[j]? = some (some v) → σ'[j]? = some (some v)
section
variable {prog : Program} {w : World} {A : Around} {R : Result → Shared → Prop} {s : Shared}
theorem codeAny_compLoop_testsT {elt target iter : Expr} {ifs : List Expr} {scope : Scope} {pos : Pos} {it acc : Value} {env : Env} (I : Nat → Shared → Prop)
    (turn : ∀ n s, I n s → wpAny (model prog w) A (pyNext it) (fun r s₁ => match r with
      | none => R (.ok .next) s₁
      | some v => wpAny (model prog w) A (letOwnedTupleGo target it v) (fun _ s₁' => wpAny (model prog w) A (assign target env v) (fun _ s₂ =>
          wpAny (model prog w) A (forIn ifs true fun c r => if r = true then do let ok ← isTrue c env (eval c env); pure (ForInStep.yield ok) else pure (ForInStep.yield r)) (fun ok s₃ =>
            if ok = true then wpAny (model prog w) A (eval elt env) (fun x s₄ =>
              wpAny (model prog w) A (call (.builtin "list.append") [acc, x]) (fun _ s₅ => ∃ m, m < n ∧ I m s₅) (notedBy (model prog w) A env fun e s' => R (.error e) s') s₄) (notedBy (model prog w) A env fun e s' => R (.error e) s') s₃
            else ∃ m, m < n ∧ I m s₃) (notedBy (model prog w) A env fun e s' => R (.error e) s') s₂) (notedBy (model prog w) A env fun e s' => R (.error e) s') s₁') (notedBy (model prog w) A env fun e s' => R (.error e) s') s₁) (notedBy (model prog w) A env fun e s' => R (.error e) s') s)
    (n : Nat) (h : I n s) :
    codeAny (model prog w) A (.compLoop (.ListComp elt [⟨target, iter, ifs, 0⟩] scope pos) 0 it acc env) R s := by
  refine codeAny_loop rfl I (fun n s hI => ?_) n h
  show wpAny _ A ((compTurn (.ListComp elt [⟨target, iter, ifs, 0⟩] scope pos) 0 it acc env).onRaise (fun x => do noteFrame x env; theTreesLotGoes x)) _ _ s
  refine wpAny_noted ?_
  rw [compTurn_list]
  refine wpAny_bind (wpAny_standAt (wpAny_bind (wpAny_mono (turn n s hI) (fun r s₁ h₁ => ?_) fun _ _ h' => h')))
  cases r with
  | none => exact wpAny_pure h₁
  | some v =>
    refine wpAny_bind (wpAny_mono h₁ (fun _ s₁' h₁' => ?_) fun _ _ h' => h')
    refine wpAny_bind (wpAny_mono h₁' (fun _ s₂ h₂ => wpAny_bind (wpAny_mono h₂ (fun ok s₃ h₃ => ?_) fun _ _ h' => h')) fun _ _ h' => h')
    cases ok with
    | false => exact wpAny_pure ⟨rfl, h₃⟩
    | true =>
      exact wpAny_bind (wpAny_bind (wpAny_mono h₃ (fun x s₄ h₄ => wpAny_bind (wpAny_mono h₄ (fun _ s₅ h₅ => wpAny_pure (wpAny_pure ⟨rfl, h₅⟩)) fun _ _ h' => h')) fun _ _ h' => h'))
end
section
variable {X : Cx} {N' : List Str} {scope : Scope} {mm : Nat} {fv : List Nat}
theorem blk_invM {pins : List (Addr × Obj)} {σ : St} {H : Hp} {s : Shared} {fp : List Addr} {C : Addr} {h1 : Heap} {m : Str → Option Value} {tk : Nat} {pl : List (Addr × Obj)} (S : BlkS X.N X.env.scope scope mm N' fv) (I : Inv X pins σ H s)
    (hf : ∀ b ∈ fp, FpOk X pins H b) (hfo : ∀ b ∈ fp, b < s.heap.objs.size) (hC : s.heap.objs.size ≤ C) (kp : ∀ b o, s.heap.get? b = some o → h1.get? b = some o) (hn : h1.Ns C m)
    (hpl : ∀ p ∈ pl, h1.get? p.1 = some p.2 ∧ s.heap.objs.size ≤ p.1 ∧ p.1 ≠ C ∧ ∀ v, p.2.data ≠ .cell v) :
    Inv (X.blk N' scope C fp s H) pl (bv mm fv σ) H { s with heap := h1, toks := tk } := by
  have clo : ∀ y c, (cloOf X.env scope.names []).lookup y = some c → X.env.cells.lookup y = some c := fun y c e => cloOf_lookup_sub e
  have cell : ∀ y c, (cloOf X.env scope.names []).lookup y = some c → ∃ v, s.heap.IsCell c v := fun y c e => I.cell y c (clo y c e)
  have lt : ∀ y c, (cloOf X.env scope.names []).lookup y = some c → c < s.heap.objs.size := fun y c e => by obtain ⟨v, q⟩ := cell y c e; exact q.lt
  have kc : ∀ c v, s.heap.IsCell c v → h1.IsCell c v := fun c v q => by obtain ⟨o, e, d⟩ := q; exact ⟨o, kp _ _ e, d⟩
  refine ⟨⟨I.ok.mod, S.kind, I.ok.glob, I.ok.blt, hC, fun y z c e1 e2 => I.ok.inj y z c (clo y c e1) (clo z c e2), fun y hy => ?_, fun y c e => ?_, I.ok.hd, I.ok.frames, .inl rfl, fun b hb => ⟨?_, fun y c e z => (hf b hb).2.2.2.2.1 y c (clo y c e) z⟩, fun b o e => I.bs b o e, Nat.le_trans I.ok.bsz I.sz, fun b o e hb => ?_, fun b hb hb2 => ?_, I.stack, I.stkFree⟩,
    rfl, I.bare, Un.kept kp, ⟨m, hn, fun i y v h1' h2 h3 => ?_⟩, fun y c e => ?_, I.hok.fresh hC, fun y c e => I.freeC y c (clo y c e), fun p hp => ?_, I.hok.kept kp, ?_⟩
  · have hy' : ∃ k, scope.names.lookup y = some k ∧ k = .free := by
      rcases hy with hy | hy
      · obtain ⟨k', e1, e2⟩ := relabel_free (env := X.env) (names := scope.names) (x := y) (k := .cell) hy
        rcases e2 with e2 | e2
        · exact absurd e2 (S.nocell _ (PySem.mem_of_lookup e1))
        · exact ⟨k', e1, e2⟩
      · obtain ⟨k', e1, e2⟩ := relabel_free (env := X.env) (names := scope.names) (x := y) (k := .free) hy
        rcases e2 with e2 | e2
        · exact ⟨k', e1, e2⟩
        · exact ⟨k', e1, e2⟩
    obtain ⟨k, e, rfl⟩ := hy'
    have hm := PySem.mem_of_lookup e
    obtain ⟨c, hc⟩ := I.ok.has y (S.free _ hm rfl)
    exact ⟨c, cloOf_lookup hm hc⟩
  · exact (Bool.false_ne_true (show false = true from e)).elim
  · exact Nat.ne_of_lt (Nat.lt_of_lt_of_le (hfo b hb) hC)
  · have e' := e
    rcases (hf b hb).2.2.2.1 with z | z
    · exact I.ok.noex b o e z
    · exact absurd (Nat.lt_of_lt_of_le (Heap.lt_size e) (Nat.le_trans I.ok.bsz z)) (Nat.lt_irrefl _)
  · have q := I.stkSub b hb2
    rcases List.mem_cons.mp q with z | z
    · exact (hf b hb).2.1 z
    · exact (hf b hb).2.2.1 z
  · by_cases hi : i < mm
    · have z : (bv mm fv σ)[i]? = some none := by
        unfold bv
        rw [List.getElem?_append_left (by simpa using hi)]
        simp [hi]
      rw [z] at h2
      cases (Option.some.inj h2)
    · obtain ⟨j, rfl⟩ : ∃ j, i = j + mm := ⟨i - mm, by omega⟩
      have h2' : (blkVals fv σ)[j]? = some (some v) := by
        have z : (bv mm fv σ)[j + mm]? = (blkVals fv σ)[j]? := by
          unfold bv
          rw [List.getElem?_append_right (by simp)]
          simp
        rw [← z]
        exact h2
      unfold blkVals at h2'
      rw [List.getElem?_map] at h2'
      cases ej : fv[j]? with
      | none => rw [ej] at h2'; cases h2'
      | some k =>
        rw [ej] at h2'
        have h4 : (σ[k]?).join = some v := Option.some.inj h2'
        have h5 : σ[k]? = some (some v) := by
          cases es : σ[k]? with
          | none => rw [es] at h4; cases h4
          | some w' => rw [es] at h4; rw [show w' = some v from h4]
        have hj : j < fv.length := (List.getElem?_eq_some_iff.mp ej).1
        obtain ⟨_, a1, a2⟩ := S.at_ j hj
        have h1'' : N'[j + mm]? = some y := h1'
        rw [h1''] at a1 a2
        rw [ej] at a1
        have a3 : X.N[k]? = some y := a1.symm
        have a4 : scope.names.lookup y = some .free := a2
        have hm := PySem.mem_of_lookup a4
        have kd : X.env.kindOf y = some .cell ∨ X.env.kindOf y = some .free := S.free _ hm rfl
        obtain ⟨mX, _, hlX⟩ := I.loc
        obtain ⟨u, ru, lk⟩ := hlX k y v a3 h5 (kd.elim (fun z => .inr (.inl z)) fun z => .inr (.inr z))
        refine ⟨u, ru, .inr ?_⟩
        rcases lk with ⟨z, _⟩ | ⟨_, c, hc, hcell⟩
        · rcases kd with z' | z' <;> rw [z'] at z <;> cases z
        · exact ⟨relabel_of_free (env := X.env) a4, c, cloOf_lookup hm hc, kc _ _ hcell⟩
  · obtain ⟨v, q⟩ := cell y c e
    exact ⟨v, kc _ _ q⟩
  · have hp' : p ∈ pl := hp
    obtain ⟨e, l1, l2, d⟩ := hpl p hp'
    exact ⟨e, I.hok.fresh l1, l2, fun z => absurd (I.stkSub _ z) (fun q => by
      rcases List.mem_cons.mp q with q | q
      · exact absurd I.lt (by rw [← q]; exact Nat.not_lt.mpr l1)
      · exact I.nofs l1 q), d⟩
  · show (bv mm fv σ).length = N'.length
    rw [S.len]
    unfold bv blkVals
    simp
    omega
end
set_option maxHeartbeats 1600000 in
theorem lc_coreM {X : Cx} {elt iter : Expr} {tg : Expr} {mm : Nat} {g : TG} {ifs : List Expr} {scope : Scope} {pos : Pos} {N' : List Str} {fv : List Nat} {tt : TT} {te : TE} {pins : List (Addr × Obj)} {σ : St} {s2 : Shared} {H2 : Hp} {it : Addr} {fp : List Addr} {tn : Nat → Heap → Prop} {J : It}
    {RR : Value → Addr → Result → Shared → Prop} {Fin : List V → Hp → Prop} {E : Value → Shared → Prop} {W : Nat → List V → Hp → Prop} {n : Nat}
    (S : BlkS X.N X.env.scope scope mm N' fv) (hg : ∀ C fp s H, PG (X.blk N' scope C fp s H) tg g) (hc : X.calm = true)
    (ht : ∀ C fp s H, PTs (X.blk N' scope C fp s H) ifs tt) (he : ∀ C fp s H, PE (X.blk N' scope C fp s H) elt te)
    (I2 : Inv X pins σ H2 s2) (T : Turn X.prog X.w X.K tg J fp it tn) (st2 : tn 0 s2.heap) (f2 : ∀ b ∈ fp, FpOk X pins H2 b) (w0 : W 0 [] H2) (hn : n ≤ sizeLine)
    (turn : ∀ i ys H, W i ys H → (J.stop i H ∧ Fin ys H) ∨ (J.go i H ∧ i < n ∧ ∀ x H', J.yld i H x H' → g x (bv mm fv σ) H' fun σ' H'' => Ext (bv mm fv σ) σ' ∧ tt σ' H'' fun c H2 => if c = true then te σ' H2 fun y H3 => W (i + 1) (ys ++ [y]) H3 else W (i + 1) ys H2))
    (fin : ∀ (D C : Addr) (ys : List V) (H4 : Hp) (s5 : Shared) (m5 : Str → Option Value), Inv X pins σ (upd H4 D (.lst ys)) s5 → s5.heap.Ns C m5 → C ≠ D → H4 D = none → H4 C = none → C ≠ X.env.locals → X.s₀.heap.objs.size ≤ C → (∀ y c, X.env.cells.lookup y = some c → c ≠ C) → (∀ p ∈ X.pn ++ pins, p.1 ≠ C) → Fin ys H4 → RR (.ref D) C (.ok .next) s5) :
    wpAny (model X.prog X.w) X.A (newList []) (fun acc s₃ => wpAny (model X.prog X.w) X.A (newFunctionEnv scope X.env.globals (cloOf X.env scope.names []) [] X.env.qual none .none (some X.env)) (fun cenv s₄ =>
      codeAny (model X.prog X.w) X.A (.compStart (.ListComp elt [⟨tg, iter, ifs, 0⟩] scope pos) 0 (.ref it) acc { cenv with scope := relabel scope X.env }) (RR acc cenv.locals) s₄) E s₃) E s2 := by
  refine wpAny_newObj_type (wpAny_newFunctionEnv S.nocell (by intro y hy; simp at hy) (fun h1 hns hsb => ?_) S.kind)
  dsimp only at hns hsb ⊢
  generalize hH : s2.heap.push { cls := .type "list", dict := none, data := .seq ([] : List Value).toArray } = G at hns hsb ⊢
  have hG : G.objs.size = s2.heap.objs.size + 1 := by rw [← hH, Heap.size_push]
  have kpG : ∀ b o, s2.heap.get? b = some o → G.get? b = some o := fun b o e => hH ▸ Heap.get?_push_of_some _ e
  have kp1 : ∀ b o, b < G.objs.size → G.get? b = some o → h1.get? b = some o := fun b o lt e => hsb.extBut b o (Nat.ne_of_lt lt) (Heap.get?_push_of_some _ e)
  have kp : ∀ b o, s2.heap.get? b = some o → h1.get? b = some o := fun b o e => kp1 b o (by rw [hG]; exact Nat.lt_succ_of_lt (Heap.lt_size e)) (kpG b o e)
  have hD : h1.PlainList s2.heap.objs.size #[] := ⟨_, kp1 _ _ (by rw [hG]; exact Nat.lt_succ_self _) (hH ▸ Heap.get?_push_size _ rfl)⟩
  have hDC : s2.heap.objs.size ≠ G.objs.size := by rw [hG]; exact Nat.ne_of_lt (Nat.lt_succ_self _)
  have hC : s2.heap.objs.size ≤ G.objs.size := by rw [hG]; exact Nat.le_succ _
  have hfo : ∀ b ∈ fp, b < s2.heap.objs.size := fun b hb => by obtain ⟨o, e, _⟩ := T.obj 0 _ st2 b hb; exact Heap.lt_size e
  -- what is true of the iterator's records in the block
  have stat : ∀ {H' : Hp} {pl : List (Addr × Obj)}, (∀ b ∈ fp, H' b = none) → (∀ p ∈ pl, p.1 ∉ fp) → ∀ b ∈ fp, FpOk (X.blk N' scope G.objs.size fp s2 H2) pl H' b := fun {H' pl} hn hpl b hb => by
    obtain ⟨_, g1, g2, g3, g4, g5⟩ := f2 b hb
    refine ⟨hn b hb, Nat.ne_of_lt (Nat.lt_of_lt_of_le (hfo b hb) hC), fun z => ?_, .inl hb, fun y c e => g4 y c (cloOf_lookup_sub e), fun p hp e => ?_⟩
    · rcases List.mem_cons.mp (I2.stkSub b z) with q | q
      · exact g1 q
      · exact g2 q
    · exact hpl p hp (e ▸ hb)
  have hDf : s2.heap.objs.size ∉ fp := fun z => absurd (hfo _ z) (Nat.lt_irrefl _)
  have hcl : ∀ y c, (X.blk N' scope G.objs.size fp s2 H2).env.cells.lookup y = some c → c ≠ s2.heap.objs.size := fun y c e z => by
    obtain ⟨v, q⟩ := I2.cell y c (cloOf_lookup_sub e)
    exact absurd q.lt (by rw [z]; exact Nat.lt_irrefl _)
  have pin1 : ∀ {s' : Shared} {H' : Hp} {ob : Obj} {i : Nat} {ys : List V}, Inv (X.blk N' scope G.objs.size fp s2 H2) [] (bv mm fv σ) H' s' → s'.heap.get? s2.heap.objs.size = some ob → (∀ v, ob.data ≠ .cell v) → H' s2.heap.objs.size = none →
      Inv (X.blk N' scope G.objs.size fp s2 H2) [(s2.heap.objs.size, ob)] (bv mm fv σ) H' s' := fun {s' H' ob i ys} J1 e d f => J1.pins_of fun p hp => by
    have z : p = (s2.heap.objs.size, ob) := by simpa using hp
    subst z
    refine ⟨e, f, hDC, fun z => ?_, d⟩
    rcases List.mem_cons.mp (I2.stkSub _ z) with q | q
    · exact absurd I2.lt (by rw [← q]; exact Nat.lt_irrefl _)
    · exact I2.nofs (Nat.le_refl _) q
  have loop : ∀ s3 : Shared, s3 = { s2 with heap := h1, toks := s2.toks + ([] : List (Str × Value)).length } →
      codeAny (model X.prog X.w) X.A (.compLoop (.ListComp elt [⟨tg, iter, ifs, 0⟩] scope pos) 0 (.ref it) (.ref s2.heap.objs.size) (X.blk N' scope G.objs.size fp s2 H2).env)
        (RR (.ref s2.heap.objs.size) G.objs.size) s3 := by
    rintro s3 rfl
    refine codeAny_compLoop_testsT (fun k s' => ∃ i ys H' its, k = n + 1 - i ∧ i ≤ n ∧ ys.length ≤ i ∧ Vals ys its ∧ s'.heap.PlainList s2.heap.objs.size its.toArray ∧
      Inv (X.blk N' scope G.objs.size fp s2 H2) [] (bv mm fv σ) H' s' ∧ H' s2.heap.objs.size = none ∧ tn i s'.heap ∧ (∀ b ∈ fp, H' b = none) ∧ W i ys H') ?_ (n + 1)
      ⟨0, [], H2, [], rfl, Nat.zero_le _, Nat.le_refl _, .nil, hD, blk_invM S I2 f2 hfo hC kp hns (fun p hp => nomatch hp), I2.hok.fresh (Nat.le_refl _), T.keep _ _ _ st2 fun b _ o e => kp b o e, fun b hb => (f2 b hb).1, w0⟩
    rintro k s4 ⟨i, ys, H4, its, rfl, hin, hyi, rv, pl4, I4, fD4, st4, ff4, w4⟩
    obtain ⟨cnt, eD⟩ := id pl4
    have I4p := pin1 (i := i) (ys := ys) I4 eD (fun v z => by cases z) fD4
    have np : ∀ p ∈ [(s2.heap.objs.size, ({ cls := .type "list", data := .seq its.toArray cnt } : Obj))], p.1 ∉ fp := fun p hp => by
      have z : p = (s2.heap.objs.size, ({ cls := .type "list", data := .seq its.toArray cnt } : Obj)) := by simpa using hp
      subst z; exact hDf
    rcases turn i ys H4 w4 with ⟨stop, fn⟩ | ⟨go, hi2, step⟩
    · refine wpAny_mono (T.done (X.blk N' scope G.objs.size fp s2 H2) rfl rfl rfl hc i _ s4 _ H4 _ I4p (stat ff4 np) st4 stop) (fun r s5 ⟨hr, I5⟩ => ?_) fun _ _ e => e
      subst hr
      obtain ⟨m5, hm5, _⟩ := I5.loc
      have eD5 : s5.heap.get? s2.heap.objs.size = some { cls := .type "list", data := .seq its.toArray cnt } := (I5.pin _ (List.mem_append_right _ List.mem_cons_self)).1
      have fD2 : H2 s2.heap.objs.size = none := I2.hok.fresh (Nat.le_refl _)
      have ltD : ∀ {b : Addr} {o : Obj}, s2.heap.get? b = some o → b ≠ s2.heap.objs.size := fun {b o} e => Nat.ne_of_lt (Heap.lt_size e)
      have B := I5.base
      have fC : H4 G.objs.size = none := I5.free
      have I5X : Inv X pins σ (upd H4 s2.heap.objs.size (.lst ys)) s5 := by
        refine I2.call' (s' := s5) (ch := fp) I5.os ⟨fun b o e nb hb hx => B.keep b o e nb hb hx, fun b o e nb hb hx => B.slot b o e nb hb hx, fun b o e nb hx => ?_, fun b o e hx => B.there b o e hx, fun b xs e => ?_, fun b o u e => ?_, fun b ps e => ?_⟩ ?_ I5.bare fun b hb => ?_
        · rw [upd_ne (ltD e)]; exact B.free b o e nb hx
        · have e' : H2 b = some (.tup xs) := e
          rw [upd_ne (ne_of_none e' fD2)]; exact B.tups b xs e
        · have e' : H2 b = some (.frz o u) := e
          rw [upd_ne (ne_of_none e' fD2)]; exact B.frzs b o u e
        · have e' : H2 b = some (.tbl ps) := e
          rw [upd_ne (ne_of_none e' fD2)]; exact B.tbls b ps e
        · intro b u e
          by_cases hb : b = s2.heap.objs.size
          · subst hb
            rw [upd_same] at e
            cases e
            exact ⟨Nat.le_trans hyi (Nat.le_trans hin hn), its, cnt, rv, eD5⟩
          · rw [upd_ne hb] at e
            exact (I5.hok b u e).stay (fun c v hc' q => q) (fun c q => by rw [upd_ne (ne_of_none q fD4)]; exact q) fun c xs q => by rw [upd_ne (ne_of_none q fD4)]; exact q
        · obtain ⟨_, g1, g2, g3, g4, g5⟩ := f2 b hb
          exact ⟨g3, g1, g4, g5⟩
      refine fin s2.heap.objs.size G.objs.size ys H4 s5 m5 I5X hm5 hDC.symm fD4 fC (Nat.ne_of_gt (Nat.lt_of_lt_of_le I2.lt hC)) (Nat.le_trans I2.sz hC) (fun y c e z => ?_) (fun p hp z => ?_) fn
      · obtain ⟨v, q⟩ := I2.cell y c e
        exact absurd (Nat.lt_of_lt_of_le q.lt hC) (by rw [z]; exact Nat.lt_irrefl _)
      · exact absurd (Nat.lt_of_lt_of_le (Heap.lt_size (I2.pin p hp).1) hC) (by rw [z]; exact Nat.lt_irrefl _)
    · refine wpAny_mono (T.item (X.blk N' scope G.objs.size fp s2 H2) rfl rfl rfl hc i _ s4 _ H4 _ I4p (stat ff4 np) st4 go) (fun r s5 ⟨u, hr, h5⟩ => ?_) fun _ _ e => e
      subst hr
      refine wpAny_mono h5 (fun _ s6 ⟨xv, H6, I6, r6, y6, st6, ff6⟩ => ?_) fun _ _ e => e
      have I6' := I6.pinned (stat ff6 np) (T.obj _ _ st6)
      have out : ∀ {σ' : St} {H' : Hp} {s' : Shared}, Inv (X.blk N' scope G.objs.size fp s2 H2) ([(s2.heap.objs.size, ({ cls := .type "list", data := .seq its.toArray cnt } : Obj))] ++ pinsAt fp s6.heap) σ' H' s' →
          s'.heap.PlainList s2.heap.objs.size its.toArray ∧ H' s2.heap.objs.size = none ∧ (∀ b ∈ fp, H' b = none) ∧ (∀ b ∈ fp, ∀ o, s6.heap.get? b = some o → s'.heap.get? b = some o) := fun {σ' H' s'} J1 => by
        have q := J1.pin (s2.heap.objs.size, ({ cls := .type "list", data := .seq its.toArray cnt } : Obj)) (List.mem_append_right _ (List.mem_append_left _ List.mem_cons_self))
        refine ⟨⟨cnt, q.1⟩, q.2.1, fun b hb => ?_, fun b hb o e => (J1.pin (b, o) (List.mem_append_right _ (List.mem_append_right _ (mem_pinsAt hb e)))).1⟩
        obtain ⟨o, e, d⟩ := T.obj _ _ st6 b hb
        exact (J1.pin (b, o) (List.mem_append_right _ (List.mem_append_right _ (mem_pinsAt hb e)))).2.1
      refine nox (hg _ _ _ _ _ s6 _ H6 xv u _ I6' r6 (step xv H6 y6)) fun _ s7 ⟨σ7, H7, I7, e7, q7⟩ => ?_
      refine nox (ht _ _ _ _ _ s7 _ H7 _ I7 q7) fun ok s8 ⟨H8, I8, q8⟩ => ?_
      cases ok with
      | false =>
        obtain ⟨o1, o2, o3, o4⟩ := out I8
        exact ⟨n + 1 - (i + 1), by omega, i + 1, ys, H8, its, rfl, hi2, Nat.le_succ_of_le hyi, rv, o1, (I8.pins_of (pins' := []) fun p hp => nomatch hp).weak (σ' := bv mm fv σ) e7.1 e7.2, o2, T.keep _ _ _ st6 o4, o3, q8⟩
      | true =>
        refine nox (he _ _ _ _ _ s8 _ H8 _ I8 q8) fun yv s9 ⟨y, H9, I9, r9, q9⟩ => ?_
        obtain ⟨o1, o2, o3, o4⟩ := out I9
        have hlen := rv.length
        refine wpAny_list_append_plain (hsz := by rw [List.size_toArray, ← hlen]; exact Nat.le_trans hyi (Nat.le_trans hin hn)) o1 fun h' pl' sb' => ?_
        have I9' : Inv (X.blk N' scope G.objs.size fp s2 H2) [] σ7 H9 { s9 with heap := h' } :=
          (I9.pins_of (pins' := []) fun p hp => nomatch hp).turned (t' := s9.toks) (it := s2.heap.objs.size) (fun b o hb e => sb'.extBut b o hb e) o2 hDC (.inr (Nat.le_refl _)) hcl (fun p hp => nomatch hp)
        refine ⟨n + 1 - (i + 1), by omega, i + 1, ys ++ [y], H9, its ++ [yv], rfl, hi2, by rw [List.length_append]; exact Nat.succ_le_succ hyi, rv.append (.cons r9 .nil), ?_, I9'.weak (σ' := bv mm fv σ) e7.1 e7.2, o2, T.keep _ _ _ st6 fun b hb o e => sb'.extBut b o (fun z => hDf (z ▸ hb)) (o4 b hb o e), o3, q9⟩
        have e9 : (its ++ [yv]).toArray = its.toArray.push yv := by simp
        rw [e9]
        exact pl'
  exact codeAny_compStart_list (loop _ rfl) (T.self _ 0 _ _ _ (T.keep _ _ _ st2 fun b _ o e => kp b o e) (loop _ rfl))

/-- name = [.. for ..] -/
def tSetLCM (j mm : Nat) (g : TG) (wi : TI) (fv : List Nat) (tt : TT) (te : TE) : TS := fun D σ H => wi σ H fun J H1 => ∃ (W : Nat → List V → Hp → Prop) (n : Nat), W 0 [] H1 ∧ n ≤ sizeLine ∧ ∀ i ys H, W i ys H →
  (J.stop i H ∧ ∀ p, H p = none → D.nx (σ.set j (some (.ref p))) (upd H p (.lst ys))) ∨
  (J.go i H ∧ i < n ∧ ∀ x H', J.yld i H x H' → g x (bv mm fv σ) H' fun σ' H'' => Ext (bv mm fv σ) σ' ∧ tt σ' H'' fun c H2 => if c = true then te σ' H2 fun y H3 => W (i + 1) (ys ++ [y]) H3 else W (i + 1) ys H2)
theorem ps_setLCM {X : Cx} {elt iter : Expr} {tg : Expr} {mm : Nat} {g : TG} {y : Str} {py : Pos} {ifs : List Expr} {scope : Scope} {pos spos : Pos} {N' : List Str} {fv : List Nat} {wi : TI} {tt : TT} {te : TE} {j : Nat}
    (hN : X.N.Nodup) (hj : X.N[j]? = some y) (hy : Loc X.env.scope y)
    (S : BlkS X.N X.env.scope scope mm N' fv) (hg : ∀ C fp s H, PG (X.blk N' scope C fp s H) tg g) (hc : X.calm = true) (hi : PI X tg iter wi)
    (ht : ∀ C fp s H, PTs (X.blk N' scope C fp s H) ifs tt) (he : ∀ C fp s H, PE (X.blk N' scope C fp s H) elt te)
    (hsw : swapsWith (.ListComp elt [⟨tg, iter, ifs, 0⟩] scope pos) (some (.Name y py)) spos.line X.env = pure true := by rfl)
    (hf : X.fn y = true ∨ X.env.scope.names.lookup y = some .local := by first | exact .inl rfl | exact .inr rfl | assumption)
    (hs : ∀ x, foldedSetIterable iter X.env x = pure x := by intro _; rfl) :
    PS X (.Assign [.Name y py] (.ListComp elt [⟨tg, iter, ifs, 0⟩] scope pos) spos) (tSetLCM j mm g wi fv tt te) := by
  intro pins s σ H D I h
  rw [exec_Assign_Name_used _ _ _ _ hsw]
  refine wpAny_bind (wpAny_standAt (wpAny_bind ?_))
  show wpAny _ X.A (do let _ ← comprehension (.ListComp elt [⟨tg, iter, ifs, 0⟩] scope pos) scope X.env _ (newList []) false (eval iter X.env) (some (assign (.Name y py) X.env))) _ _ s
  refine wpAny_bind (wpAny_mono (wpAny_comprehension_free (use := some (assign (.Name y py) X.env)) (Q := fun _ s' => SP X pins D .next s') rfl hs (closureFor_free fun y hy hk => I.ok.has y.1 (S.free y hy hk)) S.kind S.names
    (wpAny_mono (hi pins s σ H _ I h) (fun xv s1 h1 => wpAny_mono h1 (fun itv s2 h2 => ?_) fun _ _ e => e) fun _ _ e => e)) (fun _ s' hq => wpAny_pure (wpAny_pure hq)) fun _ _ e => e)
  obtain ⟨it, fp, tn, J, H2, rfl, I2, T, st2, f2, W, n, w0, hn, turn⟩ := h2
  refine lc_coreM (Fin := fun ys H => ∀ p, H p = none → D.nx (σ.set j (some (.ref p))) (upd H p (.lst ys))) (RR := fun acc C => compPost (model X.prog X.w) X.A X.xe (some (assign (.Name y py) X.env)) (fun _ s' => SP X pins D .next s') acc C) S hg hc ht he I2 T st2 f2 w0 hn turn ?_
  intro E' C ys H4 s5 m5 I5 hm5 hCE fD fC hCL hC0 hCc hCp q
  show wpAny _ X.A (assign (.Name y py) X.env (.ref E')) _ _ _
  refine wpAny_assign_Name (store_ok2 I5 hN hj hy (v := .ref E') rfl (fun s6 I6 hch => ?_) hf)
  obtain ⟨a, sb, ha⟩ := hch
  have nCa : C ≠ a := by
    rcases ha with rfl | ha
    · exact hCL
    · exact fun e => hCc _ _ ha e.symm
  refine ⟨m5, hm5.sameBut sb nCa, fun h' sb' => ⟨_, _, ?_, q E' fD⟩⟩
  exact I6.turned (t' := s6.toks) (it := C) (fun b o hb e => sb'.extBut b o hb e) (by rw [upd_ne hCE]; exact fC) hCL (.inr hC0) hCc hCp

def tLCM (mm : Nat) (g : TG) (wi : TI) (fv : List Nat) (tt : TT) (te : TE) : TE := fun σ H Q => wi σ H fun J H1 => ∃ (W : Nat → List V → Hp → Prop) (n : Nat), W 0 [] H1 ∧ n ≤ sizeLine ∧ ∀ i ys H, W i ys H →
  (J.stop i H ∧ ∀ p, H p = none → Q (.ref p) (upd H p (.lst ys))) ∨
  (J.go i H ∧ i < n ∧ ∀ x H', J.yld i H x H' → g x (bv mm fv σ) H' fun σ' H'' => Ext (bv mm fv σ) σ' ∧ tt σ' H'' fun c H2 => if c = true then te σ' H2 fun y H3 => W (i + 1) (ys ++ [y]) H3 else W (i + 1) ys H2)
theorem pe_lcM {X : Cx} {elt iter : Expr} {tg : Expr} {mm : Nat} {g : TG} {ifs : List Expr} {scope : Scope} {pos : Pos} {N' : List Str} {fv : List Nat} {wi : TI} {tt : TT} {te : TE}
    (S : BlkS X.N X.env.scope scope mm N' fv) (hg : ∀ C fp s H, PG (X.blk N' scope C fp s H) tg g) (hc : X.calm = true) (hi : PI X tg iter wi)
    (ht : ∀ C fp s H, PTs (X.blk N' scope C fp s H) ifs tt) (he : ∀ C fp s H, PE (X.blk N' scope C fp s H) elt te)
    (hs : ∀ x, foldedSetIterable iter X.env x = pure x := by intro _; rfl) :
    PE X (.ListComp elt [⟨tg, iter, ifs, 0⟩] scope pos) (tLCM mm g wi fv tt te) := by
  intro pins s σ H Q I h
  rw [eval_ListComp]
  refine wpAny_comprehension_free (use := none) rfl hs (closureFor_free fun y hy hk => I.ok.has y.1 (S.free y hy hk)) S.kind S.names
    (wpAny_mono (hi pins s σ H _ I h) (fun xv s1 h1 => wpAny_mono h1 (fun itv s2 h2 => ?_) fun _ _ e => e) fun _ _ e => e)
  obtain ⟨it, fp, tn, J, H2, rfl, I2, T, st2, f2, W, n, w0, hn, turn⟩ := h2
  refine lc_coreM (Fin := fun ys H => ∀ p, H p = none → Q (.ref p) (upd H p (.lst ys))) (RR := fun acc C => compPost (model X.prog X.w) X.A X.xe none (EP X pins σ Q) acc C) S hg hc ht he I2 T st2 f2 w0 hn turn ?_
  intro E' C ys H4 s5 m5 I5 hm5 hCE fD fC hCL hC0 hCc hCp q
  refine ⟨m5, hm5, fun h' sb' => ⟨.ref E', _, ?_, rfl, q E' fD⟩⟩
  exact I5.turned (t' := s5.toks) (it := C) (fun b o hb e => sb'.extBut b o hb e) (by rw [upd_ne hCE]; exact fC) hCL (.inr hC0) hCc hCp
/-- two names, told by a tuple -/
def gPair (K : PySem.W.Frag) : TG := fun v σ H Q => ∃ a x y, v = .ref a ∧ SqT K H a [x, y] ∧ Q ((σ.set 0 (some x)).set 1 (some y)) H
theorem pg_pair {X : Cx} {x y : Str} {k : Nat} {px py pos : Pos} (hc : X.calm = true) (nd : X.N.Nodup) (h0 : X.N[0]? = some x) (h1 : X.N[1]? = some y) (hx : X.env.scope.names.lookup x = some .local) (hy : X.env.scope.names.lookup y = some .local) :
    PG X (.Tuple [.Name x px, .Name y py] k pos) (gPair X.K) := by
  intro pins s σ H v u Q I r q
  obtain ⟨a, z, t, e1, e2, q⟩ := q
  exact (pg_tup (n := 2) hc (pgs_cons (pg_name nd h0 (.inl hx) (.inr hx)) (pgs_cons (pg_name nd h1 (.inl hy) (.inr hy)) pgs_nil))) pins s σ H v u Q I r ⟨a, [z, t], e1, e2, rfl, z, [t], rfl, t, [], rfl, rfl, q⟩
theorem ext_pair {fv : List Nat} {σ : St} {x y : V} : Ext (bv 2 fv σ) (((bv 2 fv σ).set 0 (some x)).set 1 (some y)) := by
  refine ⟨by simp, fun j v e => ?_⟩
  match j, e with
  | 0, e => cases (Option.some.inj e)
  | 1, e => cases (Option.some.inj e)
  | j + 2, e => exact e
theorem bv_pair {fv : List Nat} {σ : St} {x y : V} : ((bv 2 fv σ).set 0 (some x)).set 1 (some y) = some x :: some y :: blkVals fv σ := rfl
end L2

namespace L2
open PySem PySem.Spec PyProof.Rows
section
variable {X : Cx}
/-- any(a list of truths) -/
theorem call_any_bl (hc : X.calm = true) : CallR X (.builtin "any") (fun xs H Q => ∃ (p : Addr) (bs : List Bool), xs = [.ref p] ∧ SqL X.K H p (bs.map V.bl) ∧ Q (.bl (bs.any id)) H) := by
  intro pins s σ H xs us Q I r h
  obtain ⟨p, bs, rfl, hq, q⟩ := h
  obtain ⟨u, rfl, rx⟩ := vals1 r
  cases (show u = Value.ref p from rx)
  obtain ⟨its, rv, pl, hz⟩ := I.list hq
  have hl := pl.isList
  have hlt : p < s.heap.objs.size := by obtain ⟨_, e, _⟩ := hl; exact Heap.lt_size e
  have hh : X.A.handled = none := I.ok.hd hc
  have hlen : bs.length = its.length := by have := rv.length; rw [List.length_map] at this; exact this
  refine call_any_walk (wpAny_pyIter_list hl ?_)
  refine ⟨s.heap.objs.size, [s.heap.objs.size, p], [s.heap.objs.size], its.toArray.size, _, _, fun i => (bs[i]?).getD false, rfl, Walks.list (A := X.A.in1) hh _ p (Nat.ne_of_lt hlt) its.toArray,
    ⟨⟨_, Heap.get?_push_size _ rfl, rfl, rfl⟩, hl.push _⟩, fun i v s' Q' E' hP hQ => ?_, fun h' tk hk => ?_⟩
  · have hP' : its[i]? = some v := by simpa using hP
    have hi : i < its.length := (List.getElem?_eq_some_iff.mp hP').1
    have hb : (bs.map V.bl)[i]? = some (V.bl (bs[i]'(by omega))) := by rw [List.getElem?_map, List.getElem?_eq_getElem (by omega)]; rfl
    obtain ⟨u', e1, e2⟩ := rv.get hb
    rw [hP'] at e1
    cases e1
    cases (show v = Value.bool _ from e2)
    have hQ' : Q' ((bs[i]?).getD false) s' := hQ
    rw [List.getElem?_eq_getElem (by omega)] at hQ'
    exact wpAny_truthy_bool hQ'
  · have e : ((List.range its.toArray.size).any fun i => (bs[i]?).getD false) = bs.any id := by
      rw [List.size_toArray, ← hlen, Bool.eq_iff_iff, List.any_eq_true, List.any_eq_true]
      constructor
      · rintro ⟨i, hi, hb⟩
        have hi' := List.mem_range.mp hi
        rw [List.getElem?_eq_getElem hi'] at hb
        exact ⟨bs[i], List.getElem_mem hi', hb⟩
      · rintro ⟨b, hb, hb'⟩
        obtain ⟨i, hi, e⟩ := List.getElem_of_mem hb
        refine ⟨i, List.mem_range.mpr hi, ?_⟩
        rw [List.getElem?_eq_getElem hi, e]
        exact hb'
    rw [e]
    exact ⟨.bl _, H, I.kept (LSm.kept_iter hk), rfl, q⟩
/-! ### sorted, of two texts -/
/-! ### a table of the module: texts to numbers or texts -/
def datL : KTD.Dat → Value → Bool
  | .flat d, v => KTD.flatLooks d v
  | _, _ => false
theorem datL_at {h : Heap} : ∀ (d : KTD.Dat) (v : Value), datL d v = true → d.At h v
  | .flat d, v, e => KTD.flat_of_looks (d := d) e
  | .float _, _, e => by cases e
  | .nums _, _, e => by cases e
  | .words _, _, e => by cases e
  | .tup _, _, e => by cases e
  | .tab _, _, e => by cases e
def TabK (K : PySem.W.Frag) (a : Addr) (D : List (Str × KTD.Dat)) : Prop := KTD.tabLook datL (fun b => K.lookup b) a D = true
theorem TabK.at {K : PySem.W.Frag} {a : Addr} {D : List (Str × KTD.Dat)} {h : Heap} (t : TabK K a D) (kin : K.In h) : KTD.TextTab h a D := KTD.tab_of_look datL_at (fun a o e => kin a o e) t
theorem each_at {h₀ : Heap} {k : Str} {Pr : Value → Prop} : ∀ {D : List (Str × KTD.Dat)} {d : KTD.Dat}, KTD.datumAt k D = some d → KTD.Opened h₀ Pr d → KTD.EachL h₀ k Pr D
  | [], _, e, _ => by cases e
  | (x, d') :: D, d, e, o => by
    have e' : (if decide (k = x) = true then some d' else KTD.datumAt k D) = some d := e
    by_cases hx : k = x
    · rw [if_pos (decide_eq_true hx)] at e'
      cases e'
      exact KTD.eachL_hit hx o
    · rw [if_neg (by simp [hx])] at e'
      exact KTD.eachL_miss hx (each_at e' o)
theorem ix_tabI {D : List (Str × KTD.Dat)} : IxR X (fun x y H Q => ∃ a k i, x = .ref a ∧ y = .str k ∧ TabK X.K a D ∧ KTD.datumAt k D = some (.flat (.int i)) ∧ (D.all fun p => KTD.plain p.2) = true ∧ Q (.int i) H) := by
  intro value slice pins s σ H x y v u Q I rx ry h hs
  obtain ⟨a, k, i, rfl, rfl, ht, hd, hp, q⟩ := h
  cases rx
  obtain ⟨t, rfl⟩ := ry
  refine KTD.item_textA (h₀ := s.heap) ⟨ht.at I.kIn, fun _ _ e => e⟩ hp ?_ ?_ hs
  · rw [← KTD.isSome_datumAt, hd]; rfl
  · exact each_at hd (KTD.opened_int fun t' => ⟨.int i, H, I.tok _, ⟨_, rfl⟩, q⟩)
end
/-! in a walking's block the part of the heap is named: the readings may not hang on the block's own context -/
section
variable {X : Cx} {α : Type} [DecidableEq α]
theorem pfK (K : PySem.W.Frag) (i : Nat) {x f : Str} {px pos : Pos} (hK : X.K = K := by rfl) (hN : X.N[i]? = some x := by rfl) (hv : Vis X.env.scope x := by first | exact Or.inl rfl | exact Or.inr (Or.inl rfl) | exact Or.inr (Or.inr rfl)) (hd : (x == ("__debug__" : Str)) = false := by decide)
    (hcd : (x == ("__classdict__" : Str)) = false := by decide) (hb : attributeBase (.Name x px) f X.env (eval (.Name x px) X.env) = eval (.Name x px) X.env := by rfl) : PE X (.Attribute (.Name x px) f pos) (tFld K (tVar i) f) := by
  subst hK
  exact pe_fld (pe_var hN hv hd hcd) hb
theorem pg_pairK (K : PySem.W.Frag) {x y : Str} {k : Nat} {px py pos : Pos} (hc : X.calm = true) (nd : X.N.Nodup) (h0 : X.N[0]? = some x) (h1 : X.N[1]? = some y) (hx : X.env.scope.names.lookup x = some .local) (hy : X.env.scope.names.lookup y = some .local) (hK : X.K = K := by rfl) :
    PG X (.Tuple [.Name x px, .Name y py] k pos) (gPair K) := by
  subst hK
  exact pg_pair hc nd h0 h1 hx hy
theorem op_eqCK (K : PySem.W.Frag) (c : Cod α) (hu : X.A.units + c.n + 1 < cLine) (hK : X.K = K := by rfl) : OpR X (compareOp .Eq) (fun x y H Q => ∃ a b, c.rp K H a x ∧ c.rp K H b y ∧ Q (.bl (decide (a = b))) H) := by
  subst hK
  exact op_eqC c hu
theorem op_neCK (K : PySem.W.Frag) (c : Cod α) (hu : X.A.units + c.n + 1 < cLine) (hK : X.K = K := by rfl) : OpR X (compareOp .NotEq) (fun x y H Q => ∃ a b, c.rp K H a x ∧ c.rp K H b y ∧ Q (.bl (!decide (a = b))) H) := by
  subst hK
  exact op_neC c hu
theorem op_notinCK (K : PySem.W.Frag) (c : Cod α) (hu : X.A.units + c.n + 1 < cLine) (hK : X.K = K := by rfl) : OpR X (compareOp .NotIn) (rNinC c K) := by
  subst hK
  exact op_notinC c hu
end
/-! ### functions and methods, bundled -/
structure GF (P : Program) (w : World) (K : PySem.W.Frag) (mg : Str → Option Value) (base : Heap) (CX : CXT) (k : Nat) (x : Str) (ps : List Str) (sp : Sp) where
  f : Addr
  fd : FuncData
  ok : FnOk P w K mg base CX k f fd ps sp
  bd : Binds K fd ps []
  kp : PySem.W.keepIn K (.ref f) = true
  mgx : mg x = some (.ref f)
structure GM (P : Program) (w : World) (K : PySem.W.Frag) (mg : Str → Option Value) (base : Heap) (CX : CXT) (k : Nat) (C : Addr) (m : Str) (ps : List Str) (sp : Sp) where
  f : Addr
  fd : FuncData
  ok : FnOk P w K mg base CX k f fd ps sp
  bd : Binds K fd ps []
  me : Meth K C m f
section
variable {X : Cx} {CX : CXT} {j k : Nat} {x m : Str} {ps : List Str} {sp : Sp} {E : XK} {p pos apos : Pos} {e o : Expr} {es : List Expr} {t : TA} {ta : TE} {C : Addr}
theorem pc (G : GF X.prog X.w X.K X.mg X.base CX j x ps sp) (hr : Room k X.A) (ha : PA X (e :: es) t) (hx : Passes CX X E := by exact pass0) (hk : j ≤ k := by decide) (hg : Gl X x := by rfl)
    (hdb : (x == ("__debug__" : Str)) = false := by decide) (he : starEach (e :: es) X.env = (false, eval e X.env) :: starEach es X.env := by rfl) (hpl : (backTo pos (starEach es X.env)).any (·.1) = false := by rfl) :
    PE X (.Call (.Name x p) (e :: es) [] pos) (tCall sp [] E t) := pe_call G.ok (hr.mono hk) hg G.mgx G.kp G.bd .nil hx ha hdb he hpl
theorem pm {pl : Sem Bool} (G : GM X.prog X.w X.K X.mg X.base CX j C m ps sp) (ho : PE X o ta) (cl : Cls X.K C) (hr : Room k X.A) (ha : PA X (e :: es) t) (hx : Passes CX X E := by exact pass0) (hk : j ≤ k := by decide)
    (hst : starEach (e :: es) X.env = (false, eval e X.env) :: starEach es X.env := by rfl) (hpl : (backTo pos (starEach es X.env)).any (·.1) = false := by rfl)
    (ht : eval (.Call (.Attribute o m apos) (e :: es) [] pos) X.env = (do
      let ov ← eval o X.env
      standAt apos.atName
      let (f, first) ← holding [ov] (getMethod ov m pl)
      callWith pos f first (backTo pos (starEach (e :: es) X.env)) (backToKw pos (keywordEach [] X.env))) := by rfl) :
    PE X (.Call (.Attribute o m apos) (e :: es) [] pos) (tMeth C m sp [] E ta t) := pe_meth ho cl G.me G.ok (hr.mono hk) G.bd .nil hx ha hst hpl ht
theorem pm0 {pl : Sem Bool} (G : GM X.prog X.w X.K X.mg X.base CX j C m ps sp) (ho : PE X o ta) (cl : Cls X.K C) (hr : Room k X.A) (hx : Passes CX X E := by exact pass0) (hk : j ≤ k := by decide)
    (ht : eval (.Call (.Attribute o m apos) [] [] pos) X.env = (do
      let ov ← eval o X.env
      standAt apos.atName
      let (f, first) ← holding [ov] (getMethod ov m pl)
      callWith pos f first (backTo pos (starEach [] X.env)) (backToKw pos (keywordEach [] X.env))) := by rfl) :
    PE X (.Call (.Attribute o m apos) [] [] pos) (tMeth C m sp [] E ta tNil) := pe_meth0 ho cl G.me G.ok (hr.mono hk) G.bd .nil hx ht
end
end L2

set_option maxHeartbeats 1000000
namespace L2
open PySem PySem.Spec PyProof.Rows
/-! ### walking lists, by an invariant -/
section
variable {K : PySem.W.Frag} {a : Addr} {xs : List V} {tt : TT} {te : TE} {bl : St} {Fin : List V → Hp → Prop} {H : Hp}
theorem lc_list (Pv : Nat → List V → Hp → Prop) (h0 : Pv 0 [] H) (hn : xs.length ≤ sizeLine) (hl : ∀ i ys H, i ≤ xs.length → Pv i ys H → SqL K H a xs)
    (hs : ∀ i x ys H, xs[i]? = some x → Pv i ys H → tt (some x :: bl) H fun c H2 => if c = true then te (some x :: bl) H2 fun y H3 => Pv (i + 1) (ys ++ [y]) H3 else Pv (i + 1) ys H2)
    (hd : ∀ ys H, Pv xs.length ys H → Fin ys H) :
    ∃ (W : Nat → List V → Hp → Prop) (n : Nat), W 0 [] H ∧ n ≤ sizeLine ∧ ∀ i ys H, W i ys H → ((Itl K a).stop i H ∧ Fin ys H) ∨
      ((Itl K a).go i H ∧ i < n ∧ ∀ x H', (Itl K a).yld i H x H' → tt (some x :: bl) H' fun c H2 => if c = true then te (some x :: bl) H2 fun y H3 => W (i + 1) (ys ++ [y]) H3 else W (i + 1) ys H2) := by
  refine ⟨fun i ys H => i ≤ xs.length ∧ Pv i ys H, xs.length, ⟨Nat.zero_le _, h0⟩, hn, ?_⟩
  rintro i ys H ⟨hi, p⟩
  have q := hl i ys H hi p
  by_cases hlt : i < xs.length
  · refine .inr ⟨⟨xs, xs[i], q, by simp [hlt]⟩, hlt, fun x H' y => ?_⟩
    obtain ⟨e, y⟩ := y
    subst e
    have z := hs i x ys _ (y xs q) p
    have e1 : (fun (c : Bool) (H2 : Hp) => if c = true then te (some x :: bl) H2 fun y H3 => i + 1 ≤ xs.length ∧ Pv (i + 1) (ys ++ [y]) H3 else i + 1 ≤ xs.length ∧ Pv (i + 1) ys H2) = fun c H2 => if c = true then te (some x :: bl) H2 fun y H3 => Pv (i + 1) (ys ++ [y]) H3 else Pv (i + 1) ys H2 := by
      have e2 : (i + 1 ≤ xs.length) = True := eq_true hlt
      funext c H2
      simp only [e2, true_and]
    show tt _ _ _
    rw [e1]
    exact z
  · have e : i = xs.length := by omega
    subst e
    exact .inl ⟨⟨xs, q, Nat.le_refl _⟩, hd ys H p⟩
theorem tAllT {σ : St} {A B : Hp → Prop} (h : A H) : tAll σ H (fun c H2 => if c = true then A H2 else B H2) := by
  show if true = true then A H else B H
  exact @iteT (A H) (B H) h
theorem lc_tup (Pv : Nat → List V → Hp → Prop) (h0 : Pv 0 [] H) (hn : xs.length ≤ sizeLine) (hl : ∀ i ys H, i ≤ xs.length → Pv i ys H → SqT K H a xs)
    (hs : ∀ i x ys H, xs[i]? = some x → Pv i ys H → tt (some x :: bl) H fun c H2 => if c = true then te (some x :: bl) H2 fun y H3 => Pv (i + 1) (ys ++ [y]) H3 else Pv (i + 1) ys H2)
    (hd : ∀ ys H, Pv xs.length ys H → Fin ys H) :
    ∃ (W : Nat → List V → Hp → Prop) (n : Nat), W 0 [] H ∧ n ≤ sizeLine ∧ ∀ i ys H, W i ys H → ((Itt K a).stop i H ∧ Fin ys H) ∨
      ((Itt K a).go i H ∧ i < n ∧ ∀ x H', (Itt K a).yld i H x H' → tt (some x :: bl) H' fun c H2 => if c = true then te (some x :: bl) H2 fun y H3 => W (i + 1) (ys ++ [y]) H3 else W (i + 1) ys H2) := by
  refine ⟨fun i ys H => i ≤ xs.length ∧ Pv i ys H, xs.length, ⟨Nat.zero_le _, h0⟩, hn, ?_⟩
  rintro i ys H ⟨hi, p⟩
  have q := hl i ys H hi p
  by_cases hlt : i < xs.length
  · refine .inr ⟨⟨xs, xs[i], q, by simp [hlt]⟩, hlt, fun x H' y => ?_⟩
    obtain ⟨e, y⟩ := y
    subst e
    have z := hs i x ys _ (y xs q) p
    have e1 : (fun (c : Bool) (H2 : Hp) => if c = true then te (some x :: bl) H2 fun y H3 => i + 1 ≤ xs.length ∧ Pv (i + 1) (ys ++ [y]) H3 else i + 1 ≤ xs.length ∧ Pv (i + 1) ys H2) = fun c H2 => if c = true then te (some x :: bl) H2 fun y H3 => Pv (i + 1) (ys ++ [y]) H3 else Pv (i + 1) ys H2 := by
      have e2 : (i + 1 ≤ xs.length) = True := eq_true hlt
      funext c H2
      simp only [e2, true_and]
    show tt _ _ _
    rw [e1]
    exact z
  · have e : i = xs.length := by omega
    subst e
    exact .inl ⟨⟨xs, q, Nat.le_refl _⟩, hd ys H p⟩
theorem lc_range {n : Nat} (Pv : Nat → List V → Hp → Prop) (h0 : Pv 0 [] H) (hn : n ≤ sizeLine)
    (hs : ∀ (i : Nat) ys H, i < n → Pv i ys H → tt (some (.int i) :: bl) H fun c H2 => if c = true then te (some (.int i) :: bl) H2 fun y H3 => Pv (i + 1) (ys ++ [y]) H3 else Pv (i + 1) ys H2)
    (hd : ∀ ys H, Pv n ys H → Fin ys H) :
    ∃ (W : Nat → List V → Hp → Prop) (m : Nat), W 0 [] H ∧ m ≤ sizeLine ∧ ∀ i ys H, W i ys H → ((Itr 0 n).stop i H ∧ Fin ys H) ∨
      ((Itr 0 n).go i H ∧ i < m ∧ ∀ x H', (Itr 0 n).yld i H x H' → tt (some x :: bl) H' fun c H2 => if c = true then te (some x :: bl) H2 fun y H3 => W (i + 1) (ys ++ [y]) H3 else W (i + 1) ys H2) := by
  refine ⟨fun i ys H => i ≤ n ∧ Pv i ys H, n, ⟨Nat.zero_le _, h0⟩, hn, ?_⟩
  rintro i ys H ⟨hi, p⟩
  by_cases hlt : i < n
  · refine .inr ⟨hlt, hlt, fun x H' y => ?_⟩
    obtain ⟨e, y⟩ := y
    subst e
    rw [Int.zero_add] at y
    subst y
    have z := hs i ys _ hlt p
    have e1 : (fun (c : Bool) (H2 : Hp) => if c = true then te (some (.int i) :: bl) H2 fun y H3 => i + 1 ≤ n ∧ Pv (i + 1) (ys ++ [y]) H3 else i + 1 ≤ n ∧ Pv (i + 1) ys H2) = fun c H2 => if c = true then te (some (.int i) :: bl) H2 fun y H3 => Pv (i + 1) (ys ++ [y]) H3 else Pv (i + 1) ys H2 := by
      have e2 : (i + 1 ≤ n) = True := eq_true hlt
      funext c H2
      simp only [e2, true_and]
    show tt _ _ _
    rw [e1]
    exact z
  · have e : i = n := by omega
    subst e
    exact .inl ⟨Nat.le_refl _, hd ys H p⟩
theorem lc_pair {σ : St} {fv : List Nat} (Pv : Nat → List V → Hp → Prop) (h0 : Pv 0 [] H) (hn : xs.length ≤ sizeLine) (hl : ∀ i ys H, i ≤ xs.length → Pv i ys H → SqL K H a xs)
    (hs : ∀ i x ys H, xs[i]? = some x → Pv i ys H → ∃ b u w, x = .ref b ∧ SqT K H b [u, w] ∧ tt (some u :: some w :: blkVals fv σ) H fun c H2 => if c = true then te (some u :: some w :: blkVals fv σ) H2 fun y H3 => Pv (i + 1) (ys ++ [y]) H3 else Pv (i + 1) ys H2)
    (hd : ∀ ys H, Pv xs.length ys H → Fin ys H) :
    ∃ (W : Nat → List V → Hp → Prop) (n : Nat), W 0 [] H ∧ n ≤ sizeLine ∧ ∀ i ys H, W i ys H → ((Itl K a).stop i H ∧ Fin ys H) ∨
      ((Itl K a).go i H ∧ i < n ∧ ∀ x H', (Itl K a).yld i H x H' → gPair K x (bv 2 fv σ) H' fun σ' H'' => Ext (bv 2 fv σ) σ' ∧ tt σ' H'' fun c H2 => if c = true then te σ' H2 fun y H3 => W (i + 1) (ys ++ [y]) H3 else W (i + 1) ys H2) := by
  refine ⟨fun i ys H => i ≤ xs.length ∧ Pv i ys H, xs.length, ⟨Nat.zero_le _, h0⟩, hn, ?_⟩
  rintro i ys H ⟨hi, p⟩
  have q := hl i ys H hi p
  by_cases hlt : i < xs.length
  · refine .inr ⟨⟨xs, xs[i], q, by simp [hlt]⟩, hlt, fun x H' y => ?_⟩
    obtain ⟨e, y⟩ := y
    subst e
    obtain ⟨b, u, w, ex, hb, z⟩ := hs i x ys _ (y xs q) p
    have e1 : (fun (c : Bool) (H2 : Hp) => if c = true then te (some u :: some w :: blkVals fv σ) H2 fun y H3 => i + 1 ≤ xs.length ∧ Pv (i + 1) (ys ++ [y]) H3 else i + 1 ≤ xs.length ∧ Pv (i + 1) ys H2) = fun c H2 => if c = true then te (some u :: some w :: blkVals fv σ) H2 fun y H3 => Pv (i + 1) (ys ++ [y]) H3 else Pv (i + 1) ys H2 := by
      have e2 : (i + 1 ≤ xs.length) = True := eq_true hlt
      funext c H2
      simp only [e2, true_and]
    refine ⟨b, u, w, ex, hb, ext_pair, ?_⟩
    rw [bv_pair]
    show tt _ _ _
    rw [e1]
    exact z
  · have e : i = xs.length := by omega
    subst e
    exact .inl ⟨⟨xs, q, Nat.le_refl _⟩, hd ys H p⟩
end
end L2
/-! ### locks, as data -/
namespace Lo
open PySem L2
inductive Kd where
  | read | mean | change
  deriving DecidableEq
def kdS : Kd → Str
  | .read => "read"
  | .mean => "mean"
  | .change => "change"
theorem s_rm : ¬ (("read" : Str) = "mean") := by decide +kernel
theorem s_rc : ¬ (("read" : Str) = "change") := by decide +kernel
theorem s_mc : ¬ (("mean" : Str) = "change") := by decide +kernel
theorem kdS_inj : ∀ x y, kdS x = kdS y → x = y
  | .read, .read, _ => rfl
  | .mean, .mean, _ => rfl
  | .change, .change, _ => rfl
  | .read, .mean, h => absurd h s_rm
  | .read, .change, h => absurd h s_rc
  | .mean, .change, h => absurd h s_mc
  | .mean, .read, h => absurd h.symm s_rm
  | .change, .read, h => absurd h.symm s_rc
  | .change, .mean, h => absurd h.symm s_mc
def rank : Kd → Int
  | .read => 0
  | .mean => 1
  | .change => 2
def kdOf (i : Int) : Kd := if i = 0 then .read else if i = 1 then .mean else .change
abbrev Lk := Kd × Int × Int
abbrev Pa := Int × Int
abbrev Pr := Pa × Lk
def share : Kd → Kd → Bool
  | .read, .read => true
  | .read, .mean => true
  | .mean, .read => true
  | _, _ => false
def besideB (a b : Lk) : Bool := (decide (a.2.2 < b.2.1) || decide (b.2.2 < a.2.1)) || share a.1 b.1
def coversB (a b : Lk) : Bool := (decide (a.2.1 ≤ b.2.1) && decide (b.2.2 ≤ a.2.2)) && decide (rank b.1 ≤ rank a.1)
theorem share_mem (a b : Kd) : decide ((kdS a, kdS b) ∈ ([("read", "read"), ("read", "mean"), ("mean", "read")] : List (Str × Str))) = share a b := by
  cases a <;> cases b <;> decide +kernel
theorem share_mem2 (a b : Kd) (i : Decidable ((kdS a, kdS b) ∈ ([("read", "read"), ("read", "mean"), ("mean", "read")] : List (Str × Str)))) : @decide _ i = share a b := (decide_eq_decide.mpr Iff.rfl).trans (share_mem a b)
def toldT (k : Lk) : Str × Int × Int := (kdS k.1, k.2)
theorem toldT_inj : ∀ x y, toldT x = toldT y → x = y := fun x y h => by
  obtain ⟨a, b⟩ := x
  obtain ⟨c, d⟩ := y
  have h1 := congrArg Prod.fst h
  have h2 := congrArg Prod.snd h
  exact Prod.ext (kdS_inj _ _ h1) h2
def cLk : Cod Lk := cVia toldT toldT_inj (cT3 cStr cInt cInt)
def cPa : Cod Pa := cT2 cInt cInt
def cPr : Cod Pr := cT2 cPa cLk
theorem cLk_mk {K : PySem.W.Frag} {H : Hp} {a : Addr} {k : Lk} (h : H a = some (.tup [.str (kdS k.1), .int k.2.1, .int k.2.2])) : cLk.rp K H k (.ref a) := ⟨a, _, _, _, rfl, .inl h, rfl, rfl, rfl⟩
theorem cPa_mk {K : PySem.W.Frag} {H : Hp} {a : Addr} {k : Pa} (h : H a = some (.tup [.int k.1, .int k.2])) : cPa.rp K H k (.ref a) := ⟨a, _, _, rfl, .inl h, rfl, rfl⟩
theorem cPr_mk {K : PySem.W.Frag} {H : Hp} {a : Addr} {u v : V} {k : Pr} (h : H a = some (.tup [u, v])) (h1 : cPa.rp K H k.1 u) (h2 : cLk.rp K H k.2 v) : cPr.rp K H k (.ref a) := ⟨a, u, v, rfl, .inl h, h1, h2⟩
/-! ### what stays -/
def Fix (CL : Addr) : HO → Prop
  | .tup _ => True
  | .ins C _ _ => C ≠ CL
  | _ => False
def FSame (CL : Addr) (H H' : Hp) : Prop := ∀ b o, H b = some o → Fix CL o → H' b = some o
theorem FSame.ts {CL : Addr} {H H' : Hp} (h : FSame CL H H') : TSame H H' := fun b xs e => h b _ e True.intro
theorem fs_same {CL : Addr} {H H' : Hp} (h : Same H H') : FSame CL H H' := fun b o e _ => h b o e
theorem FSame.trans {CL : Addr} {H H1 H2 : Hp} (a : FSame CL H H1) (b : FSame CL H1 H2) : FSame CL H H2 := fun c o e f => b c o (a c o e f) f
theorem same_new {H : Hp} {p : Addr} {o : HO} (h : H p = none) : Same H (upd H p o) := fun b u e => by
  rw [upd_ne (ne_of_none e h)]
  exact e
/-- all but p stays -/
def Kp (p : Addr) (H H' : Hp) : Prop := ∀ b o, b ≠ p → H b = some o → H' b = some o
theorem Kp.of {p : Addr} {H H' : Hp} (h : Same H H') : Kp p H H' := fun b o _ e => h b o e
theorem Kp.trans {p : Addr} {H H1 H2 : Hp} (a : Kp p H H1) (b : Kp p H1 H2) : Kp p H H2 := fun c o n e => b c o n (a c o n e)
theorem kp_upd {p : Addr} {H : Hp} {o : HO} : Kp p H (upd H p o) := fun b u n e => by
  rw [upd_ne n]
  exact e
theorem Kp.fs {CL p : Addr} {H H' : Hp} {xs : List V} (h : Kp p H H') (e : H p = some (.lst xs)) : FSame CL H H' := fun b o q f => h b o (fun z => by rw [z, e] at q; cases q; exact f) q
theorem Kp.fsi {CL p dx : Addr} {H H' : Hp} {fs : List (Str × V)} (h : Kp p H H') (e : H p = some (.ins CL dx fs)) : FSame CL H H' := fun b o q f => h b o (fun z => by rw [z, e] at q; cases q; exact f rfl) q
/-! ### a lock's object -/
theorem fl : ¬ (("first" : Str) = "last") := by decide +kernel
def lf (f l : Int) : List (Str × V) := putF "last" (.int l) (putF "first" (.int f) [])
theorem lf_first (f l : Int) : (lf f l).lookup ("first" : Str) = some (.int f) := by
  unfold lf
  rw [lookup_putF, if_neg fl, lookup_putF, if_pos rfl]
theorem lf_last (f l : Int) : (lf f l).lookup ("last" : Str) = some (.int l) := by
  unfold lf
  rw [lookup_putF, if_pos rfl]
theorem lf_no (f l : Int) {m : Str} (h1 : ¬ m = "last") (h2 : ¬ m = "first") : (lf f l).lookup m = none := by
  unfold lf
  rw [lookup_putF, if_neg h1, lookup_putF, if_neg h2]
  rfl
def LkO (C : Kd → Addr) (H : Hp) (k : Lk) (v : V) : Prop := ∃ a dx, v = .ref a ∧ H a = some (.ins (C k.1) dx (lf k.2.1 k.2.2))
theorem LkO.keep {C : Kd → Addr} {CL : Addr} {H H' : Hp} {k : Lk} {v : V} (hC : ∀ k, C k ≠ CL) (e : FSame CL H H') (h : LkO C H k v) : LkO C H' k v := by
  obtain ⟨a, dx, e1, e2⟩ := h
  exact ⟨a, dx, e1, e a _ e2 (hC _)⟩
def PrO (C : Kd → Addr) (K : PySem.W.Frag) (H : Hp) (x : Pr) (v : V) : Prop := ∃ a u l, v = .ref a ∧ SqU K H a [u, l] ∧ cPa.rp K H x.1 u ∧ LkO C H x.2 l
theorem PrO.keep {C : Kd → Addr} {CL : Addr} {K : PySem.W.Frag} {H H' : Hp} {x : Pr} {v : V} (hC : ∀ k, C k ≠ CL) (e : FSame CL H H') (h : PrO C K H x v) : PrO C K H' x v := by
  obtain ⟨a, u, l, e1, e2, e3, e4⟩ := h
  exact ⟨a, u, l, e1, e2.keep e.ts, cPa.keep e.ts e3, e4.keep hC e⟩
/-! ### a house's locks -/
def LS (C : Kd → Addr) (CL : Addr) (K : PySem.W.Frag) (H : Hp) (l p : Addr) (ps : List Pr) : Prop :=
  ∃ dx vs, H l = some (.ins CL dx [("pairs", .ref p)]) ∧ H p = some (.lst vs) ∧ Paired (PrO C K H) ps vs
theorem pp {F : α → β → Prop} {G : α → β → Prop} {xs : List α} {ys : List β} (h : Paired F xs ys) (f : ∀ a b, F a b → G a b) : Paired G xs ys := Paired.mapP h f
theorem LS.keep {C : Kd → Addr} {CL : Addr} {K : PySem.W.Frag} {H H' : Hp} {l p : Addr} {ps : List Pr} (hC : ∀ k, C k ≠ CL) (e : Same H H') (h : LS C CL K H l p ps) : LS C CL K H' l p ps := by
  obtain ⟨dx, vs, e1, e2, e3⟩ := h
  exact ⟨dx, vs, e l _ e1, e p _ e2, pp e3 fun _ _ q => q.keep hC (fs_same e)⟩
/-! ### what waits, what is held -/
def hb (ps : List Pr) (k j : Nat) : Bool := match ps[j]?, ps[k]? with
  | some a, some b => !decide (a.1 = b.1) && !besideB a.2 b.2
  | _, _ => false
def hind (ps : List Pr) (k : Nat) : Option Nat := (List.range k).find? (hb ps k)
def optV : Option Nat → V
  | none => .non
  | some j => .int j
theorem hind_some {ps : List Pr} {k i : Nat} (hi : i < k) (h : hb ps k i = true) (h0 : ∀ j, j < i → hb ps k j = false) : hind ps k = some i := by
  unfold hind
  rw [List.find?_range_eq_some]
  exact ⟨h, List.mem_range.mpr hi, fun j hj => by rw [h0 j hj]; rfl⟩
theorem hind_none {ps : List Pr} {k : Nat} (h0 : ∀ j, j < k → hb ps k j = false) : hind ps k = none := by
  unfold hind
  rw [List.find?_range_eq_none]
  exact fun j hj => by rw [h0 j hj]; rfl
theorem hind_of {ps : List Pr} {k i : Nat} (h : hind ps k = some i) : i < k ∧ hb ps k i = true ∧ ∀ j, j < i → hb ps k j = false := by
  unfold hind at h
  rw [List.find?_range_eq_some] at h
  exact ⟨List.mem_range.mp h.2.1, h.1, fun j hj => by simpa using h.2.2 j hj⟩
theorem hind_of0 {ps : List Pr} {k : Nat} (h : hind ps k = none) : ∀ j, j < k → hb ps k j = false := by
  unfold hind at h
  rw [List.find?_range_eq_none] at h
  exact fun j hj => by simpa using h j hj
def pick {α : Type} (xs : List α) (ix : List Nat) : List α := ix.filterMap (xs[·]?)
theorem pick_snoc {α : Type} (xs : List α) (ix : List Nat) (k : Nat) : pick xs (ix ++ [k]) = pick xs ix ++ (xs[k]?).toList := by
  unfold pick
  rw [List.filterMap_append]
  congr 1
theorem pick_pair {α β : Type} {R : α → β → Prop} {xs : List α} {us : List β} (h : Paired R xs us) : ∀ ix : List Nat, Paired R (pick xs ix) (pick us ix)
  | [] => .nil
  | k :: ix => by
    have ih := pick_pair h ix
    unfold pick at ih ⊢
    rw [List.filterMap_cons, List.filterMap_cons]
    cases e : us[k]? with
    | none =>
      have e' : xs[k]? = none := by
        have := h.len
        rw [List.getElem?_eq_none_iff] at e ⊢
        omega
      rw [e']
      exact ih
    | some u =>
      obtain ⟨x, e', r⟩ := h.get e
      rw [e']
      exact .cons r ih
def heldIx (ps : List Pr) : List Nat := (List.range ps.length).filter fun k => (hind ps k).isNone
def waitIx (ps : List Pr) : List Nat := (List.range ps.length).filter fun k => (hind ps k).isSome
def heldL (ps : List Pr) : List Pr := pick ps (heldIx ps)
def waitL (ps : List Pr) : List Pr := pick ps (waitIx ps)
def wpl (ps : List Pr) (p : Pa) (k : Nat) : Bool := match ps[k]? with
  | some a => decide (a.1 = p) && (hind ps k).isSome
  | none => false
def wplace (ps : List Pr) (p : Pa) : Option Nat := (List.range ps.length).find? (wpl ps p)
def covered (ps : List Pr) (p : Pa) (k : Lk) : Bool := ps.any fun x => decide (x.1 = p) && coversB x.2 k
def askPs (ps : List Pr) (p : Pa) (k : Lk) : List Pr := if covered ps p k = true then ps else ps ++ [(p, k)]
def askR (ps : List Pr) (p : Pa) (k : Lk) : Bool := covered ps p k || (hind (ps ++ [(p, k)]) ps.length).isNone
def freePs (ps : List Pr) (p : Pa) : List Pr := ps.filter fun x => !decide (x.1 = p)
def freeR (ps : List Pr) (p : Pa) : List Pa := ((waitL ps).filter fun x => !decide (x.1 = p) && !decide (x.1 ∈ (waitL (freePs ps p)).map (·.1))).map (·.1)
def standsB (ps : List Pr) (p : Pa) (k : Lk) : Bool := (heldL ps).all fun x => decide (x.1 = p) || besideB x.2 k
def behindO (ps : List Pr) (p : Pa) : Option Pa := (wplace ps p).bind fun k => (hind ps k).bind fun j => (ps[j]?).map (·.1)
theorem range_filter_succ {f : Nat → Bool} (i : Nat) : (List.range (i + 1)).filter f = (List.range i).filter f ++ (if f i = true then [i] else []) := by
  rw [List.range_succ, List.filter_append]
  congr 1
  rw [List.filter_cons]
  rfl
end Lo

set_option maxHeartbeats 1000000
/-! what the functions about locks do, and what of the top they ask -/
namespace Lo
open PySem L2
/-- a tuple of the module -/
def ModT (K : PySem.W.Frag) (a : Addr) (xs : List V) : Prop := ∃ (o : Obj) (its : Array Value) (n : Nat), K.lookup a = some o ∧ o.cls = .type "tuple" ∧ o.data = .seq its n ∧ its.size ≤ sizeLine ∧ Vals xs its.toList
theorem ModT.sq {K : PySem.W.Frag} {a : Addr} {xs : List V} {H : Hp} (h : ModT K a xs) : SqU K H a xs := .inr h
theorem modT2 {K : PySem.W.Frag} {a : Addr} {x y : Str} {t t' : Tok} {od : Option Addr} {n : Nat} {sl : Array (Option Value)} (h : K.lookup a = some ⟨.type "tuple", od, .seq #[.str x t, .str y t'] n, sl⟩) : ModT K a [.str x, .str y] :=
  ⟨_, _, n, h, rfl, rfl, by show 2 ≤ sizeLine; decide, .cons ⟨_, rfl⟩ (.cons ⟨_, rfl⟩ .nil)⟩
theorem modT3 {K : PySem.W.Frag} {a b c d : Addr} {od : Option Addr} {n : Nat} {sl : Array (Option Value)} (h : K.lookup a = some ⟨.type "tuple", od, .seq #[.ref b, .ref c, .ref d] n, sl⟩) : ModT K a [.ref b, .ref c, .ref d] :=
  ⟨_, _, n, h, rfl, rfl, by show 3 ≤ sizeLine; decide, .cons rfl (.cons rfl (.cons rfl .nil))⟩
/-- built-in names that the program leaves alone -/
structure TxB (mg : Str → Option Value) : Prop where
  isi : mg "isinstance" = none
  int : mg "int" = none
  bool : mg "bool" = none
  str : mg "str" = none
  len : mg "len" = none
  range : mg "range" = none
  tuple : mg "tuple" = none
  list : mg "list" = none
  any : mg "any" = none
  all : mg "all" = none
  max : mg "max" = none
  sorted : mg "sorted" = none
structure TxK (K : PySem.W.Frag) (C : Kd → Addr) : Prop where
  cl : ∀ k, Cls K (C k)
  nF : ∀ k, NoAttr K (C k) "first"
  nL : ∀ k, NoAttr K (C k) "last"
def ranksD : List (Str × PyProof.Rows.KTD.Dat) := [("read", .flat (.int 0)), ("mean", .flat (.int 1)), ("change", .flat (.int 2))]
theorem rank_at (k : Kd) : PyProof.Rows.KTD.datumAt (kdS k) ranksD = some (.flat (.int (rank k))) := by
  cases k <;> kernel_rfl
structure TxS (K : PySem.W.Frag) (mg : Str → Option Value) : Prop where
  sh : ∃ aS a0 a1 a2, mg "SHARING" = some (.ref aS) ∧ ModT K aS [.ref a0, .ref a1, .ref a2] ∧ ModT K a0 [.str "read", .str "read"] ∧ ModT K a1 [.str "read", .str "mean"] ∧ ModT K a2 [.str "mean", .str "read"]
structure TxR (K : PySem.W.Frag) (mg : Str → Option Value) : Prop where
  rk : ∃ aR, mg "RANKS" = some (.ref aR) ∧ TabK K aR ranksD
structure TxL (K : PySem.W.Frag) (C : Kd → Addr) (CL : Addr) : Prop where
  cl : Cls K CL
  nP : NoAttr K CL "pairs"
  ne : ∀ k, C k ≠ CL
theorem tab_mk {K : PySem.W.Frag} {a : Addr} {es : Array DictEntry} {n : Nat} {D : List (Str × PyProof.Rows.KTD.Dat)} (h : K.lookup a = some ⟨.type "dict", none, .dict es n, #[]⟩) (z : (a == sysModules) = false) (r : PyProof.Rows.KTD.rowsLook datL es.toList D = true) : TabK K a D := by
  unfold TabK PyProof.Rows.KTD.tabLook
  rw [z]
  show (true && (match K.lookup a with | some o => _ | none => false)) = true
  rw [h]
  simp [r]
def kdN : Kd → Str
  | .read => "Read"
  | .mean => "Mean"
  | .change => "Change"
/-! ### promises -/
def spKind (k : Kd) : Sp := fun vs H Q _ => ∃ v, vs = [v] ∧ Q (.str (kdS k)) H
def spLInit (C : Kd → Addr) : Sp := fun vs H Q _ => ∃ a dx k f l, vs = [.ref a, .int f, .int l] ∧ H a = some (.ins (C k) dx []) ∧ Q .non (upd (upd H a (.ins (C k) dx (putF "first" (.int f) []))) a (.ins (C k) dx (lf f l)))
def spTold (C : Kd → Addr) : Sp := fun vs H Q _ => ∃ v k, vs = [v] ∧ LkO C H k v ∧ ∀ a, H a = none → Q (.ref a) (upd H a (.tup [.str (kdS k.1), .int k.2.1, .int k.2.2]))
def spBeside (C : Kd → Addr) : Sp := fun vs H Q _ => ∃ v u k j, vs = [v, u] ∧ LkO C H k v ∧ LkO C H j u ∧ ∀ H', Same H H' → Q (.bl (besideB k j)) H'
def spCovers (C : Kd → Addr) : Sp := fun vs H Q _ => ∃ v u k j, vs = [v, u] ∧ LkO C H k v ∧ LkO C H j u ∧ ∀ H', Same H H' → Q (.bl (coversB k j)) H'
def spLockOf (C : Kd → Addr) (K : PySem.W.Frag) : Sp := fun vs H Q _ => ∃ v k, vs = [v] ∧ cLk.rp K H k v ∧ ∀ u H', Same H H' → LkO C H' k u → Q u H'
theorem mk_same {H : Hp} {x dx : Addr} {o1 o2 o3 o4 : HO} (nx : H x = none) (nd : H dx = none) : Same H (upd (upd (upd (upd H dx o1) x o2) x o3) x o4) := fun b o e => by
  have n1 : b ≠ x := ne_of_none e nx
  have n2 : b ≠ dx := ne_of_none e nd
  rw [upd_ne n1, upd_ne n1, upd_ne n1, upd_ne n2]
  exact e
theorem lp_pairs {v : V} : ([("pairs", v)] : List (Str × V)).lookup ("pairs" : Str) = some v := by
  show (putF "pairs" v []).lookup ("pairs" : Str) = some v
  rw [lookup_putF, if_pos rfl]
theorem lp_no {v : V} {m : Str} (h : ¬ m = "pairs") : ([("pairs", v)] : List (Str × V)).lookup m = none := by
  show (putF "pairs" v []).lookup m = none
  rw [lookup_putF, if_neg h]
  rfl
theorem lp_put {v u : V} : putF "pairs" u ([("pairs", v)] : List (Str × V)) = ([("pairs", u)] : List (Str × V)) := by
  show (if ("pairs" : Str) = "pairs" then [(("pairs" : Str), u)] else (("pairs" : Str), v) :: putF "pairs" u []) = ([("pairs", u)] : List (Str × V))
  rw [if_pos rfl]
section
variable (C : Kd → Addr) (CL : Addr) (K : PySem.W.Frag)
def spLsInit : Sp := fun vs H Q _ => ∃ l dx, vs = [.ref l] ∧ H l = some (.ins CL dx []) ∧ ∀ p H', H p = none → H' p = some (.lst []) → H' l = some (.ins CL dx [("pairs", .ref p)]) → Kp l H H' → Q .non H'
def spHind : Sp := fun vs H Q _ => ∃ l p ps k, vs = [.ref l, .int (k : Nat)] ∧ LS C CL K H l p ps ∧ k < ps.length ∧ ps.length ≤ 1000 ∧ ∀ H', Same H H' → Q (optV (hind ps k)) H'
def spPairs (f : List Pr → List Pr) : Sp := fun vs H Q _ => ∃ l p ps, vs = [.ref l] ∧ LS C CL K H l p ps ∧ ps.length ≤ 1000 ∧ ∀ q H' us, Same H H' → H q = none → H' q = some (.lst us) → Paired (PrO C K H') (f ps) us → Q (.ref q) H'
def spTolds (f : List Pr → List Pr) : Sp := fun vs H Q _ => ∃ l p ps, vs = [.ref l] ∧ LS C CL K H l p ps ∧ ps.length ≤ 1000 ∧ ∀ q H' us, Same H H' → H q = none → H' q = some (.lst us) → Paired (cPr.rp K H') (f ps) us → Q (.ref q) H'
def spWPlace : Sp := fun vs H Q _ => ∃ l p ps v x, vs = [.ref l, v] ∧ LS C CL K H l p ps ∧ ps.length ≤ 1000 ∧ cPa.rp K H x v ∧ ∀ H', Same H H' → Q (optV (wplace ps x)) H'
def spAsk : Sp := fun vs H Q _ => ∃ l p ps v x u k, vs = [.ref l, v, u] ∧ LS C CL K H l p ps ∧ ps.length < 1000 ∧ cPa.rp K H x v ∧ LkO C H k u ∧ wplace ps x = none ∧ ∀ H', LS C CL K H' l p (askPs ps x k) → Kp p H H' → Q (.bl (askR ps x k)) H'
def spFree : Sp := fun vs H Q _ => ∃ l p ps v x, vs = [.ref l, v] ∧ LS C CL K H l p ps ∧ ps.length ≤ 1000 ∧ cPa.rp K H x v ∧ ∀ q p' H' us, LS C CL K H' l p' (freePs ps x) → H p' = none → Kp l H H' → H q = none → H' q = some (.lst us) → Paired (cPa.rp K H') (freeR ps x) us → Q (.ref q) H'
def spStands : Sp := fun vs H Q _ => ∃ l p ps v x u k, vs = [.ref l, v, u] ∧ LS C CL K H l p ps ∧ ps.length ≤ 1000 ∧ cPa.rp K H x v ∧ LkO C H k u ∧ ∀ H', Same H H' → Q (.bl (standsB ps x k)) H'
def spBehind : Sp := fun vs H Q _ => ∃ l p ps v x, vs = [.ref l, v] ∧ LS C CL K H l p ps ∧ ps.length ≤ 1000 ∧ cPa.rp K H x v ∧
  ((behindO ps x = none ∧ ∀ H', Same H H' → Q .non H') ∨ ∃ y, behindO ps x = some y ∧ ∀ u H', Same H H' → cPa.rp K H' y u → Q u H')
end
theorem wplace_some {ps : List Pr} {p : Pa} {i : Nat} (hi : i < ps.length) (h : wpl ps p i = true) (h0 : ∀ j, j < i → wpl ps p j = false) : wplace ps p = some i := by
  unfold wplace
  rw [List.find?_range_eq_some]
  exact ⟨h, List.mem_range.mpr hi, fun j hj => by rw [h0 j hj]; rfl⟩
theorem wplace_none {ps : List Pr} {p : Pa} (h0 : ∀ j, j < ps.length → wpl ps p j = false) : wplace ps p = none := by
  unfold wplace
  rw [List.find?_range_eq_none]
  exact fun j hj => by rw [h0 j hj]; rfl
theorem wplace_of {ps : List Pr} {p : Pa} {i : Nat} (h : wplace ps p = some i) : i < ps.length ∧ wpl ps p i = true ∧ ∀ j, j < i → wpl ps p j = false := by
  unfold wplace at h
  rw [List.find?_range_eq_some] at h
  exact ⟨List.mem_range.mp h.2.1, h.1, fun j hj => by simpa using h.2.2 j hj⟩
theorem wplace_of0 {ps : List Pr} {p : Pa} (h : wplace ps p = none) : ∀ j, j < ps.length → wpl ps p j = false := by
  unfold wplace at h
  rw [List.find?_range_eq_none] at h
  exact fun j hj => by simpa using h j hj
theorem bnd {n : Nat} (h : n ≤ 1000) : -(2 ^ 62) ≤ (n : Int) ∧ (n : Int) < 2 ^ 62 := by
  constructor <;> omega
theorem small {n : Nat} (h : n ≤ 1000) : n ≤ sizeLine := Nat.le_of_lt (small1000 h)
/-! ### the laws' own -/
def cellAt (ns : List Int) (k : Nat) : Int := (ns[k]?).getD 0
def spCell (K : PySem.W.Frag) : Sp := fun vs H Q _ => ∃ a ns k, vs = [.ref a, .int (k : Nat)] ∧ SqL K H a ((ns : List Int).map V.int) ∧ Q (.int (cellAt ns k)) H
def namesL (c : Int) : List Pa := [(c % 5, c / 5 % 17), (c % 5, c / 5 % 17 + 1), ((c % 5 + 1) % 5, c / 5 % 17), ((c % 5 + 3) % 5, c / 5 % 17 + 2)]
def spNames (K : PySem.W.Frag) : Sp := fun vs H Q _ => ∃ c, vs = [.int c] ∧ ∀ q H' us, Same H H' → H q = none → H' q = some (.lst us) → Paired (cPa.rp K H') (namesL c) us → Q (.ref q) H'
def toldL (c b : Int) : Lk := (kdOf (c % 3), b + c / 3 % 9, b + c / 3 % 9 + c / 27 % 10)
def spLTold (K : PySem.W.Frag) : Sp := fun vs H Q _ => ∃ c b, vs = [.int c, .int b] ∧ ∀ v H', Same H H' → cLk.rp K H' (toldL c b) v → Q v H'
def spLBeside (K : PySem.W.Frag) : Sp := fun vs H Q _ => ∃ v u k j, vs = [v, u] ∧ cLk.rp K H k v ∧ cLk.rp K H j u ∧ ∀ H', Same H H' → Q (.bl (besideB k j)) H'
def spLCovers (K : PySem.W.Frag) : Sp := fun vs H Q _ => ∃ v u k j, vs = [v, u] ∧ cLk.rp K H k v ∧ cLk.rp K H j u ∧ ∀ H', Same H H' → Q (.bl (coversB k j)) H'
theorem kds_at (i : Int) (h0 : 0 ≤ i) (h3 : i < 3) : atI ([.str "read", .str "mean", .str "change"] : List V) i = some (.str (kdS (kdOf i))) := by
  rcases (by omega : i = 0 ∨ i = 1 ∨ i = 2) with e | e | e <;> subst e <;> rfl
def rkN : Kd → Nat
  | .read => 0
  | .mean => 1
  | .change => 2
def srt (a b : Str) : List Str := if b.cps.toList < a.cps.toList then [b, a] else [a, b]
end Lo
namespace Lo
open PySem L2
theorem pick_len {α : Type} (xs : List α) (ix : List Nat) : (pick xs ix).length ≤ ix.length := List.length_filterMap_le _ _
theorem heldL_len (ps : List Pr) : (heldL ps).length ≤ ps.length := by
  refine Nat.le_trans (pick_len _ _) ?_
  unfold heldIx
  exact Nat.le_trans (List.length_filter_le _ _) (Nat.le_of_eq List.length_range)
theorem waitL_len (ps : List Pr) : (waitL ps).length ≤ ps.length := by
  refine Nat.le_trans (pick_len _ _) ?_
  unfold waitIx
  exact Nat.le_trans (List.length_filter_le _ _) (Nat.le_of_eq List.length_range)
end Lo
namespace Lo
open PySem L2
section
variable {K : PySem.W.Frag}
theorem kit_tt : PySem.W.kitOne K (.type "tuple") (.type "tuple") = some true := rfl
end
def spWhole : Sp := fun vs H Q _ => ∃ i, vs = [.int i] ∧ Q (.bl true) H
def spNum : Sp := fun vs H Q _ => ∃ c, vs = [.int c] ∧ ∀ i, Q (.int i) H
def spIs : Sp := fun vs H Q _ => ∃ a b, vs = [.bl a, .bl b] ∧ Q (.bl (decide (a = b))) H
structure TxI (K : PySem.W.Frag) (mg : Str → Option Value) (C : Kd → Addr) (CB : Addr) : Prop where
  mgB : mg "Lock" = some (.ref CB)
  ha : ∀ k, PySem.W.findIn K (.ref (C k)) "__class__" = some (some (.builtin "object.__class__"))
  hn : PySem.W.specialIn K (.builtin "object.__class__") "__get__" = some (some (.builtin "getset_descriptor.__get__"))
  htk : PySem.W.takesIn K (.builtin "object.__class__") = some true
  hm : ∀ k, PySem.W.mroIn K (C k) (.type "object") = some true
  isB : ∀ k, PySem.W.kitOne K (.ref (C k)) (.ref CB) = some true
structure TxJ (K : PySem.W.Frag) (C : Kd → Addr) : Prop where
  isK : ∀ k j, PySem.W.kitOne K (.ref (C k)) (.ref (C j)) = some (decide (k = j))
def spLaw (K : PySem.W.Frag) : Sp := fun vs H Q _ => ∃ a ns, vs = [.ref a] ∧ SqL K H a ((ns : List Int).map V.int) ∧ ns.length ≤ 63 ∧ ∀ H', Q (.bl true) H'
end Lo
namespace Lo
open PySem L2
theorem pss_weak {X : Cx} {st : List Stmt} {t : TS} (u : TS) (h : PSs X st t) (hw : ∀ D σ H, u D σ H → t D σ H) : PSs X st u := fun pins s σ H D I q => h pins s σ H D I (hw D σ H q)
end Lo

set_option maxHeartbeats 1000000
namespace Lo
open PySem L2
section
variable {K : PySem.W.Frag} {a : Addr} {tt : TT} {te : TE} {bl : St} {Fin : List V → Hp → Prop} {H : Hp}
theorem take_at {α : Type} {xs : List α} {i : Nat} {x : α} (h : xs[i]? = some x) : xs.take (i + 1) = xs.take i ++ [x] := by
  rw [List.take_succ, h]
  rfl
/-- [g(x) for x in xs if f(x)] -/
theorem lc_fm {α β : Type} [DecidableEq α] [DecidableEq β] {c : Cod α} {d : Cod β} {xs : List α} {us : List V} (px : Paired (c.rp K H) xs us) (hq : SqL K H a us) (hn : us.length ≤ sizeLine) (ft : α → Bool) (g : α → β)
    (ht : ∀ x u H1 (Q : Bool → Hp → Prop), x ∈ xs → c.rp K H1 x u → Same H H1 → (∀ H2, Same H1 H2 → Q (ft x) H2) → tt (some u :: bl) H1 Q)
    (he : ∀ x u H1 (Q : VK), x ∈ xs → c.rp K H1 x u → Same H H1 → (∀ v H2, Same H1 H2 → d.rp K H2 (g x) v → Q v H2) → te (some u :: bl) H1 Q)
    (hd : ∀ ys H1, Same H H1 → Paired (d.rp K H1) ((xs.filter ft).map g) ys → Fin ys H1) :
    ∃ (W : Nat → List V → Hp → Prop) (n : Nat), W 0 [] H ∧ n ≤ sizeLine ∧ ∀ i ys H, W i ys H → ((Itl K a).stop i H ∧ Fin ys H) ∨
      ((Itl K a).go i H ∧ i < n ∧ ∀ x H', (Itl K a).yld i H x H' → tt (some x :: bl) H' fun c H2 => if c = true then te (some x :: bl) H2 fun y H3 => W (i + 1) (ys ++ [y]) H3 else W (i + 1) ys H2) := by
  refine lc_list (xs := us) (fun i ys H1 => Same H H1 ∧ Paired (d.rp K H1) (((xs.take i).filter ft).map g) ys) ⟨Same.refl _, .nil⟩ hn (fun i ys H1 _ z => z.1.seq hq) ?_ ?_
  · rintro i u ys H1 hu ⟨s1, py⟩
    obtain ⟨x, ex, rx⟩ := px.get hu
    have hm : x ∈ xs := List.mem_of_getElem? ex
    refine ht x u H1 _ hm (c.keep s1.ts rx) s1 fun H2 s2 => ?_
    have e := take_at ex
    cases ef : ft x with
    | true =>
      refine iteT (he x u H2 _ hm (c.keep (s1.trans s2).ts rx) (s1.trans s2) fun v H3 s3 rv => ⟨(s1.trans s2).trans s3, ?_⟩)
      rw [e, List.filter_append, List.map_append]
      simp only [List.filter_cons, List.filter_nil, ef, if_true, List.map_cons, List.map_nil]
      exact (pp py fun _ _ z => d.keep (s2.trans s3).ts z).app (.cons rv .nil)
    | false =>
      refine iteF ⟨s1.trans s2, ?_⟩
      rw [e, List.filter_append, List.map_append]
      simp only [List.filter_cons, List.filter_nil, ef, Bool.false_eq_true, if_false, List.map_nil, List.append_nil]
      exact pp py fun _ _ z => d.keep s2.ts z
  · rintro ys H1 ⟨s1, py⟩
    rw [← px.len, List.take_length] at py
    exact hd ys H1 s1 py
/-- [g(x, y) for x, y in xs if f(x, y)] -/
theorem lc_fm2 {α β γ : Type} [DecidableEq α] [DecidableEq β] [DecidableEq γ] {c : Cod α} {c2 : Cod β} {d : Cod γ} {xs : List (α × β)} {us : List V} {σ : St} {fv : List Nat} (px : Paired ((cT2 c c2).rp K H) xs us) (hq : SqL K H a us) (hn : us.length ≤ sizeLine) (ft : α × β → Bool) (g : α × β → γ)
    (ht : ∀ x u w H1 (Q : Bool → Hp → Prop), x ∈ xs → c.rp K H1 x.1 u → c2.rp K H1 x.2 w → Same H H1 → (∀ H2, Same H1 H2 → Q (ft x) H2) → tt (some u :: some w :: blkVals fv σ) H1 Q)
    (he : ∀ x u w H1 (Q : VK), x ∈ xs → c.rp K H1 x.1 u → c2.rp K H1 x.2 w → Same H H1 → (∀ v H2, Same H1 H2 → d.rp K H2 (g x) v → Q v H2) → te (some u :: some w :: blkVals fv σ) H1 Q)
    (hd : ∀ ys H1, Same H H1 → Paired (d.rp K H1) ((xs.filter ft).map g) ys → Fin ys H1) :
    ∃ (W : Nat → List V → Hp → Prop) (n : Nat), W 0 [] H ∧ n ≤ sizeLine ∧ ∀ i ys H, W i ys H → ((Itl K a).stop i H ∧ Fin ys H) ∨
      ((Itl K a).go i H ∧ i < n ∧ ∀ x H', (Itl K a).yld i H x H' → gPair K x (bv 2 fv σ) H' fun σ' H'' => Ext (bv 2 fv σ) σ' ∧ tt σ' H'' fun c H2 => if c = true then te σ' H2 fun y H3 => W (i + 1) (ys ++ [y]) H3 else W (i + 1) ys H2) := by
  refine lc_pair (xs := us) (fun i ys H1 => Same H H1 ∧ Paired (d.rp K H1) (((xs.take i).filter ft).map g) ys) ⟨Same.refl _, .nil⟩ hn (fun i ys H1 _ z => z.1.seq hq) ?_ ?_
  · rintro i u ys H1 hu ⟨s1, py⟩
    obtain ⟨x, ex, rx⟩ := px.get hu
    have hm : x ∈ xs := List.mem_of_getElem? ex
    obtain ⟨b, u1, u2, rfl, hb, r1, r2⟩ := (cT2 c c2).keep s1.ts rx
    refine ⟨b, u1, u2, rfl, hb.sq, ht x u1 u2 H1 _ hm r1 r2 s1 fun H2 s2 => ?_⟩
    have e := take_at ex
    cases ef : ft x with
    | true =>
      refine iteT (he x u1 u2 H2 _ hm (c.keep s2.ts r1) (c2.keep s2.ts r2) (s1.trans s2) fun v H3 s3 rv => ⟨(s1.trans s2).trans s3, ?_⟩)
      rw [e, List.filter_append, List.map_append]
      simp only [List.filter_cons, List.filter_nil, ef, if_true, List.map_cons, List.map_nil]
      exact (pp py fun _ _ z => d.keep (s2.trans s3).ts z).app (.cons rv .nil)
    | false =>
      refine iteF ⟨s1.trans s2, ?_⟩
      rw [e, List.filter_append, List.map_append]
      simp only [List.filter_cons, List.filter_nil, ef, Bool.false_eq_true, if_false, List.map_nil, List.append_nil]
      exact pp py fun _ _ z => d.keep s2.ts z
  · rintro ys H1 ⟨s1, py⟩
    rw [← px.len, List.take_length] at py
    exact hd ys H1 s1 py
end
/-! ### one pact alone -/
end Lo
namespace Lo
open PySem L2
theorem LS.ins {C : Kd → Addr} {CL : Addr} {K : PySem.W.Frag} {H : Hp} {l p : Addr} {ps : List Pr} (h : LS C CL K H l p ps) : ∃ dx, H l = some (.ins CL dx [("pairs", .ref p)]) := by
  obtain ⟨dx, vs, e1, _⟩ := h
  exact ⟨dx, e1⟩
theorem LS.lst {C : Kd → Addr} {CL : Addr} {K : PySem.W.Frag} {H : Hp} {l p : Addr} {ps : List Pr} (h : LS C CL K H l p ps) : ∃ vs, H p = some (.lst vs) := by
  obtain ⟨dx, vs, _, e2, _⟩ := h
  exact ⟨vs, e2⟩
end Lo
namespace Lo
open PySem L2
theorem cut_ints (ns : List Int) (lo hi : Option Int) : ∃ cs : List Int, cutV (ns.map V.int) lo hi = cs.map V.int ∧ cs.length ≤ ns.length := by
  refine ⟨(ns.drop (HT.sIx (ns.map V.int).length 0 lo)).take (HT.sIx (ns.map V.int).length (ns.map V.int).length hi - HT.sIx (ns.map V.int).length 0 lo), ?_, ?_⟩
  · unfold cutV
    rw [List.map_take, List.map_drop]
  · rw [List.length_take, List.length_drop]
    omega
theorem int_at {cs : List Int} {i : Nat} {x : V} (h : (cs.map V.int)[i]? = some x) : ∃ c, x = .int c := by
  rw [List.getElem?_map] at h
  cases e : cs[i]? with
  | none => rw [e] at h; cases h
  | some c => rw [e] at h; exact ⟨c, (Option.some.inj h).symm⟩
theorem filt_true {α : Type} (xs : List α) : xs.filter (fun _ => true) = xs := List.filter_eq_self.mpr fun _ _ => rfl
/-- a new house's locks -/
theorem new_locks {CL l dl : Addr} {H H1 : Hp} (nl : H l = none) (nd : H dl = none) (k : Kp l (upd (upd H dl (.own l)) l (.ins CL dl [])) H1) : Same H H1 := fun b o e => by
  have n1 : b ≠ l := ne_of_none e nl
  have n2 : b ≠ dl := ne_of_none e nd
  refine k b o n1 ?_
  rw [upd_ne n1, upd_ne n2]
  exact e
end Lo

set_option maxHeartbeats 1000000
/-! the list of pairs, by what stands ahead -/
namespace Lo
open PySem L2
def clear (pre : List Pr) (x : Pr) : Bool := pre.all fun a => decide (a.1 = x.1) || besideB a.2 x.2
def heldR : List Pr → List Pr → List Pr
  | _, [] => []
  | pre, x :: r => if clear pre x = true then x :: heldR (pre ++ [x]) r else heldR (pre ++ [x]) r
def waitR : List Pr → List Pr → List Pr
  | _, [] => []
  | pre, x :: r => if clear pre x = true then waitR (pre ++ [x]) r else x :: waitR (pre ++ [x]) r
theorem hind_clear {ps : List Pr} {k : Nat} {x : Pr} (h : ps[k]? = some x) : (hind ps k).isNone = clear (ps.take k) x := by
  have hk : k < ps.length := (List.getElem?_eq_some_iff.mp h).1
  rw [Bool.eq_iff_iff]
  unfold clear
  rw [List.all_eq_true]
  constructor
  · intro z a ha
    have hn : hind ps k = none := by cases e : hind ps k with | none => rfl | some j => rw [e] at z; cases z
    obtain ⟨j, hj, e⟩ := List.getElem_of_mem ha
    rw [List.length_take] at hj
    have hj' : j < k := by omega
    have hb0 := hind_of0 hn j hj'
    have ej : ps[j]? = some a := by rw [← e, List.getElem_take]; exact List.getElem?_eq_getElem _
    unfold hb at hb0
    rw [ej, h] at hb0
    have hb1 : (!decide (a.1 = x.1) && !besideB a.2 x.2) = false := hb0
    cases e1 : decide (a.1 = x.1) with
    | true => rfl
    | false => rw [e1] at hb1; simpa using hb1
  · intro z
    rw [hind_none fun j hj => ?_]
    · rfl
    unfold hb
    rw [h, List.getElem?_eq_getElem (by omega)]
    have hm : ps[j] ∈ ps.take k := by
      rw [List.mem_take_iff_getElem]
      exact ⟨j, by omega, rfl⟩
    have := z _ hm
    show (!decide (ps[j].1 = x.1) && !besideB ps[j].2 x.2) = false
    rw [← Bool.not_or, this]
    rfl
def Ok2 (a b : Pr) : Prop := a.1 = b.1 ∨ besideB a.2 b.2 = true
theorem clear_of {pre : List Pr} {x : Pr} (h : clear pre x = true) : ∀ a ∈ pre, Ok2 a x := fun a ha => by
  have := List.all_eq_true.mp h a ha
  rcases Bool.or_eq_true_iff.mp this with z | z
  · exact .inl (of_decide_eq_true z)
  · exact .inr z
theorem of_clear {pre : List Pr} {x : Pr} (h : ∀ a ∈ pre, Ok2 a x) : clear pre x = true := List.all_eq_true.mpr fun a ha => by
  rcases h a ha with z | z
  · rw [decide_eq_true z, Bool.true_or]
  · rw [z, Bool.or_true]
theorem mem_pick {α : Type} {xs : List α} {ix : List Nat} {x : α} : x ∈ pick xs ix ↔ ∃ k ∈ ix, xs[k]? = some x := by
  unfold pick
  rw [List.mem_filterMap]
theorem wplace_iff {ps : List Pr} {p : Pa} : wplace ps p = none ↔ p ∉ (waitL ps).map (·.1) := by
  constructor
  · intro h hm
    obtain ⟨x, hx, e⟩ := List.mem_map.mp hm
    obtain ⟨k, hk, ek⟩ := mem_pick.mp hx
    unfold waitIx at hk
    obtain ⟨h1, h2⟩ := List.mem_filter.mp hk
    have hw := wplace_of0 h k (List.mem_range.mp h1)
    unfold wpl at hw
    rw [ek] at hw
    have hw' : (decide (x.1 = p) && (hind ps k).isSome) = false := hw
    rw [decide_eq_true e, h2] at hw'
    cases hw'
  · intro h
    refine wplace_none fun k hk => ?_
    unfold wpl
    rw [List.getElem?_eq_getElem hk]
    show (decide (ps[k].1 = p) && (hind ps k).isSome) = false
    cases e1 : decide (ps[k].1 = p) with
    | false => rfl
    | true =>
      cases e2 : (hind ps k).isSome with
      | false => rfl
      | true =>
        refine absurd (List.mem_map.mpr ⟨ps[k], mem_pick.mpr ⟨k, ?_, List.getElem?_eq_getElem hk⟩, of_decide_eq_true e1⟩) h
        unfold waitIx
        exact List.mem_filter.mpr ⟨List.mem_range.mpr hk, e2⟩
/-! ### tuples that are told -/
section
variable {X : Cx}
theorem call_isinstT : CallR X (.builtin "isinstance") (fun xs H Q => ∃ a ys, xs = [.ref a, .ty "tuple"] ∧ SqT X.K H a ys ∧ Q (.bl true) H) := by
  intro pins s σ H xs us Q I r h
  obtain ⟨a, ys, rfl, hq, q⟩ := h
  obtain ⟨u, w', rfl, r1, r2⟩ := vals2 r
  cases r1
  cases r2
  obtain ⟨its, rv, ⟨o, ho, hc, n, hd⟩, hz⟩ := I.tuple hq
  exact PySem.W.kia_one PySem.W.kitx_tuple I.kIn ⟨_, ho, hc⟩ (kit_tt (K := X.K)) (fun z => nomatch z) fun tk => ⟨.bl true, H, I.tok tk, rfl, q⟩
end
end Lo

set_option maxHeartbeats 1000000
/-! a house's locks beside lists of the law's own -/
namespace Lo
open PySem L2
section
variable {C : Kd → Addr} {CL : Addr} {K : PySem.W.Frag} {H H' : Hp} {l pl pl' d : Addr} {ps ps' : List Pr} {own : List (Addr × List V)} {xs ys : List V}
def HS (C : Kd → Addr) (CL : Addr) (K : PySem.W.Frag) (l pl : Addr) (ps : List Pr) (own : List (Addr × List V)) (H : Hp) : Prop :=
  LS C CL K H l pl ps ∧ (∀ q ∈ own, H q.1 = some (.lst q.2)) ∧ (∀ q ∈ own, q.1 ≠ pl) ∧ (own.map (·.1)).Nodup
theorem HS.keep (hC : ∀ k, C k ≠ CL) (e : Same H H') (h : HS C CL K l pl ps own H) : HS C CL K l pl ps own H' := ⟨h.1.keep hC e, fun q hq => e _ _ (h.2.1 q hq), h.2.2⟩
theorem HS.asked (e : Kp pl H H') (n : LS C CL K H' l pl ps') (h : HS C CL K l pl ps own H) : HS C CL K l pl ps' own H' := ⟨n, fun q hq => e _ _ (h.2.2.1 q hq) (h.2.1 q hq), h.2.2⟩
theorem HS.fsA (e : Kp pl H H') (h : HS C CL K l pl ps own H) : FSame CL H H' := by
  obtain ⟨vs, e2⟩ := h.1.lst
  exact e.fs e2
theorem HS.freed (e : Kp l H H') (n : LS C CL K H' l pl' ps') (f : H pl' = none) (h : HS C CL K l pl ps own H) : HS C CL K l pl' ps' own H' := by
  obtain ⟨dx, e1⟩ := h.1.ins
  refine ⟨n, fun q hq => e _ _ (fun z => ?_) (h.2.1 q hq), fun q hq z => ?_, h.2.2.2⟩
  · have := h.2.1 q hq
    rw [z, e1] at this
    cases this
  · have := h.2.1 q hq
    rw [z, f] at this
    cases this
theorem HS.fsF (e : Kp l H H') (h : HS C CL K l pl ps own H) : FSame CL H H' := by
  obtain ⟨dx, e1⟩ := h.1.ins
  exact e.fsi e1
theorem HS.old (hd : H d = some (.lst xs)) (hp : d ≠ pl) (hn : d ∉ own.map (·.1)) (h : HS C CL K l pl ps own H) : HS C CL K l pl ps ((d, xs) :: own) H :=
  ⟨h.1, fun q hq => (List.mem_cons.mp hq).elim (fun e => by subst e; exact hd) (h.2.1 q), fun q hq => (List.mem_cons.mp hq).elim (fun e => by subst e; exact hp) (h.2.2.1 q), List.nodup_cons.mpr ⟨hn, h.2.2.2⟩⟩
theorem HS.at0 (h : HS C CL K l pl ps ((d, xs) :: own) H) : H d = some (.lst xs) := h.2.1 (d, xs) List.mem_cons_self
theorem HS.at1 {e : Addr × List V} (h : HS C CL K l pl ps (e :: (d, xs) :: own) H) : H d = some (.lst xs) := h.2.1 (d, xs) (List.mem_cons_of_mem _ List.mem_cons_self)
end
theorem pair_at {α : Type} [DecidableEq α] {c : Cod α} {K : PySem.W.Frag} {H : Hp} {xs : List α} {us : List V} {i : Int} (h : Paired (c.rp K H) xs us) (h0 : 0 ≤ i) (h1 : i < (xs.length : Nat)) : ∃ x u, xs[i.toNat]? = some x ∧ atI us i = some u ∧ c.rp K H x u := by
  have hk : i.toNat < xs.length := by omega
  obtain ⟨u, eu, ru⟩ := h.get1 (List.getElem?_eq_getElem hk)
  refine ⟨xs[i.toNat], u, List.getElem?_eq_getElem hk, ?_, ru⟩
  have := atI_nat eu
  rw [show ((i.toNat : Nat) : Int) = i by omega] at this
  exact this
/-- names and base are told; n names more to come -/
def uN (n : Nat) (K : PySem.W.Frag) : TS := fun D σ H => ∃ a ns nl nus names b, σ = [some (.ref a), some (.ref nl), some (.int b)] ++ List.replicate n none ∧ SqL K H a ((ns : List Int).map V.int) ∧ ns.length ≤ 63 ∧ H nl = some (.lst nus) ∧ Paired (cPa.rp K H) names nus ∧ names.length = 4 ∧ ∀ H', D.rt (.bl true) H'
theorem askPs_len (ps : List Pr) (p : Pa) (k : Lk) : (askPs ps p k).length ≤ ps.length + 1 := by
  unfold askPs
  split
  · omega
  · rw [List.length_append]; exact Nat.le_refl _
theorem freePs_len (ps : List Pr) (p : Pa) : (freePs ps p).length ≤ ps.length := List.length_filter_le _ _
end Lo

set_option maxHeartbeats 1000000
/-! who is behind whom, by a cut of the list -/
namespace Lo
open PySem L2
theorem hb_take {ps : List Pr} {n k j : Nat} (hk : k < n) (hj : j < k) : hb (ps.take n) k j = hb ps k j := by
  unfold hb
  rw [List.getElem?_take_of_lt hk, List.getElem?_take_of_lt (by omega)]
theorem hind_take {ps : List Pr} {n k : Nat} (hk : k < n) : hind (ps.take n) k = hind ps k := by
  cases e : hind ps k with
  | none => exact hind_none fun j hj => by rw [hb_take hk hj]; exact hind_of0 e j hj
  | some i =>
    obtain ⟨h1, h2, h3⟩ := hind_of e
    exact hind_some h1 (by rw [hb_take hk h1]; exact h2) fun j hj => by rw [hb_take hk (by omega)]; exact h3 j hj
theorem mem_waitL {ps : List Pr} {j : Nat} {x : Pr} (h : ps[j]? = some x) (hs : (hind ps j).isSome = true) : x ∈ waitL ps := by
  refine mem_pick.mpr ⟨j, ?_, h⟩
  unfold waitIx
  exact List.mem_filter.mpr ⟨List.mem_range.mpr (List.getElem?_eq_some_iff.mp h).1, hs⟩
/-- x waits, and the first that hinders it is y's -/
def Beh (ps : List Pr) (x y : Pa) : Prop := ∃ (pre1 pre2 post : List Pr) (h z : Pr), ps = (pre1 ++ h :: pre2) ++ z :: post ∧ z.1 = x ∧ h.1 = y ∧ y ≠ x ∧ besideB h.2 z.2 = false ∧ clear pre1 z = true ∧ x ∉ (waitL (pre1 ++ h :: pre2)).map (·.1)
theorem get_mid {α : Type} (a b : List α) (x : α) : (a ++ x :: b)[a.length]? = some x := by
  rw [List.getElem?_append_right (Nat.le_refl _), Nat.sub_self]
  rfl
theorem take_mid {α : Type} (a b : List α) : (a ++ b).take a.length = a := by
  rw [List.take_append_of_le_length (Nat.le_refl _), List.take_length]
theorem wplace_cut {ps pre post : List Pr} {z : Pr} (e : ps = pre ++ z :: post) (h1 : clear pre z = false) (h2 : z.1 ∉ (waitL pre).map (·.1)) : wplace ps z.1 = some pre.length := by
  subst e
  have hz : (pre ++ z :: post)[pre.length]? = some z := get_mid _ _ _
  refine wplace_some (by rw [List.length_append]; show pre.length < pre.length + (post.length + 1); omega) ?_ fun j hj => ?_
  · unfold wpl
    rw [hz]
    have : (hind (pre ++ z :: post) pre.length).isNone = false := by rw [hind_clear hz, take_mid]; exact h1
    cases e : hind (pre ++ z :: post) pre.length with
    | none => rw [e] at this; cases this
    | some i => show (decide (z.1 = z.1) && _) = true; rw [decide_eq_true rfl]; rfl
  · have ej : (pre ++ z :: post)[j]? = some pre[j] := by rw [List.getElem?_append_left hj]; exact List.getElem?_eq_getElem hj
    unfold wpl
    rw [ej]
    show (decide (pre[j].1 = z.1) && (hind (pre ++ z :: post) j).isSome) = false
    cases d : decide (pre[j].1 = z.1) with
    | false => rfl
    | true =>
      cases s : (hind (pre ++ z :: post) j).isSome with
      | false => rfl
      | true =>
        have ht := hind_take (ps := pre ++ z :: post) hj
        rw [take_mid] at ht
        rw [← ht] at s
        exact absurd (List.mem_map.mpr ⟨pre[j], mem_waitL (List.getElem?_eq_getElem hj) s, of_decide_eq_true d⟩) h2
theorem behindO_of {ps : List Pr} {x y : Pa} (h : Beh ps x y) : behindO ps x = some y := by
  obtain ⟨pre1, pre2, post, h0, z, rfl, rfl, rfl, hne, hb0, hc, hw⟩ := h
  have hcl : clear (pre1 ++ h0 :: pre2) z = false := by
    cases e : clear (pre1 ++ h0 :: pre2) z with
    | false => rfl
    | true =>
      rcases clear_of e h0 (List.mem_append_right _ List.mem_cons_self) with q | q
      · exact absurd q hne
      · rw [hb0] at q; cases q
  unfold behindO
  rw [wplace_cut rfl hcl hw]
  have ez := get_mid (pre1 ++ h0 :: pre2) post z
  have eh : ((pre1 ++ h0 :: pre2) ++ z :: post)[pre1.length]? = some h0 := by
    rw [List.getElem?_append_left (by rw [List.length_append]; show pre1.length < pre1.length + (pre2.length + 1); omega)]
    exact get_mid _ _ _
  have hi : hind ((pre1 ++ h0 :: pre2) ++ z :: post) (pre1 ++ h0 :: pre2).length = some pre1.length := by
    refine hind_some (by rw [List.length_append]; show pre1.length < pre1.length + (pre2.length + 1); omega) ?_ fun j hj => ?_
    · unfold hb
      rw [eh, ez]
      show (!decide (h0.1 = z.1) && !besideB h0.2 z.2) = true
      rw [decide_eq_false hne, hb0]
      rfl
    · have ej : ((pre1 ++ h0 :: pre2) ++ z :: post)[j]? = some pre1[j] := by
        rw [List.getElem?_append_left (by rw [List.length_append]; omega), List.getElem?_append_left hj]
        exact List.getElem?_eq_getElem hj
      unfold hb
      rw [ej, ez]
      show (!decide (pre1[j].1 = z.1) && !besideB pre1[j].2 z.2) = false
      rcases clear_of hc _ (List.getElem_mem hj) with q | q
      · rw [decide_eq_true q]; rfl
      · rw [q, Bool.not_true, Bool.and_false]
  show ((hind ((pre1 ++ h0 :: pre2) ++ z :: post) (pre1 ++ h0 :: pre2).length).bind fun j => (((pre1 ++ h0 :: pre2) ++ z :: post)[j]?).map (·.1)) = some h0.1
  rw [hi]
  show (((pre1 ++ h0 :: pre2) ++ z :: post)[pre1.length]?).map (·.1) = some h0.1
  rw [eh]
  rfl
theorem cut_at {α : Type} {xs : List α} {k : Nat} {x : α} (h : xs[k]? = some x) : xs = xs.take k ++ x :: xs.drop (k + 1) := by
  obtain ⟨hk, e⟩ := List.getElem?_eq_some_iff.mp h
  rw [← e, ← List.drop_eq_getElem_cons hk, List.take_append_drop]
theorem beh_of {ps : List Pr} {x : Pa} {k : Nat} (hw : wplace ps x = some k) : ∃ y, Beh ps x y := by
  obtain ⟨hk, h1, h2⟩ := wplace_of hw
  have ez : ps[k]? = some ps[k] := List.getElem?_eq_getElem hk
  unfold wpl at h1
  rw [ez] at h1
  have h1' : (decide (ps[k].1 = x) && (hind ps k).isSome) = true := h1
  obtain ⟨hx, hs⟩ := Bool.and_eq_true_iff.mp h1'
  obtain ⟨j, ej⟩ := Option.isSome_iff_exists.mp hs
  obtain ⟨g1, g2, g3⟩ := hind_of ej
  have eh : (ps.take k)[j]? = some ps[j] := by rw [List.getElem?_take_of_lt g1]; exact List.getElem?_eq_getElem _
  have ecut := cut_at ez
  have ecut2 := cut_at eh
  have g2' : (!decide (ps[j].1 = ps[k].1) && !besideB ps[j].2 ps[k].2) = true := by
    unfold hb at g2
    rw [List.getElem?_eq_getElem (show j < ps.length by omega), ez] at g2
    exact g2
  obtain ⟨n1, n2⟩ := Bool.and_eq_true_iff.mp g2'
  have n1' : ¬ ps[j].1 = ps[k].1 := by simpa using n1
  have n2' : besideB ps[j].2 ps[k].2 = false := by simpa using n2
  have hx' : ps[k].1 = x := of_decide_eq_true hx
  refine ⟨ps[j].1, (ps.take k).take j, (ps.take k).drop (j + 1), ps.drop (k + 1), ps[j], ps[k], ?_, hx', rfl, by rw [← hx']; exact n1', n2', ?_, ?_⟩
  · rw [← ecut2]; exact ecut
  · refine of_clear fun a ha => ?_
    rw [List.take_take] at ha
    obtain ⟨i, hi, e⟩ := List.getElem_of_mem ha
    rw [List.length_take] at hi
    have hij : i < j := by omega
    have ei : ps[i]? = some a := by rw [← e, List.getElem_take]; exact List.getElem?_eq_getElem _
    have := g3 i hij
    unfold hb at this
    rw [ei, ez] at this
    have t : (!decide (a.1 = ps[k].1) && !besideB a.2 ps[k].2) = false := this
    by_cases q : a.1 = ps[k].1
    · exact .inl q
    · rw [decide_eq_false q] at t
      exact .inr (by simpa using t)
  · rw [← ecut2]
    intro hm
    obtain ⟨u, hu, eu⟩ := List.mem_map.mp hm
    obtain ⟨i, hi, e⟩ := mem_pick.mp hu
    unfold waitIx at hi
    obtain ⟨i1, i2⟩ := List.mem_filter.mp hi
    have i1' := List.mem_range.mp i1
    rw [List.length_take] at i1'
    have hik : i < k := by omega
    rw [hind_take hik] at i2
    have e' : ps[i]? = some u := by rw [← List.getElem?_take_of_lt hik]; exact e
    have := h2 i hik
    unfold wpl at this
    rw [e'] at this
    have t : (decide (u.1 = x) && (hind ps i).isSome) = false := this
    have eu' : u.1 = x := eu
    rw [decide_eq_true eu', i2] at t
    cases t
theorem beh_iff {ps : List Pr} {x y : Pa} : behindO ps x = some y ↔ Beh ps x y := by
  constructor
  · intro h
    cases hw : wplace ps x with
    | none => unfold behindO at h; rw [hw] at h; cases h
    | some k =>
      obtain ⟨y', b⟩ := beh_of hw
      have := behindO_of b
      rw [h] at this
      cases this
      exact b
  · exact behindO_of
/-! ### None or a pact -/
def orp (K : PySem.W.Frag) (H : Hp) : Option Pa → V → Prop
  | none, v => v = .non
  | some y, v => cPa.rp K H y v
theorem orp.keep {K : PySem.W.Frag} {H H' : Hp} {o : Option Pa} {v : V} (e : TSame H H') (h : orp K H o v) : orp K H' o v := by
  cases o with
  | none => exact h
  | some y => exact cPa.keep e h
section
variable {X : Cx}
end
end Lo

set_option maxHeartbeats 1000000
/-! cuts, numbers -/
namespace Lo
open PySem L2
/-- k-th to wait is x's -/
def wat (ps : List Pr) (x : Pa) (k : Nat) : Bool := ((waitL ps)[k]?).any fun z => decide (z.1 = x)
/-- whom a pact is behind stays, unless one of the two was freed -/
def Lasts (fo : Option Pa) (ps ps' : List Pr) : Prop := ∀ x y, behindO ps x = some y → fo ≠ some y → fo ≠ some x → behindO ps' x = some y
/-- what is known of whom the pacts were behind -/
def Kn (K : PySem.W.Frag) (H : Hp) (names : List Pa) (kus : List V) (i : Nat) (ps ps' : List Pr) : Prop :=
  kus.length = names.length ∧ ∀ j x u, names[j]? = some x → kus[j]? = some u → orp K H (if j < i then behindO ps' x else behindO ps x) u
theorem orp_either {K : PySem.W.Frag} {H : Hp} {o : Option Pa} {Q : V → Hp → Prop} (h : ∀ u H', Same H H' → orp K H' o u → Q u H') : (o = none ∧ ∀ H', Same H H' → Q .non H') ∨ ∃ y, o = some y ∧ ∀ u H', Same H H' → cPa.rp K H' y u → Q u H' := by
  cases o with
  | none => exact .inl ⟨rfl, fun H' s => h _ H' s rfl⟩
  | some y => exact .inr ⟨y, rfl, fun u H' s r => h u H' s r⟩
def spBehindO (C : Kd → Addr) (CL : Addr) (K : PySem.W.Frag) : Sp := fun vs H Q _ => ∃ l p ps v x, vs = [.ref l, v] ∧ LS C CL K H l p ps ∧ ps.length ≤ 1000 ∧ cPa.rp K H x v ∧ ∀ u H', Same H H' → orp K H' (behindO ps x) u → Q u H'
theorem spB_of {C : Kd → Addr} {CL : Addr} {K : PySem.W.Frag} {vs : List V} {H : Hp} {Q : VK} {E : XK} (h : spBehindO C CL K vs H Q E) : spBehind C CL K vs H Q E := by
  obtain ⟨l, p, ps, v, x, h1, h2, h3, h4, h5⟩ := h
  exact ⟨l, p, ps, v, x, h1, h2, h3, h4, orp_either h5⟩
def _root_.L2.GM.imp {P : Program} {w : World} {K : PySem.W.Frag} {mg : Str → Option Value} {base : Heap} {CX : CXT} {k : Nat} {C : Addr} {m : Str} {ps : List Str} {sp sp' : Sp} (G : GM P w K mg base CX k C m ps sp) (h : ∀ vs H Q E, sp' vs H Q E → sp vs H Q E) : GM P w K mg base CX k C m ps sp' := ⟨G.f, G.fd, G.ok.imp h, G.bd, G.me⟩
end Lo

set_option maxHeartbeats 1000000
/-! what a freeing lets in -/
namespace Lo
open PySem L2
/-! ### two lists of the law's own that change -/
section
variable {C : Kd → Addr} {CL : Addr} {K : PySem.W.Frag} {H H' : Hp} {l pl : Addr} {ps : List Pr} {own : List (Addr × List V)}
def Kq (a b : Addr) (H H' : Hp) : Prop := ∀ c o, c ≠ a → c ≠ b → H c = some o → H' c = some o
end
/-- the pairs that wait behind a freeing -/
def goneB (ps : List Pr) (p : Pa) (x : Pr) : Bool := decide (x.1 ∈ (waitL (freePs ps p)).map (·.1))
def notP (p : Pa) (x : Pr) : Bool := !decide (x.1 = p)
end Lo

set_option maxHeartbeats 1000000
namespace L2
open PySem PySem.Spec PyProof.Rows
/-! ### lists of pairs as tables -/
section
variable {κ : Type} [DecidableEq κ]
def valV (kvs : List (κ × V)) (k : κ) : Option V := (kvs.find? fun kv => decide (kv.1 = k)).map (·.2)
/-- in its place, or at the end -/
def putK (kvs : List (κ × V)) (k : κ) (v : V) : List (κ × V) :=
  if (kvs.any fun kv => decide (kv.1 = k)) = true then kvs.map (fun kv => if kv.1 = k then (kv.1, v) else kv) else kvs ++ [(k, v)]
def dropK (kvs : List (κ × V)) (k : κ) : List (κ × V) := kvs.filter fun kv => decide (kv.1 ≠ k)

end


/-! ### a tracked dict, its keys ints and texts or tuples of these -/
/-- raw entries of a dict with tuple keys -/
abbrev KT (H : Hp) : List (List Key × V) → List (List Key × Addr × Value) → Prop := Paired fun p q => p.1 = q.1 ∧ H q.2.1 = some (.tup (p.1.map kV)) ∧ RelV p.2 q.2.2
section
variable {P : Program} {w : World} {H : Hp} {h : Heap} {a : Addr}
end

/-- what the dict at a holds at the key y -/
def DGet (H : Hp) (a : Addr) (y : V) (r : Option V) : Prop :=
  (∃ kvs k, Rd H a (.dK kvs) ∧ y = kV k ∧ r = valV kvs k) ∨ ∃ kvs k b, Rd H a (.dT kvs) ∧ y = .ref b ∧ H b = some (.tup (k.map kV)) ∧ r = valV kvs k
/-- the heap behind a[y] = v -/
def DPut (H : Hp) (a : Addr) (y v : V) (H' : Hp) : Prop :=
  (∃ kvs k, H a = some (.dK kvs) ∧ y = kV k ∧ kvs.length < sizeLine ∧ H' = upd H a (.dK (putK kvs k v))) ∨
  ∃ kvs k b, H a = some (.dT kvs) ∧ y = .ref b ∧ H b = some (.tup (k.map kV)) ∧ kvs.length < sizeLine ∧ H' = upd H a (.dT (putK kvs k v))
section
variable {X : Cx} {pins : List (Addr × Obj)} {σ : St} {H : Hp} {s : Shared} {a : Addr} {y v : V} {u r : Value} {o : Option V} {A : Around} {E : Value → Shared → Prop}

end

section
variable {X : Cx} {pins : List (Addr × Obj)} {σ : St} {H : Hp} {s : Shared} {a : Addr} {kvs : List (Key × V)} {k : Key} {u : Value} {A : Around} {E : Value → Shared → Prop}
end


/-! ### readings and rules -/
/-- the element of a subscription, not a slice -/
def NoSl (i : Expr) : Prop := ∀ ov iv, subscripted i false ov iv = operate [ov, iv] (getItem ov iv)
/-- d[y] -/
def tDGet (td ty : TE) : TE := fun σ H Q => td σ H fun x H1 => ty σ H1 fun y H2 => ∃ a v, x = .ref a ∧ DGet H2 a y (some v) ∧ Q v H2
/-- y in d, y not in d -/
def tDIn (ty td : TE) : TE := fun σ H Q => ty σ H fun y H1 => td σ H1 fun x H2 => ∃ a o, x = .ref a ∧ DGet H2 a y o ∧ Q (.bl o.isSome) H2
def tDNotIn (ty td : TE) : TE := fun σ H Q => ty σ H fun y H1 => td σ H1 fun x H2 => ∃ a o, x = .ref a ∧ DGet H2 a y o ∧ Q (.bl (!o.isSome)) H2
/-- d[y] = v -/
def sDPut (td ty tv : TE) : TS := fun D σ H => tv σ H fun v H1 => td σ H1 fun x H2 => ty σ H2 fun y H3 => ∃ a H4, x = .ref a ∧ DPut H3 a y v H4 ∧ D.nx σ H4
/-- d[y] op= v -/
def sDAug (td ty tv : TE) (rd : V → V → Hp → VK → Prop) : TS := fun D σ H => td σ H fun x H1 => ty σ H1 fun y H2 => ∃ a v, x = .ref a ∧ DGet H2 a y (some v) ∧
  tv σ H2 fun y2 H3 => rd v y2 H3 fun z H4 => ∃ H5, DPut H4 a y z H5 ∧ D.nx σ H5
/-- del d[y] -/
def sDDel (td ty : TE) : TS := fun D σ H => td σ H fun x H1 => ty σ H1 fun y H2 => ∃ a kvs k, x = .ref a ∧ H2 a = some (.dK kvs) ∧ y = kV k ∧ (valV kvs k).isSome = true ∧ D.nx σ (upd H2 a (.dK (dropK kvs k)))

section
variable {X : Cx} {o i e value : Expr} {pos pos' tpos : Pos} {td ty tv : TE}
end


/-! ### displays -/
/-- {}, to be a dict of the kind that is wanted -/
def tDNewK : TE := fun _ H Q => ∀ p, H p = none → Q (.ref p) (upd H p (.dK []))
def tDNewT : TE := fun _ H Q => ∀ p, H p = none → Q (.ref p) (upd H p (.dT []))
section
variable {X : Cx} {pos : Pos}
end

/-- the pairs of a display, from the left -/
def tPairs : List (TE × TE) → St → Hp → (List (V × V) → Hp → Prop) → Prop
  | [], _, H, Q => Q [] H
  | (tk, tv) :: r, σ, H, Q => tk σ H fun x H1 => tv σ H1 fun y H2 => tPairs r σ H2 fun ps H3 => Q ((x, y) :: ps) H3
abbrev VV : List (V × V) → List (Value × Value) → Prop := Paired fun p q => RelV p.1 q.1 ∧ RelV p.2 q.2
def PPs (X : Cx) (pos : Pos) (keys : List (Option Expr)) (values : List Expr) (trs : List (TE × TE)) : Prop :=
  ∀ (pins : List (Addr × Obj)) (s : Shared) (σ : St) (H : Hp) (Q : List (V × V) → Hp → Prop), Inv X pins σ H s → tPairs trs σ H Q →
    wpAny (model X.prog X.w) X.A (evalPairs (pairTrees keys values X.env pos)) (fun vs s' => ∃ ps H', Inv X pins σ H' s' ∧ VV ps vs ∧ Q ps H') X.xe s
def mergeK (kvs more : List (Key × V)) : List (Key × V) := more.foldl (fun acc kv => putK acc kv.1 kv.2) kvs
/-- {k: v, ..} with keys ints and texts; the new dict stands empty while the pairs are made -/
def tDisp (trs : List (TE × TE)) : TE := fun σ H Q => ∀ p, H p = none → tPairs trs σ (upd H p (.dK [])) fun ps H2 => H2 p = some (.dK []) ∧ ∃ kvs : List (Key × V), ps = kvs.map (fun kv => (kV kv.1, kv.2)) ∧ kvs.length ≤ 15 ∧ Q (.ref p) (upd H2 p (.dK (mergeK [] kvs)))
/-! ### methods -/
/-- a method call o.m(e) of a built-in, with one argument: what must be seen of the text -/
structure M1 (X : Cx) (o : Expr) (m : Str) (apos : Pos) (e : Expr) (cpos : Pos) : Prop where
  base : attributeBase o m X.env (eval o X.env) = eval o X.env
  few : ((backTo cpos (starEach [e] X.env)).all (fun x => !x.1) && (backToKw cpos (keywordEach [] X.env)).all (fun x => x.1.isSome)
    && decide (([e] : List Expr).length + ([] : List Keyword).length + (if ([] : List Keyword).isEmpty then 0 else 1) < 30)) = true
  line : (apos.endLine == cpos.line) = true
  trees : backTo cpos (starEach [e] X.env) = [(false, eval e X.env)]
structure M2 (X : Cx) (o : Expr) (m : Str) (apos : Pos) (e f : Expr) (cpos : Pos) : Prop where
  base : attributeBase o m X.env (eval o X.env) = eval o X.env
  few : ((backTo cpos (starEach [e, f] X.env)).all (fun x => !x.1) && (backToKw cpos (keywordEach [] X.env)).all (fun x => x.1.isSome)
    && decide (([e, f] : List Expr).length + ([] : List Keyword).length + (if ([] : List Keyword).isEmpty then 0 else 1) < 30)) = true
  line : (apos.endLine == cpos.line) = true
  trees : backTo cpos (starEach [e, f] X.env) = [(false, eval e X.env), (false, eval f X.env)]

/-- a is a dict, whatever its keys -/
def IsD (H : Hp) (a : Addr) : Prop := (∃ kvs, Rd H a (.dK kvs)) ∨ ∃ kvs, Rd H a (.dT kvs)
section
variable {X : Cx} {pins : List (Addr × Obj)} {σ : St} {H : Hp} {s : Shared} {a : Addr} {y d : V} {u r : Value} {o : Option V} {A : Around} {E : Value → Shared → Prop}
end

def tDGet1 (td ty : TE) : TE := fun σ H Q => td σ H fun x H1 => ∃ a, x = .ref a ∧ IsD H1 a ∧ ty σ H1 fun y H2 => ∃ o, DGet H2 a y o ∧ Q (o.getD .non) H2
def tDGet2 (td ty tx : TE) : TE := fun σ H Q => td σ H fun x H1 => ∃ a, x = .ref a ∧ IsD H1 a ∧ ty σ H1 fun y H2 => tx σ H2 fun z H3 => ∃ o, DGet H3 a y o ∧ Q (o.getD z) H3
/-- d.pop(k): there; d.pop(k, x): there or not -/
def tDPop1 (td ty : TE) : TE := fun σ H Q => td σ H fun x H1 => ∃ a, x = .ref a ∧ IsD H1 a ∧ ty σ H1 fun y H2 => ∃ kvs k v, H2 a = some (.dK kvs) ∧ y = kV k ∧ valV kvs k = some v ∧ Q v (upd H2 a (.dK (dropK kvs k)))
def tDPop2 (td ty tx : TE) : TE := fun σ H Q => td σ H fun x H1 => ∃ a, x = .ref a ∧ IsD H1 a ∧ ty σ H1 fun y H2 => tx σ H2 fun z H3 => ∃ kvs k, H3 a = some (.dK kvs) ∧ y = kV k ∧
  (∀ v, valV kvs k = some v → Q v (upd H3 a (.dK (dropK kvs k)))) ∧ (valV kvs k = none → Q z H3)
section
variable {X : Cx} {o e f : Expr} {apos cpos : Pos} {td ty tx : TE}
end

end L2

set_option maxHeartbeats 1000000
/-! names that are keys, and what hinders -/
namespace Lo
open PySem L2
/-- a pact's name, made at run time -/
def sPa (_ : PySem.W.Frag) (H : Hp) (x : Pa) (v : V) : Prop := ∃ a, v = .ref a ∧ H a = some (.tup [.int x.1, .int x.2])
theorem sPa.c {K : PySem.W.Frag} {H : Hp} {x : Pa} {v : V} (h : sPa K H x v) : cPa.rp K H x v := by
  obtain ⟨a, rfl, e⟩ := h
  exact ⟨a, _, _, rfl, .inl e, rfl, rfl⟩
theorem sPa.keep {K : PySem.W.Frag} {H H' : Hp} {x : Pa} {v : V} (e : TSame H H') (h : sPa K H x v) : sPa K H' x v := by
  obtain ⟨a, rfl, q⟩ := h
  exact ⟨a, rfl, e _ _ q⟩
def sPr (K : PySem.W.Frag) (H : Hp) (x : Pr) (v : V) : Prop := ∃ a pu tu, v = .ref a ∧ SqU K H a [pu, tu] ∧ sPa K H x.1 pu ∧ cLk.rp K H x.2 tu
theorem sPr.c {K : PySem.W.Frag} {H : Hp} {x : Pr} {v : V} (h : sPr K H x v) : cPr.rp K H x v := by
  obtain ⟨a, pu, tu, rfl, e, p, t⟩ := h
  exact ⟨a, pu, tu, rfl, e, p.c, t⟩
theorem sPr.keep {K : PySem.W.Frag} {H H' : Hp} {x : Pr} {v : V} (e : TSame H H') (h : sPr K H x v) : sPr K H' x v := by
  obtain ⟨a, pu, tu, rfl, q, p, t⟩ := h
  exact ⟨a, pu, tu, rfl, q.keep e, p.keep e, cLk.keep e t⟩
def pk (x : Pa) : List Key := [.inl x.1, .inl x.2]
/-- those that hinder a lock, from the left -/
def hins (xs : List Pr) (p : Pa) (k : Lk) : List Pa := (xs.filter fun x => !decide (x.1 = p) && !besideB x.2 k).map (·.1)
def cSub {α : Type} [DecidableEq α] (c : Cod α) (R : PySem.W.Frag → Hp → α → V → Prop) (h : ∀ {K H x v}, R K H x v → c.rp K H x v) (keep : ∀ {K : PySem.W.Frag} {H H' : Hp} {x : α} {v : V}, TSame H H' → R K H x v → R K H' x v) : Cod α where
  n := c.n
  rp := R
  inj h1 h2 h3 h4 := c.inj h1 h2 (h h3) (h h4)
  eq h1 h2 := c.eq (h h1) (h h2)
  rc h1 h2 := c.rc (h h1) (h h2)
  ne h1 h2 := c.ne (h h1) (h h2)
  keep := keep
def cPrS : Cod Pr := cSub cPr sPr (fun h => h.c) (fun e h => h.keep e)
def cPaS : Cod Pa := cSub cPa sPa (fun h => h.c) (fun e h => h.keep e)
def uNS (n : Nat) (K : PySem.W.Frag) : TS := fun D σ H => ∃ a ns nl nus names b, σ = [some (.ref a), some (.ref nl), some (.int b)] ++ List.replicate n none ∧ SqL K H a ((ns : List Int).map V.int) ∧ ns.length ≤ 63 ∧ H nl = some (.lst nus) ∧ Paired (sPa K H) names nus ∧ names.length = 4 ∧ ∀ H', D.rt (.bl true) H'
/-! ### two houses -/
section
variable {C : Kd → Addr} {CL : Addr} {K : PySem.W.Frag} {H H' : Hp}
def Kr (l pl q : Addr) (H H' : Hp) : Prop := ∀ b o, b ≠ l → b ≠ pl → b ≠ q → H b = some o → H' b = some o
def Ho (C : Kd → Addr) (CL : Addr) (K : PySem.W.Frag) (H : Hp) (l pl q : Addr) (ps : List Pr) (us : List V) : Prop := LS C CL K H l pl ps ∧ H q = some (.lst us) ∧ Paired (sPr K H) ps us ∧ ((waitL ps).map (·.1)).Nodup
def W18 (C : Kd → Addr) (CL : Addr) (K : PySem.W.Frag) (l0 pl0 q0 : Addr) (ps0 : List Pr) (us0 : List V) (l1 pl1 q1 : Addr) (ps1 : List Pr) (us1 : List V) (own : List (Addr × List V)) (H : Hp) : Prop :=
  Ho C CL K H l0 pl0 q0 ps0 us0 ∧ Ho C CL K H l1 pl1 q1 ps1 us1 ∧ l0 ≠ l1 ∧ (∀ x ∈ own, H x.1 = some (.lst x.2)) ∧ (q0 ≠ pl0 ∧ q1 ≠ pl1 ∧ pl0 ≠ pl1 ∧ pl0 ≠ q1 ∧ q0 ≠ pl1 ∧ q0 ≠ q1) ∧ ∀ x ∈ own, x.1 ≠ pl0 ∧ x.1 ≠ q0 ∧ x.1 ≠ pl1 ∧ x.1 ≠ q1
variable {l0 pl0 q0 l1 pl1 q1 : Addr} {ps0 ps1 : List Pr} {us0 us1 : List V} {own : List (Addr × List V)}
end
section
variable {X : Cx}
end
end Lo

set_option maxHeartbeats 1000000
/-! functions made by a lambda, max by a key, a list turned about -/
namespace L2
open PySem PySem.Spec PyProof.Rows PySem.W Lo
/-! ### a table of code -/
def BB (mg : Str → Option Value) (h : Heap) : Prop := ∃ bm ob, mg "__builtins__" = some (.ref bm) ∧ bm ≠ builtinsNs ∧ h.get? bm = some ob ∧ ob.cls = .type "module" ∧ ob.dict = some builtinsNs ∧ ob.data = .plain
def CodeO (c : Addr) (q : Str) : HO := .ext fun h => ∃ o vs t, h.get? c = some o ∧ o.data = .fields vs ∧ vs[1]? = some (.str q t)
def LamO (f : Addr) (q : Str) (pr : Arguments) (b : Expr) (sc : Scope) (c : Addr) : HO := .ext fun h => ∃ pm ct, h.get? f = some { cls := .type "function", data := .func (kla_fn "<lambda>" q pr b sc [] pm (.ref c) ct) }
def tab3 (p : Pos) (c : Addr) : Array Value := #[] ++ #[rawInt p.line, rawInt p.col, .ref c]
theorem tab3_l (p : Pos) (c : Addr) : (tab3 p c).toList = [rawInt p.line, rawInt p.col, .ref c] := by simp [tab3]
theorem tab3_hit (p : Pos) (c : Addr) : codeAmong p (tab3 p c).toList = some (.ref c) := by
  rw [tab3_l]
  simp [codeAmong, rawInt]
theorem tab3_ok (p : Pos) (c : Addr) : TriplesOk (tab3 p c).toList := by
  rw [tab3_l]
  exact trivial
/-- empty, or with this one lambda's code -/
def Tb (H : Hp) (P : Addr) (p : Pos) (q : Str) : Prop := H P = some (.tbl #[]) ∨ ∃ c, H P = some (.tbl (tab3 p c)) ∧ H c = some (CodeO c q)
def noT : HO → Prop
  | .tbl _ => False
  | _ => True
/-- all but tables stays -/
def SameX (H H' : Hp) : Prop := ∀ b o, noT o → H b = some o → H' b = some o
theorem Same.x {H H' : Hp} (e : Same H H') : SameX H H' := fun b o _ h => e b o h
theorem SameX.ts {H H' : Hp} (e : SameX H H') : TSame H H' := fun b xs h => e b _ trivial h
theorem SameX.trans {H H1 H2 : Hp} (a : SameX H H1) (b : SameX H1 H2) : SameX H H2 := fun c o n h => b c o n (a c o n h)
theorem SameX.seq {K : Frag} {H H' : Hp} {a : Addr} {xs : List V} (e : SameX H H') (h : SqL K H a xs) : SqL K H' a xs := by
  rcases h with (h | ⟨o, h⟩) | h
  · exact .inl (.inl (e _ _ trivial h))
  · exact .inl (.inr ⟨o, e _ _ trivial h⟩)
  · exact .inr h
theorem Tb.keep {H H' : Hp} {P : Addr} {p : Pos} {q : Str} (e : Same H H') (h : Tb H P p q) : Tb H' P p q := h.elim (fun z => .inl (e _ _ z)) fun ⟨c, z, y⟩ => .inr ⟨c, e _ _ z, e _ _ y⟩
def tLam (P : Addr) (p : Pos) (q : Str) (pr : Arguments) (b : Expr) (sc : Scope) : TE := fun _ H Q => Tb H P p q ∧ ∀ f c H', SameX H H' → Tb H' P p q → H' f = some (LamO f q pr b sc c) → H' c = some (CodeO c q) → Q (.ref f) H'
theorem lam_obj {Pg : Program} {w : World} {H : Hp} {h : Heap} {f : Addr} {q : Str} {pr : Arguments} {b : Expr} {sc : Scope} {c : Addr} {pm ct : Value} (e : h.get? f = some { cls := .type "function", data := .func (kla_fn "<lambda>" q pr b sc [] pm (.ref c) ct) }) :
    ObjOk Pg w H h f (LamO f q pr b sc c) := ⟨⟨pm, ct, e⟩, ⟨_, e⟩, fun _ _ ⟨pm, ct, e⟩ k => ⟨pm, ct, k _ e⟩⟩
theorem code_obj {Pg : Program} {w : World} {H : Hp} {h : Heap} {c : Addr} {q : Str} {o : Obj} {vs : Array Value} {t : Tok} (e : h.get? c = some o) (d : o.data = .fields vs) (v : vs[1]? = some (.str q t)) :
    ObjOk Pg w H h c (CodeO c q) := ⟨⟨o, vs, t, e, d, v⟩, ⟨_, e⟩, fun _ _ ⟨o, vs, t, e, r⟩ k => ⟨o, vs, t, k _ e, r⟩⟩
/-- lambda ..: a new function; its code is made once -/
theorem pe_lam {X : Cx} {cc P : Addr} {pos : Pos} {q : Str} {pr : Arguments} {b : Expr} {sc : Scope} (hcode : X.env.code = .ref cc) (hC : codeHdIn X.K cc P = true) (hB : BB X.mg X.base) (hq : X.env.qual ++ "<lambda>" = q)
    (hcl : closureFor sc X.env = pure []) (hdef : defaultsOf pr X.env = ([], [])) : PE X (.Lambda pr b sc pos) (tLam P pos q pr b sc) := by
  intro pins s σ H Q I h
  obtain ⟨htb, hQ⟩ := h
  subst hq
  refine kla_eval hdef ?_
  have hg : s.heap.Ns mainGlobals X.mg := I.ok.mod.glob.keeps I.bk
  have C : CodeHd s.heap cc P := codeHd_of_K I.kIn hC
  obtain ⟨bm, ob, b1, b2, b3, b4, b5, b6⟩ := hB
  have b3' := I.bk _ _ b3
  have hbG : bm ≠ mainGlobals := fun z => by
    obtain ⟨o, es, ep, e, hd, _⟩ := hg
    rw [z, e] at b3'
    cases b3'
    rw [hd] at b6
    cases b6
  have nG : ∀ ps, s.heap.get? P = some (tabObj ps) → mainGlobals ≠ P ∧ bm ≠ P := fun ps e => by
    refine ⟨fun z => ?_, fun z => ?_⟩
    · obtain ⟨o, es, ep, e', hd, _⟩ := hg
      rw [z, e] at e'
      cases e'
      cases hd
    · rw [z, e] at b3'
      cases b3'
      cases b4
  rcases htb with e | ⟨c, e, ec⟩
  · have hP : s.heap.get? P = some (tabObj #[]) := I.hok P _ e
    obtain ⟨n1, n2⟩ := nG _ hP
    refine kla_makeFunction (mg := X.mg) (clos := []) hcl I.ok.glob hg hcode C hP trivial rfl n1 ⟨bm, ob, b1, b2, hbG, n2, b3', b4, b5, b6⟩ fun c ct h' tk hx hge hlt hrec htb => ?_
    obtain ⟨c₂, oc, vs, t, e2, hoc, hd, hv⟩ := hrec
    cases e2
    have ltP : P < s.heap.objs.size := Heap.lt_size hP
    have hc0 : H c = none := I.hok.fresh hge
    have hf0 : H h'.objs.size = none := I.hok.fresh (Nat.le_of_lt (Nat.lt_of_le_of_lt hge hlt))
    have cf : c ≠ h'.objs.size := Nat.ne_of_lt hlt
    have Pc : P ≠ c := Nat.ne_of_lt (Nat.lt_of_lt_of_le ltP hge)
    have Pf : P ≠ h'.objs.size := Nat.ne_of_lt (Nat.lt_trans (Nat.lt_of_lt_of_le ltP hge) hlt)
    let H3 : Hp := upd (upd (upd H P (.tbl (tab3 pos c))) c (CodeO c (X.env.qual ++ "<lambda>"))) h'.objs.size (LamO h'.objs.size (X.env.qual ++ "<lambda>") pr b sc c)
    have at3 : ∀ d, d ≠ h'.objs.size → d ≠ c → d ≠ P → H3 d = H d := fun d n1 n2 n3 => (upd_ne n1).trans ((upd_ne n2).trans (upd_ne n3))
    have atf : H3 h'.objs.size = some (LamO h'.objs.size (X.env.qual ++ "<lambda>") pr b sc c) := upd_same
    have atc : H3 c = some (CodeO c (X.env.qual ++ "<lambda>")) := (upd_ne cf).trans upd_same
    have atP : H3 P = some (.tbl (tab3 pos c)) := (upd_ne Pf).trans ((upd_ne Pc).trans upd_same)
    have old : ∀ d o, d ≠ P → H d = some o → H3 d = some o := fun d o n z => (at3 d (ne_of_none z hf0) (ne_of_none z hc0) n).trans z
    have kp : ∀ d o, d ≠ P → s.heap.get? d = some o → (h'.push (kla_obj "<lambda>" (X.env.qual ++ "<lambda>") pr b sc [] ((X.mg "__name__").getD .none) c ct)).get? d = some o := fun d o n z => Heap.get?_push_of_some _ (hx d o n z)
    have noP : ∀ d, H d = none → d ≠ P := fun d z y => by
      rw [y, e] at z
      cases z
    have noTP : ∀ d o, noT o → H d = some o → d ≠ P := fun d o n z y => by
      rw [y, e] at z
      cases z
      exact n
    have I3 : Inv X pins σ H3 { s with heap := h'.push (kla_obj "<lambda>" (X.env.qual ++ "<lambda>") pr b sc [] ((X.mg "__name__").getD .none) c ct), toks := tk } := by
      refine I.step (g' := s.gens) (d' := s.drawn) (t' := tk) (ch := []) (fun _ z => nomatch z) (fun d o _ _ _ z n => kp d o (noP d n) z) (fun d o _ _ _ z n => ⟨o.slots, kp d o (noP d n) z⟩) (fun d o _ z n => ?_) (fun d o _ z => ?_)
        (fun d xs z => old d _ (noTP d (.tup xs) trivial z) z) (fun d o u z => old d _ (noTP d (.frz o u) trivial z) z) (fun d ps z => ?_) (fun m hm => ?_) (fun d u z => ?_) I.bare
      · have l := Heap.lt_size z
        exact (at3 d (Nat.ne_of_lt (Nat.lt_of_lt_of_le l (Nat.le_of_lt (Nat.lt_of_le_of_lt hge hlt)))) (Nat.ne_of_lt (Nat.lt_of_lt_of_le l hge)) (noP d n)).trans n
      · by_cases y : d = P
        · rw [y]
          exact ⟨_, Heap.get?_push_of_some _ htb⟩
        · exact ⟨o, kp d o y z⟩
      · by_cases y : d = P
        · subst y
          rw [e] at z
          cases z
          exact ⟨#[rawInt pos.line, rawInt pos.col, .ref c], atP⟩
        · exact ⟨#[], by rw [old d _ y z]; simp⟩
      · obtain ⟨o, es, ep, ho, r⟩ := hm
        exact ⟨o, es, ep, kp _ o (noP _ I.free) ho, r⟩
      · by_cases y1 : d = h'.objs.size
        · subst y1
          rw [atf] at z
          cases z
          exact lam_obj (Heap.get?_push_size _ rfl)
        · by_cases y2 : d = c
          · subst y2
            rw [atc] at z
            cases z
            exact code_obj (Heap.get?_push_of_some _ hoc) hd hv
          · by_cases y3 : d = P
            · subst y3
              rw [atP] at z
              cases z
              exact Heap.get?_push_of_some _ htb
            · rw [at3 d y1 y2 y3] at z
              refine (I.hok d u z).stay (fun a v ha q => kp a v ?_ q) (fun a q => old a _ (noTP a (.own d) trivial q) q) fun a xs q => old a _ (noTP a (.tup xs) trivial q) q
              rcases ha with ha | ha
              · rw [ha]
                exact y3
              · exact noTP a (.own d) trivial ha
    exact ⟨.ref h'.objs.size, H3, I3, rfl, hQ _ c H3 (fun d o n z => old d o (noTP d o n z) z) (.inr ⟨c, atP, atc⟩) atf atc⟩
  · have hP : s.heap.get? P = some (tabObj (tab3 pos c)) := I.hok P _ e
    obtain ⟨n1, n2⟩ := nG _ hP
    refine kla_makeFunctionHit (mg := X.mg) (clos := []) (cv := .ref c) hcl I.ok.glob hg hcode C hP (tab3_ok _ _) (tab3_hit _ _) ⟨bm, ob, b1, b2, hbG, n2, b3', b4, b5, b6⟩ fun ct h' tk hk hz => ?_
    have hf0 : H h'.objs.size = none := I.hok.fresh hz
    have sm := same_new (o := LamO h'.objs.size (X.env.qual ++ "<lambda>") pr b sc c) hf0
    exact ⟨.ref h'.objs.size, _, I.laid (o := LamO h'.objs.size (X.env.qual ++ "<lambda>") pr b sc c) (t' := tk) (fun d o z => Heap.get?_push_of_some _ (hk d o z)) hz (lam_obj (Heap.get?_push_size _ rfl)), rfl,
      hQ _ c _ sm.x (.inr ⟨c, sm _ _ e, sm _ _ ec⟩) upd_same (sm _ _ ec)⟩
/-! ### such a function called -/
theorem lam_run {P : Program} {w : World} {K : Frag} {mg : Str → Option Value} {base : Heap} {A : Around} {outer : List Env} {s : Shared} {H : Hp} {k : Nat} {f c : Addr} {q : Str} {pr : Arguments} {b : Expr} {sc : Scope} {N ps : List Str} {us : List Value} {vs : List V} {Q : VK}
    (hr : Room (k + 1) A) (e0 : Env0 P w K mg base A outer s H) (S : FnScope N ps sc) (hf : H f = some (LamO f q pr b sc c)) (hc : H c = some (CodeO c q)) (hl : vs.length = ps.length) (r : Vals vs us)
    (hb : ∀ pm ct, BindsTo s (kla_fn "<lambda>" q pr b sc [] pm (.ref c) ct) ⟨us, []⟩ (ps.zip us))
    (hbody : ∃ t, PE (cxOf CX0 P w K mg base N q sc f (.ref c) A outer s H E0).nox b t ∧ t (start N vs) H Q) :
    codeAny (model P w) A (.call (.ref f) ⟨us, []⟩) (CR CX0 outer P w H s Q E0) s := by
  have lim : s.heap.NoLimit := e0.mod.nolimit.keeps fun b o e => (e0.bs b o e).1
  obtain ⟨⟨pm, ct, ho⟩, _⟩ := (show ObjOk P w H s.heap f (LamO f q pr b sc c) from e0.hok f _ hf)
  obtain ⟨⟨oc, ws, t, hoc, hd, hv⟩, _⟩ := (show ObjOk P w H s.heap c (CodeO c q) from e0.hok c _ hc)
  have hkind : ∀ y ∈ ps.zip us, sc.names.lookup y.1 = some .local ∨ (sc.names.lookup y.1 = some .cell ∧ ((cellsFrom (s.heap.objs.size + 1) sc.names []).lookup y.1).isSome = true) := fun ⟨n, v⟩ hy => by
    rcases S.par n (List.of_mem_zip hy).1 with q | q
    · exact .inl q
    · exact .inr ⟨q, cellsFrom_some _ _ _ (.inl q)⟩
  refine kla_callFunE (by have := hr.dp; omega) ho rfl S.co S.gen rfl ⟨c, oc, ws, t, rfl, hoc, hd, hv⟩ (hb pm ct _ _ _ _ ?_)
  refine wpAny_newFunctionEnv_cells S.kind hkind fun env he s1 x => ?_
  subst he
  refine ⟨lim.keeps x.toInCall.keep, kla_codeExpr ?_⟩
  obtain ⟨t, ht, hq⟩ := hbody
  have I : Inv (cxOf CX0 P w K mg base N q sc f (.ref c) A outer s H E0) [] (start N vs) H s1 := inv_start S hr.hd e0 hl r x
  refine wpAny_mono (ht.nox [] s1 (start N vs) H Q I hq) (fun u s' hs => ?_) fun e s' hs => hs
  obtain ⟨v, H', J, rv, q⟩ := hs
  exact ⟨v, H', J.os, J.bare, J.base, J.hok, rv, q⟩
/-- lambda p: (p[1], p[0]) of a name -/
theorem lam_swap {X : Cx} {k : Nat} {f c : Addr} {q : Str} {pr : Arguments} {sc : Scope} {p1 p2 p3 p4 p5 p6 p7 : Pos} {j1 j2 x1} {pins : List (Addr × Obj)} {σ : St} {H : Hp} {s : Shared} {Q : VK} {u : Value} {v : V} {n : Pa} (hr : Room (k + 2) X.A)
    (S : FnScope ["p"] ["p"] sc) (hf : H f = some (LamO f q pr (.Tuple [.Subscript (.Name "p" p1) (.Constant (.int 1) j1 p2) p3, .Subscript (.Name "p" p4) (.Constant (.int 0) j2 p5) p6] x1 p7) sc c)) (hc : H c = some (CodeO c q))
    (hb : ∀ (b : Expr) (pm ct : Value) (u : Value), bindArgs (kla_fn "<lambda>" q pr b sc [] pm (.ref c) ct) ⟨[u], []⟩ = pure [(("p" : Str), u)])
    (I : Inv X pins σ H s) (r : RelV v u) (hn : cPa.rp X.K H n v) (h : ∀ t, H t = none → Q (.ref t) (upd H t (.tup [.int n.2, .int n.1]))) :
    wpAny (model X.prog X.w) X.A.in1 (call (.ref f) [u]) (EP X pins σ Q) (fun _ _ => False) s := by
  have vp : Vis sc "p" := (S.par "p" (List.mem_singleton.mpr rfl)).elim .inl fun z => .inr (.inl z)
  refine wpAny_call (codeAny_mono (lam_run (k := k) (Q := Q) (vs := [v]) (us := [u]) hr.in1 I.env0.in1 S hf hc rfl (.cons r .nil) (fun pm ct => .of_eq (hb _ pm ct u)) ⟨_, pe_tup (pa_cons (pe_ix ix_tup (pv 0 rfl vp) pe_int (fun _ _ => rfl)) (pa_cons (pe_ix ix_tup (pv 0 rfl vp) pe_int (fun _ _ => rfl)) pa_nil)), ?_⟩) fun r s' hq => ?_)
  · obtain ⟨a, u1, u2, rfl, hs, rfl, rfl⟩ := hn
    exact ⟨_, rfl, a, _, 1, _, rfl, rfl, hs.sq, rfl, _, rfl, a, _, 0, _, rfl, rfl, hs.sq, rfl, (by show 2 ≤ sizeLine; decide), fun t ht => h t ht⟩
  · cases r with
    | error e => exact False.elim hq
    | ok fl =>
      cases fl with
      | ret u => exact I.after hq
      | next => exact False.elim hq
      | brk => exact False.elim hq
      | cont => exact False.elim hq
end L2

set_option maxHeartbeats 1000000
/-! > of tuples of ints, max by a key -/
namespace HT
open PySem PyProof.Rows
/-- t > u of tuples of ints -/
def lexGt : List Int → List Int → Bool
  | [], _ => false
  | _ :: _, [] => true
  | x :: xs, y :: ys => if x = y then lexGt xs ys else decide (y < x)
theorem rcGt_int (A : Around) (s : Shared) (a : Int) (t : Tok) (c : Int) (u : Tok) (prog : Program) (w : World) (E : Value → Shared → Prop) (Q : Value → Shared → Prop) (h : Q (.bool (decide (c < a))) s) :
    wpAny (model prog w) A (richCompare .Gt (.int a t) (.int c u)) Q E s :=
  (PyProof.Rows.gt_int h : wpAny (model prog w) A (compareOp .Gt (.int a t) (.int c u)) Q E s)
section
open PySem.SeqAt
open PySem.AutoSeq1 (wpAny_loadPart')
open PySem.MeetsSeq PySem.MeetsSeq2 PySem.MeetsSeq3
theorem tuple_gt_ints (l b : Addr) (items items2 : Array Value) (n n2 : Nat) (dd dd2 : Option Addr) (sl sl2 : Array (Option Value)) (ns ms : List Int) (hi : IntsAre items.toList ns) (hj : IntsAre items2.toList ms) :
    Meets (Builtin.«tuple.__gt__» ⟨[.ref l, .ref b], []⟩)
      (fun _ R s => s.heap.get? l = some { cls := .type "tuple", dict := dd, data := .seq items n, slots := sl } ∧ s.heap.get? b = some { cls := .type "tuple", dict := dd2, data := .seq items2 n2, slots := sl2 } ∧
        R (.ok (.ret (.bool (lexGt ns ms)))) s) :=
  .of_wp fun prog w A R s h => by
    obtain ⟨hp, g, d, tk, os⟩ := s; obtain ⟨hl, hb, h⟩ := h
    have f2 := AutoSeq1.sub_tuple_tuple
    have z1 : items.size = ns.length := by rw [← hi.length]; simp
    have z2 : items2.size = ms.length := by rw [← hj.length]; simp
    wp_walk using wpAny_loadPart' hl, wpAny_loadPart' hb, wpAny_forIn_list _ (fun rest b s' => b.1 = none ∧ s' = ⟨hp, g, d, tk, os⟩ ∧ ∃ (vs ws : List Value) (ns' ms' : List Int), rest = vs.zip ws ∧
      IntsAre vs ns' ∧ IntsAre ws ms' ∧ ns'.length + items2.size = ms'.length + items.size ∧ R (.ok (.ret (.bool (lexGt ns' ms')))) ⟨hp, g, d, tk, os⟩) _
    case turn =>
      rintro ⟨y, x⟩ rest b s' ⟨hb', rfl, vs, ws, ns', ms', hz, hvi, hwi, hlen, hR⟩
      cases hvi with
      | nil => rw [List.zip_nil_left] at hz; cases hz
      | cons a t hvi' =>
        cases hwi with
        | nil => rw [List.zip_nil_right] at hz; cases hz
        | cons c u hwi' =>
          rw [List.zip_cons_cons] at hz
          injection hz with hyx hrest
          injection hyx with hy hx
          subst hy hx
          rw [show lexGt (a :: _) (c :: _) = if a = c then lexGt _ _ else decide (c < a) from rfl] at hR
          simp only [List.length_cons] at hlen
          obtain ⟨e, he, hiff⟩ := eqAt_int A.in1 ⟨hp, g, d, tk, os⟩ a t c u
          refine wpAny_bind (he prog w _ _ ?_)
          cases e with
          | true =>
            rw [if_pos (hiff.mp rfl)] at hR
            wp_walk
            exact ⟨rfl, rfl, _, _, _, _, hrest, hvi', hwi', by omega, hR⟩
          | false =>
            rw [if_neg (fun q => absurd (hiff.mpr q) Bool.false_ne_true)] at hR
            have hri := rcGt_int A.in1 ⟨hp, g, d, tk, os⟩ a t c u prog w
            wp_walk using hri
            exact ⟨_, rfl, by simpa using hR⟩
    case fin =>
      rintro ⟨b1, b2⟩ s' ⟨hb', rfl, vs, ws, ns', ms', hz, hvi, hwi, hlen, hR⟩
      simp only at hb'
      subst hb'
      have hv : lexGt ns' ms' = decide (items.size > items2.size) := by
        cases hvi with
        | nil =>
          cases hwi with
          | nil =>
            simp only [List.length_nil] at hlen
            exact (decide_eq_false (by omega)).symm
          | cons c u hw =>
            simp only [List.length_nil, List.length_cons] at hlen
            exact (decide_eq_false (by omega)).symm
        | cons a t hv =>
          cases hwi with
          | nil =>
            simp only [List.length_nil, List.length_cons] at hlen
            exact (decide_eq_true (by omega)).symm
          | cons c u hw =>
            rw [List.zip_cons_cons] at hz
            cases hz
      rw [hv] at hR
      wp_walk
      exact ⟨_, rfl, by simpa [Builtin.Tuple.tupleCompareSizes] using hR⟩
    case h =>
      exact ⟨rfl, rfl, items.toList, items2.toList, ns, ms, rfl, hi, hj, by omega, h⟩
end
section
variable {prog : Program} {w : World} {A : Around} {E : Value → Shared → Prop} {s : Shared}
theorem gt_tupInts {l b : Addr} {items items2 : Array Value} {ns ms : List Int} {Q : Value → Shared → Prop} (hl : IsTup s.heap l items) (hb : IsTup s.heap b items2) (hi : IntsAre items.toList ns) (hj : IntsAre items2.toList ms)
    (hu : A.units < cLine) (h : Q (.bool (lexGt ns ms)) s) : wpAny (model prog w) A (richCompare .Gt (.ref l) (.ref b)) Q E s := by
  obtain ⟨⟨cls, dd, data, sl⟩, ho, hc, n, hd⟩ := id hl
  obtain ⟨⟨cls2, dd2, data2, sl2⟩, ho2, hc2, n2, hd2⟩ := id hb
  simp only at hc hd hc2 hd2
  subst hc hd hc2 hd2
  exact richCompare_meets_room (op := .Gt) ⟨_, ho, rfl⟩ ⟨_, ho2, rfl⟩ PySem.F.slot_tuple_gt PySem.F.entry_tuple_gt (PySem.F.args_tuple_gt_2 _ _) (tuple_gt_ints l b items items2 n n2 dd dd2 sl sl2 ns ms hi hj)
    ⟨ho, ho2, show Value.bool (lexGt ns ms) ≠ Value.notImplemented ∧ Q (.bool (lexGt ns ms)) s from ⟨(fun x => nomatch x), h⟩⟩ hu
end
end HT
namespace L2
open PySem PySem.Spec PyProof.Rows PySem.W Lo
theorem paired_of' {α β : Type} {F : α → β → Prop} : ∀ {xs : List α} {ys : List β}, xs.length = ys.length → (∀ (i : Nat) x y, xs[i]? = some x → ys[i]? = some y → F x y) → Paired F xs ys
  | [], [], _, _ => .nil
  | x :: xs, y :: ys, h, f => .cons (f 0 x y rfl rfl) (paired_of' (Nat.succ.inj h) fun i a b e1 e2 => f (i + 1) a b e1 e2)
def keyGt (a b : Pa) : Bool := HT.lexGt [a.2, a.1] [b.2, b.1]
/-- the greatest, from the left -/
def bestOf : Pa → List Pa → Pa
  | b, [] => b
  | b, n :: r => bestOf (if keyGt n b = true then n else b) r
theorem ts_lst {H : Hp} {S : Addr} {xs ys : List V} (h : H S = some (.lst xs)) : TSame H (upd H S (.lst ys)) := fun b zs e => by
  have n : b ≠ S := fun z => by
    rw [z, h] at e
    cases e
  rw [upd_ne n]
  exact e
theorem same_lst {H H1 : Hp} {S : Addr} {ys : List V} (h : H S = none) (e : Same H H1) : Same H (upd H1 S (.lst ys)) := fun b o q => by
  rw [upd_ne (ne_of_none q h)]
  exact e b o q
theorem tup2_at {P : Program} {w : World} {H : Hp} {h : Heap} {a : Addr} {x y : Int} (ok : HOk P w H h) (e : H a = some (.tup [.int x, .int y])) : ∃ its : Array Value, IsTup h a its ∧ IntsAre its.toList [x, y] := by
  obtain ⟨_, its, r, p⟩ := ok a _ e
  refine ⟨its.toArray, p, ?_⟩
  exact intsAre_of (ns := [x, y]) r
section
variable {X : Cx} {pins : List (Addr × Obj)} {σ : St} {H : Hp} {E : Value → Shared → Prop} {Q : VK} {l f S It : Addr} {us : List V} {ns : List Pa} {B : Pa}
def MaxEnd (X : Cx) (pins : List (Addr × Obj)) (σ : St) (Q : VK) (E : Value → Shared → Prop) (r : Result) (s' : Shared) : Prop := match r with
  | .ok (.ret v) => EP X pins σ Q v s'
  | .ok _ => False
  | .error e => E e s'
/-- what is told by the key of one of them -/
def KeyOk (X : Cx) (σ : St) (H : Hp) (f : Addr) : Prop := ∀ (pins : List (Addr × Obj)) (H1 : Hp) (s : Shared) (v : V) (u : Value) (n : Pa) (Q1 : VK), Inv X pins σ H1 s → Same H H1 → RelV v u → cPa.rp X.K H1 n v →
  (∀ t, H1 t = none → Q1 (.ref t) (upd H1 t (.tup [.int n.2, .int n.1]))) → wpAny (model X.prog X.w) X.A.in1 (call (.ref f) [u]) (EP X pins σ Q1) (fun _ _ => False) s
theorem max_loop (hh : X.A.handled = none) (hu : X.A.units + 2 < cLine) (KF : KeyOk X σ H f) (hl : SqL X.K H l us) (hp : Paired (cPa.rp X.K H) ns us) (hlI : l ≠ It) (hSI : S ≠ It) (hS0 : H S = none) (hL : It ≠ X.env.locals) (h1 : X.s₀.heap.objs.size ≤ It)
    (h2 : ∀ x c, X.env.cells.lookup x = some c → c ≠ It) (h3 : ∀ p ∈ X.pn ++ pins, p.1 ≠ It) (h4 : It ∉ X.fs) (fin : ∀ u H', Same H H' → cPa.rp X.K H' B u → Q u H') :
    ∀ (rest : List Pa) (j : Nat) (H1 : Hp) (s : Shared) (b : Pa) (vb : V) (kb : Addr), ns.drop j = rest → j ≤ ns.length → Inv X pins σ H1 s → Same H H1 → H1 It = none → H1 S = some (.lst [vb, .ref kb]) → cPa.rp X.K H1 b vb → H1 kb = some (.tup [.int b.2, .int b.1]) →
      s.heap.IsListIter It l j → bestOf b rest = B → codeAny (model X.prog X.w) X.A (.builtin "max.loop" ⟨[.ref It, .ref f, .ref S], []⟩) (MaxEnd X pins σ Q E) s := by
  have hname : "max.loop" = (toString "max" ++ toString ".loop" : String) := by decide
  have lens := hp.len
  intro rest
  induction rest with
  | nil =>
    intro j H1 s b vb kb hd hj I sm hI hS hb hk hit hB
    obtain ⟨its, rv, pl, hz⟩ := I.list (sm.seq hl)
    have lz := rv.length
    have hjn : j = its.toArray.size := by
      have := congrArg List.length hd
      rw [List.length_drop, List.length_nil] at this
      rw [List.size_toArray]
      omega
    obtain ⟨z, sits, n0, rs, _, eS⟩ := I.lstM hS
    obtain ⟨ub, ukb, rfl, rb, rk⟩ := vals2 rs
    cases rk
    have W := Walks.list (prog := X.prog) (w := X.w) (A := X.A.in1) hh It l hlI its.toArray
    refine codeAny_builtin (id := "max.loop") PySem.F.entry_max_loop ?_; rw [Around.under_plainId (id := "max.loop") PySem.F.plain_max_loop _]
    show wpAny _ X.A.in1 (seqItems? (.ref S) >>= _) _ _ s
    refine wpAny_bind (wpAny_seqItems (n := n0) eS rfl ?_)
    show wpAny _ X.A.in1 (tryCatch (pyNext (.ref It)) _ >>= _) _ _ s
    refine wpAny_bind (wpAny_tryCatch (W.done _ _ _ ⟨hjn ▸ hit, pl.isList⟩ fun h' tk' hk' => ?_))
    have I1 : Inv X pins σ H1 { s with heap := h', toks := tk' } := I.turned (fun d o n e => hk' d o (by simpa using n) e) hI hL (.inr h1) h2 h3
    have eS' := hk' S _ (by simpa using hSI) eS
    show wpAny _ X.A.in1 (updateSeq S (fun _ => #[]) >>= _) _ _ _
    refine wpAny_bind (wpAny_updateSeq eS' rfl (wpAny_bind (wpAny_letGo (wpAny_pure ?_))) (by show 2 ≤ sizeLine; decide) (by show 0 ≤ sizeLine + 1; exact Nat.zero_le _))
    cases hB
    exact ⟨vb, _, I1.lset (its' := []) (ys := []) (t' := tk') hS eS' rfl .nil (Nat.zero_le _), rb, fin _ _ (same_lst hS0 sm) (cPa.keep (ts_lst hS) hb)⟩
  | cons m rest ih =>
    intro j H1 s b vb kb hd hj I sm hI hS hb hk hit hB
    have hm : ns[j]? = some m := by
      have := congrArg List.head? hd
      rw [List.head?_drop] at this
      exact this
    have hjl : j < ns.length := (List.getElem?_eq_some_iff.mp hm).1
    have hd' : ns.drop (j + 1) = rest := by rw [← List.drop_drop, hd]; rfl
    obtain ⟨its, rv, pl, hz⟩ := I.list (sm.seq hl)
    have lz := rv.length
    obtain ⟨vm, evm, rm⟩ := hp.get1 hm
    obtain ⟨um, eum, rum⟩ := rv.get evm
    obtain ⟨z, sits, n0, rs, _, eS⟩ := I.lstM hS
    obtain ⟨ub, ukb, rfl, rb, rk⟩ := vals2 rs
    cases rk
    have W := Walks.list (prog := X.prog) (w := X.w) (A := X.A.in1) hh It l hlI its.toArray
    refine codeAny_builtin (id := "max.loop") PySem.F.entry_max_loop ?_; rw [Around.under_plainId (id := "max.loop") PySem.F.plain_max_loop _]
    show wpAny _ X.A.in1 (seqItems? (.ref S) >>= _) _ _ s
    refine wpAny_bind (wpAny_seqItems (n := n0) eS rfl ?_)
    show wpAny _ X.A.in1 (tryCatch (pyNext (.ref It)) _ >>= _) _ _ s
    refine wpAny_bind (wpAny_tryCatch (W.item j _ _ _ (by rw [List.size_toArray]; omega) ⟨hit, pl.isList⟩ fun v h' tk' hP hst hk' => ?_))
    have ev : v = um := by
      have hP' : its[j]? = some v := by simpa using hP
      rw [eum] at hP'
      exact (Option.some.inj hP').symm
    subst ev
    have I1 : Inv X pins σ H1 { s with heap := h', toks := tk' } := I.turned (fun d o n e => hk' d o (by simpa using n) e) hI hL (.inr h1) h2 h3
    obtain ⟨oI, eI, cI, dI⟩ := hst.1
    have I2 : Inv X ((It, oI) :: pins) σ H1 { s with heap := h', toks := tk' } := I1.pins_of fun p hp => by
      rcases List.mem_cons.mp hp with e | hp
      · subst e
        exact ⟨eI, hI, hL, h4, fun c y => by rw [dI] at y; cases y⟩
      · exact I1.pin p (List.mem_append_right _ hp)
    show wpAny _ X.A.in1 (tryCatch (holding [v] (call (.ref f) [v])) _ >>= _) _ _ _
    refine wpAny_bind (wpAny_tryCatch (wpAny_holding (wpAny_mono (KF _ H1 _ vm v m (fun x H2 => ∃ t, x = .ref t ∧ H1 t = none ∧ H2 = upd H1 t (.tup [.int m.2, .int m.1])) I2 sm rum (cPa.keep sm.ts rm) fun t ht => ⟨t, rfl, ht, rfl⟩) (fun x s2 he => ?_) fun _ _ y => y.elim)))
    obtain ⟨x', H2, I3, rx, t, rfl, ht, rfl⟩ := he
    cases rx
    have sn := same_new (o := .tup [.int m.2, .int m.1]) ht
    have I4 : Inv X pins σ (upd H1 t (.tup [.int m.2, .int m.1])) s2 := I3.pins_of fun p hp => I3.pin p (List.mem_append_right _ (List.mem_cons_of_mem _ hp))
    have eI2 : s2.heap.get? It = some oI := (I3.pin (It, oI) (List.mem_append_right _ List.mem_cons_self)).1
    have hI2 : upd H1 t (.tup [.int m.2, .int m.1]) It = none := (I3.pin (It, oI) (List.mem_append_right _ List.mem_cons_self)).2.1
    have hS2 := sn _ _ hS
    obtain ⟨z2, sits2, n2, rs2, _, eS2⟩ := I4.lstM hS2
    obtain ⟨ub2, ukb2, rfl, rb2, rk2⟩ := vals2 rs2
    cases rk2
    obtain ⟨i1, p1, q1⟩ := tup2_at I4.hok (upd_same (H := H1) (a := t) (o := .tup [.int m.2, .int m.1]))
    obtain ⟨i2, p2, q2⟩ := tup2_at I4.hok (sn _ _ hk)
    show wpAny _ X.A.in1 (tryCatch (holding [v, .ref t] (richCompare .Gt (.ref t) (.ref kb) >>= _)) _ >>= _) _ _ _
    refine wpAny_bind (wpAny_tryCatch (wpAny_holding (wpAny_bind (HT.gt_tupInts p1 p2 q1 q2 (by show X.A.units + 1 < cLine; omega) ?_))))
    refine wpAny_bind (wpAny_holding (wpAny_truthy_bool (wpAny_bind (wpAny_letGo (wpAny_pure ?_)))))
    have hB' : bestOf (if keyGt m b = true then m else b) rest = B := hB
    by_cases g : HT.lexGt [m.2, m.1] [b.2, b.1] = true
    · rw [if_pos (show keyGt m b = true from g)] at hB'
      rw [g]
      show wpAny _ X.A.in1 (updateSeq S (fun _ => #[v, .ref t]) >>= _) _ _ _
      refine wpAny_bind (wpAny_updateSeq eS2 rfl (wpAny_bind (wpAny_letGo (wpAny_pure ⟨plainId_quiet (id := "max.loop") PySem.F.plain_max_loop _, ?_⟩))) (by show 2 ≤ sizeLine; decide) (by show 2 ≤ sizeLine + 1; decide))
      rw [← hname]
      have ts2 := ts_lst (ys := [vm, .ref t]) hS2
      refine ih (j + 1) _ _ m vm t hd' hjl (I4.lset (its' := [v, .ref t]) (ys := [vm, .ref t]) (t' := s2.toks) hS2 eS2 rfl (.cons rum (.cons rfl .nil)) (by show 2 ≤ sizeLine; decide)) (same_lst hS0 (sm.trans sn)) ((upd_ne (Ne.symm hSI)).trans hI2) upd_same (cPa.keep ((sm.trans sn).ts.trans ts2) rm) (ts2 _ _ upd_same)
        ⟨oI, (Heap.get?_update_other _ _ hSI).trans eI2, cI, dI⟩ hB'
    · have g' : HT.lexGt [m.2, m.1] [b.2, b.1] = false := by simpa using g
      rw [if_neg (show ¬ keyGt m b = true from g)] at hB'
      rw [g']
      show wpAny _ X.A.in1 (letGo _ _ >>= _) _ _ _
      refine wpAny_bind (wpAny_letGo (wpAny_pure ⟨plainId_quiet (id := "max.loop") PySem.F.plain_max_loop _, ?_⟩))
      rw [← hname]
      exact ih (j + 1) _ _ b vb kb hd' hjl I4 (sm.trans sn) hI2 hS2 (cPa.keep sn.ts hb) (sn _ _ hk) ⟨oI, eI2, cI, dI⟩ hB'
/-- max(l, key=f) of one or more names -/
theorem call_maxK {s : Shared} {n : Pa} {ns' : List Pa} (I : Inv X pins σ H s) (hh : X.A.handled = none) (hu : X.A.units + 2 < cLine) (KF : KeyOk X σ H f) (hl : SqL X.K H l us) (hp : Paired (cPa.rp X.K H) (n :: ns') us)
    (fin : ∀ u H', Same H H' → cPa.rp X.K H' (bestOf n ns') u → Q u H') : wpAny (model X.prog X.w) X.A (call (.builtin "max") [.ref l] [(Str.ofString "key", .ref f)]) (EP X pins σ Q) E s := by
  have hname : "max.loop" = (toString "max" ++ toString ".loop" : String) := by decide
  obtain ⟨its, rv, pl, hz⟩ := I.list hl
  have lz := rv.length
  obtain ⟨vn, evn, rn⟩ := hp.get1 (j := 0) (x := n) rfl
  obtain ⟨un, eun, run⟩ := rv.get evn
  have ltl : l < s.heap.objs.size := by
    obtain ⟨_, e, _⟩ := pl.isList
    exact Heap.lt_size e
  refine kmk_tree PySem.F.kind_max PySem.F.plain_max PySem.F.entry_max (kmk_max_key _ _) ?_
  show wpAny _ X.A.in1 (Builtin.Builtins.bindParams "max" ["key", "default"] 0 ⟨[], [(Str.ofString "key", .ref f)]⟩ >>= _) _ _ s
  refine wpAny_bind (wpAny_of_eq (show Builtin.Builtins.bindParams "max" ["key", "default"] 0 ⟨[], [(Str.ofString "key", Value.ref f)]⟩ = pure [some (.ref f), none] from rfl) (wpAny_bind (wpAny_pure (wpAny_bind (wpAny_pyIter_list pl.isList (wpAny_bind (wpAny_newList ?_ (Nat.zero_le _))))))))
  rw [← hname]
  have sz1 : (s.heap.push { cls := .type "list_iterator", data := .fields #[.ref l, .int 0 0] }).objs.size = s.heap.objs.size + 1 := size_push' ..
  have Ia : Inv X pins σ H { s with heap := s.heap.push { cls := .type "list_iterator", data := .fields #[.ref l, .int 0 0] } } := I.kept (t' := s.toks) fun b o e => Heap.get?_push_of_some _ e
  have I0 := Ia.lnew (its := []) (ys := []) (t' := s.toks) .nil (Nat.zero_le _)
  rw [sz1] at I0 ⊢
  have hS0 : H (s.heap.objs.size + 1) = none := I.hok.fresh (Nat.le_succ _)
  have hIt : H s.heap.objs.size = none := I.fresh
  have hSI : s.heap.objs.size + 1 ≠ s.heap.objs.size := Nat.succ_ne_self _
  have s0 : Same H (upd H (s.heap.objs.size + 1) (.lst [])) := same_new hS0
  have hL : s.heap.objs.size ≠ X.env.locals := Nat.ne_of_gt I.lt
  have h2 : ∀ x c, X.env.cells.lookup x = some c → c ≠ s.heap.objs.size := fun x c e => by
    obtain ⟨v, o, ho, _⟩ := I.cell x c e
    exact Nat.ne_of_lt (Heap.lt_size ho)
  have h3 : ∀ p ∈ X.pn ++ pins, p.1 ≠ s.heap.objs.size := fun p hp => Nat.ne_of_lt (Heap.lt_size (I.pin p hp).1)
  have h4 : s.heap.objs.size ∉ X.fs := I.nofs (Nat.le_refl _)
  have eIt : ((s.heap.push { cls := .type "list_iterator", data := .fields #[.ref l, .int 0 0] }).push { cls := .type "list", data := .seq (List.toArray ([] : List Value)) }).get? s.heap.objs.size = some { cls := .type "list_iterator", data := .fields #[.ref l, .int 0 0] } := Heap.get?_push_of_some _ (Heap.get?_push_size _ rfl)
  have hI0 : upd H (s.heap.objs.size + 1) (.lst []) s.heap.objs.size = none := (upd_ne (Ne.symm hSI)).trans hIt
  refine wpAny_pure ⟨plainId_quiet (id := "max.loop") PySem.F.plain_max_loop _, ?_⟩
  obtain ⟨its0, rv0, pl0, hz0⟩ := I0.list (s0.seq hl)
  have lz0 := rv0.length
  obtain ⟨un0, eun0, run0⟩ := rv0.get evn
  have lp : 0 < us.length := by
    have := (List.getElem?_eq_some_iff.mp evn).1
    omega
  obtain ⟨z, sits, n0, rs, _, eS⟩ := I0.lstM (upd_same (H := H) (a := s.heap.objs.size + 1) (o := .lst []))
  cases rs
  have W := Walks.list (prog := X.prog) (w := X.w) (A := X.A.in1) hh s.heap.objs.size l (Nat.ne_of_lt ltl) its0.toArray
  refine codeAny_builtin (id := "max.loop") PySem.F.entry_max_loop ?_; rw [Around.under_plainId (id := "max.loop") PySem.F.plain_max_loop _]
  show wpAny _ X.A.in1 (seqItems? (.ref (s.heap.objs.size + 1)) >>= _) _ _ _
  refine wpAny_bind (wpAny_seqItems (n := n0) eS rfl ?_)
  show wpAny _ X.A.in1 (tryCatch (pyNext (.ref s.heap.objs.size)) _ >>= _) _ _ _
  refine wpAny_bind (wpAny_tryCatch (W.item 0 _ _ _ (by rw [List.size_toArray]; omega) ⟨⟨_, eIt, rfl, rfl⟩, pl0.isList⟩ fun v h' tk' hP hst hk' => ?_))
  have ev : v = un0 := by
    have hP' : its0[0]? = some v := by simpa using hP
    rw [eun0] at hP'
    exact (Option.some.inj hP').symm
  subst ev
  have I1 := I0.turned (h' := h') (t' := tk') (it := s.heap.objs.size) (fun d o n e => hk' d o (by simpa using n) e) hI0 hL (.inr I.sz) h2 h3
  obtain ⟨oI, eI, cI, dI⟩ := hst.1
  have I2 := I1.pins_of (pins' := (s.heap.objs.size, oI) :: pins) fun p hp => by
    rcases List.mem_cons.mp hp with e | hp
    · subst e
      exact ⟨eI, hI0, hL, h4, fun c y => by rw [dI] at y; cases y⟩
    · exact I1.pin p (List.mem_append_right _ hp)
  show wpAny _ X.A.in1 (tryCatch (holding [v] (call (.ref f) [v])) _ >>= _) _ _ _
  refine wpAny_bind (wpAny_tryCatch (wpAny_holding (wpAny_mono (KF _ _ _ vn v n (fun x H2 => ∃ t, x = .ref t ∧ upd H (s.heap.objs.size + 1) (.lst []) t = none ∧ H2 = upd (upd H (s.heap.objs.size + 1) (.lst [])) t (.tup [.int n.2, .int n.1])) I2 s0 run0 (cPa.keep s0.ts rn) fun t ht => ⟨t, rfl, ht, rfl⟩) (fun x s2 he => ?_) fun _ _ y => y.elim)))
  obtain ⟨x', H2, I3, rx, t, rfl, ht, rfl⟩ := he
  cases rx
  have sn := same_new (o := .tup [.int n.2, .int n.1]) ht
  have I4 := I3.pins_of (pins' := pins) fun p hp => I3.pin p (List.mem_append_right _ (List.mem_cons_of_mem _ hp))
  have eI2 : s2.heap.get? s.heap.objs.size = some oI := (I3.pin (s.heap.objs.size, oI) (List.mem_append_right _ List.mem_cons_self)).1
  have hI2 := (I3.pin (s.heap.objs.size, oI) (List.mem_append_right _ List.mem_cons_self)).2.1
  have hS2 := sn _ _ (upd_same (H := H) (a := s.heap.objs.size + 1) (o := .lst []))
  obtain ⟨z2, sits2, n2, rs2, _, eS2⟩ := I4.lstM hS2
  cases rs2
  show wpAny _ X.A.in1 (updateSeq (s.heap.objs.size + 1) (fun _ => #[v, .ref t]) >>= _) _ _ _
  refine wpAny_bind (wpAny_updateSeq eS2 rfl (wpAny_pure ⟨plainId_quiet (id := "max.loop") PySem.F.plain_max_loop _, ?_⟩) (by show 0 ≤ sizeLine; exact Nat.zero_le _) (by show 2 ≤ sizeLine + 1; decide))
  rw [← hname]
  have ts2 := ts_lst (ys := [vn, .ref t]) hS2
  refine max_loop (ns := n :: ns') (B := bestOf n ns') hh hu KF hl hp (Nat.ne_of_lt ltl) hSI hS0 hL I.sz h2 h3 h4 fin ns' 1 _ _ n vn t rfl (by simp) (I4.lset (its' := [v, .ref t]) (ys := [vn, .ref t]) (t' := s2.toks) hS2 eS2 rfl (.cons run0 (.cons rfl .nil)) (by show 2 ≤ sizeLine; decide)) (same_lst hS0 (s0.trans sn)) ((upd_ne (Ne.symm hSI)).trans hI2) upd_same (cPa.keep ((s0.trans sn).ts.trans ts2) rn) (ts2 _ _ upd_same)
    ⟨oI, (Heap.get?_update_other _ _ hSI).trans eI2, cI, dI⟩ rfl
end
/-! ### l[::-1] -/
section
variable {X : Cx} {e a b : Expr} {te ta : TE} {pos p2 p3 p4 : Pos}
def tRev (K : Frag) (te : TE) : TE := fun σ H Q => te σ H fun x H1 => ∃ l xs, x = .ref l ∧ SqL K H1 l xs ∧ ∀ p, H1 p = none → Q (.ref p) (upd H1 p (.lst xs.reverse))
end
end L2

set_option maxHeartbeats 1000000
/-! the law's call, one table of code tracked -/
namespace L2
open PySem PySem.Spec PyProof.Rows PySem.W Lo
theorem law_callT {P : Program} {w : World} {K : Frag} {mg mb : Str → Option Value} {CX : CXT} {k : Nat} {fa a cc Pt : Addr} {fd : FuncData} {x : Str} {sp : Sp} {s₁ : Shared} {vs : List Value} {ns : List Int}
    (KX : K.In s₁.heap) (hns : s₁.heap.Ns mainGlobals mg) (hb : s₁.heap.Ns builtinsNs mb) (hbb : ∀ x : Str, x ≠ "__name__" → mb x = bootBuiltins x) (hlim : s₁.heap.NoLimit) (hg : s₁.gens = #[])
    (ha : s₁.heap.get? a = some { cls := .type "list", data := .seq vs.toArray }) (hi : IntsAre vs ns) (hl : ns.length ≤ sizeLine) (hr : Room k callerA)
    (hC : codeHdIn K cc Pt = true) (hT : s₁.heap.get? Pt = some (tabObj #[])) (hK : noTabs K = true) (hB : BB mg s₁.heap)
    (F : ∀ base : Heap, K.In base → BB mg base → FnOk P w K mg base CX k fa fd [x] sp) (hbind : ∀ (s : Shared) (u : Value), BindsTo s fd ⟨[u], []⟩ [(x, u)])
    (hsp : ∀ H : Hp, SqL K H a (ns.map V.int) → H Pt = some (.tbl #[]) → sp [.ref a] H (fun v _ => v = .bl true) fun _ _ _ => False)
    (hCX : ∀ H e s', CX [] H s₁ (fun _ _ _ => False) e s' → False) :
    codeAny (model P w) callerA (.call (.ref fa) ⟨[.ref a], []⟩) (fun r s' => r = .ok (.ret (.bool true)) ∧ OldK s₁.heap s'.heap ∧ s'.os = s₁.os ∧ AllBare s'.gens) s₁ := by
  have rv := vals_ints hi
  have lenV := hi.length
  have naP : a ≠ Pt := fun z => by
    rw [z, hT] at ha
    cases ha
  have kP : K.lookup Pt = none := by
    cases q : K.lookup Pt with
    | none => rfl
    | some o =>
      have h2 := List.all_eq_true.mp hK (Pt, o) (mem_of_lookupK q)
      have e := KX _ _ q
      rw [hT] at e
      cases e
      exact absurd (show false = true from h2) Bool.false_ne_true
  have tabC : s₁.heap.TableAt cc Pt #[] := (codeHd_of_K KX hC).tab hT
  have core : ∀ H : Hp, SqL K H a (ns.map V.int) → H Pt = some (.tbl #[]) → HOk P w H s₁.heap → (∀ b, H b ≠ none → b = a ∨ b = Pt) → (H a ≠ none → K.lookup a = none) → (∀ u, H a = some u → ∃ o xs, u = .frz o (.lst xs)) →
      codeAny (model P w) callerA (.call (.ref fa) ⟨[.ref a], []⟩) (fun r s' => r = .ok (.ret (.bool true)) ∧ OldK s₁.heap s'.heap ∧ s'.os = s₁.os ∧ AllBare s'.gens) s₁ := by
    intro H hS hP hok hA hKa hfz
    have base_of : ∀ {b : Addr} {o : Obj}, s₁.heap.get? b = some o → H b = none → (hidT s₁.heap H).get? b = some o := fun e n => hidT_get e n
    have noA : ∀ {b : Addr} {o : Obj}, s₁.heap.get? b = some o → (o.cls ≠ .type "list") → o.cls ≠ .none → H b = none := fun {b o} e d1 d2 => by
      cases q : H b with
      | none => rfl
      | some u =>
        rcases hA b (by rw [q]; simp) with e' | e'
        · subst e'
          rw [ha] at e
          cases e
          exact absurd rfl d1
        · subst e'
          rw [hT] at e
          cases e
          exact absurd rfl d2
    have noD : ∀ {b : Addr} {o : Obj} {es : Array DictEntry} {ep : Nat}, s₁.heap.get? b = some o → o.data = .dict es ep → H b = none := fun {b o es ep} e d => by
      cases q : H b with
      | none => rfl
      | some u =>
        rcases hA b (by rw [q]; simp) with e' | e'
        · subst e'
          rw [ha] at e
          cases e
          cases (show Data.seq vs.toArray _ = Data.dict es ep from d)
        · subst e'
          rw [hT] at e
          cases e
          cases (show Data.fields #[] = Data.dict es ep from d)
    have nsK : ∀ {b : Addr} {m : Str → Option Value}, s₁.heap.Ns b m → (hidT s₁.heap H).Ns b m := fun {b m} ⟨o, es, ep, e, d, r⟩ => ⟨o, es, ep, base_of e (noD e d), d, r⟩
    have hKb : K.In (hidT s₁.heap H) := fun b o e => base_of (KX b o e) (by
      cases q : H b with
      | none => rfl
      | some u =>
        rcases hA b (by rw [q]; simp) with e' | e'
        · subst e'
          rw [hKa (by rw [q]; simp)] at e
          cases e
        · subst e'
          rw [kP] at e
          cases e)
    have hM : Mod K mg (hidT s₁.heap H) := ⟨hKb, nsK hns, ⟨mb, nsK hb, hbb⟩, let ⟨mc, h1, h2⟩ := hlim; ⟨mc, nsK h1, h2⟩⟩
    have hBb : BB mg (hidT s₁.heap H) := by
      obtain ⟨bm, ob, b1, b2, b3, b4, b5, b6⟩ := hB
      exact ⟨bm, ob, b1, b2, base_of b3 (noA b3 (by rw [b4]; decide) (by rw [b4]; nofun)), b4, b5, b6⟩
    have e0 : Env0 P w K mg (hidT s₁.heap H) callerA [] s₁ H := ⟨rfl, hM, fun b o e => of_hidT e, Nat.le_of_eq (hidT_size _ _), trivial, fun b hb => absurd (show b ∈ ([] : List Addr) from hb) (by simp), hok, .of_eq hg⟩
    refine codeAny_mono ((F _ hKb hBb).run callerA [] s₁ H ⟨[.ref a], []⟩ [.ref a] [.ref a] _ _ hr e0 (hbind s₁ (.ref a)) (.cons rfl .nil) (hsp H hS hP)) fun r s' h => ?_
    cases r with
    | error e => exact (hCX H e s' h).elim
    | ok fl =>
      cases fl with
      | next => exact False.elim h
      | brk => exact False.elim h
      | cont => exact False.elim h
      | ret u =>
        obtain ⟨v, H', os, bare, un, hok', r', q⟩ := h
        have q' : v = .bl true := q
        subst q'
        obtain rfl : u = Value.bool true := r'
        have plain : ∀ b o, s₁.heap.get? b = some o → b ≠ Pt → s'.heap.get? b = some o := fun b o e nP => by
          cases q : H b with
          | none => exact un.keep b o e q (by intro z; exact absurd (show b ∈ ([] : List Addr) from z) (by simp)) (by simp)
          | some u =>
            rcases hA b (by rw [q]; simp) with e' | e'
            · subst e'
              obtain ⟨ob, xs, rfl⟩ := hfz u q
              have z2 := un.frzs b ob _ q
              obtain ⟨e1, _⟩ := hok b _ q
              obtain ⟨e2, _⟩ := hok' b _ z2
              rw [e] at e1
              cases e1
              exact e2
            · exact absurd e' nP
        obtain ⟨more, eP⟩ := un.tbls Pt #[] hP
        have tP : s'.heap.get? Pt = some { cls := .none, data := .fields (#[] ++ more) } := hok' Pt _ eP
        refine ⟨rfl, ⟨fun b o e => ?_, fun b o e => ?_⟩, os, bare⟩
        · by_cases z : b = Pt
          · subst z
            rw [hT] at e
            cases e
            exact .inr (.inl ⟨tabC.isCodeTable, rfl, #[], more, rfl, tP⟩)
          · exact .inl (plain b o e z)
        · by_cases z : b = Pt
          · subst z
            exact ⟨_, tP⟩
          · exact ⟨o, plain b o e z⟩
  cases hk : K.lookup a with
  | some o =>
    have e := KX a o hk
    rw [ha] at e
    cases e
    refine core (fun b => if b = Pt then some (.tbl #[]) else none) (.inr ⟨_, vs.toArray, _, hk, rfl, rfl, rfl, by rw [List.size_toArray, lenV]; exact hl, by simpa using rv⟩) (if_pos rfl) (fun b u z => ?_) (fun b z => ?_) (fun z => absurd (if_neg naP) z) fun u z => ?_
    · by_cases hb : b = Pt
      · have z' := (if_pos hb).symm.trans z
        cases z'
        subst hb
        exact hT
      · have z' := (if_neg hb).symm.trans z
        cases z'
    · by_cases hb : b = Pt
      · exact .inr hb
      · exact absurd (if_neg hb) z
    · have z' := (if_neg naP).symm.trans z
      cases z'
  | none =>
    refine core (fun b => if b = Pt then some (.tbl #[]) else if b = a then some (.frz { cls := .type "list", data := .seq vs.toArray } (.lst (ns.map V.int))) else none) (.inl (.inr ⟨{ cls := .type "list", data := .seq vs.toArray }, (if_neg naP).trans (if_pos rfl)⟩)) (if_pos rfl) (fun b u z => ?_) (fun b z => ?_) (fun _ => hk) fun u z => ?_
    · by_cases hb : b = Pt
      · have z' := (if_pos hb).symm.trans z
        cases z'
        subst hb
        exact hT
      · have z1 := (if_neg hb).symm.trans z
        by_cases hb : b = a
        · have z' := (if_pos hb).symm.trans z1
          cases z'
          subst hb
          exact ⟨ha, by rw [List.length_map]; exact hl, vs, _, rv, ha⟩
        · have z' := (if_neg hb).symm.trans z1
          cases z'
    · by_cases hb : b = Pt
      · exact .inr hb
      · by_cases hb' : b = a
        · exact .inl hb'
        · exact absurd ((if_neg hb).trans (if_neg hb')) z
    · have z1 := ((if_neg naP).trans (if_pos rfl)).symm.trans z
      cases z1
      exact ⟨_, _, rfl⟩
theorem walk_ofT {l : OpenLaw} {n k : Nat} {q : Program} {loose : List Str} {XP : (Str → Option Value) → Heap → Prop} {YP : World → Heap → Prop} {d : DefRec} {K : Params → Frag} {sp : World → Addr → Sp} {x : Str}
    (hn : l.most = some n) (hn2 : n ≤ sizeLine) (hdf : d.params.defaults = []) (hr : Room k callerA) (hY : ∀ (w : World) (h : Heap), YP w h → (K w.params).In h)
    (F : ∀ (w : World) (mg : Str → Option Value) (fa : Addr) (h : Heap), YP w h → (K w.params).In h → h.Ns mainGlobals mg → mg d.name = some (.ref fa) →
      ∃ (fd : FuncData) (cc Pt : Addr), (∀ (s : Shared) (u : Value), BindsTo s fd ⟨[u], []⟩ [(x, u)]) ∧ codeHdIn (K w.params) cc Pt = true ∧ h.get? Pt = some (tabObj #[]) ∧ noTabs (K w.params) = true ∧
        ∀ base : Heap, (K w.params).In base → BB mg base → FnOk l.prog w (K w.params) mg base CX0 k fa fd [x] (sp w Pt))
    (hsp : ∀ (w : World) (Pt : Addr) (H : Hp) (a : Addr) (ns : List Int), ns.length ≤ n → SqL (K w.params) H a (ns.map V.int) → H Pt = some (.tbl #[]) → sp w Pt [.ref a] H (fun v _ => v = .bl true) fun _ _ _ => False) :
    WalkO q loose XP YP l.row.toRowW d [] (fun f vs => PySem.call f vs) := by
  refine Att.attach_call hn hdf fun w s₀ s₁ mg mb fa o pm cd doc a vs ns G Y ho hd hcd hmg hobj hints hlen hg => ?_
  have KX := hY w _ Y
  obtain ⟨fd, cc, Pt, hb, hC, hT, hK, hF⟩ := F w mg fa _ Y KX G.T.g hmg
  exact law_callT KX G.T.g G.T.b G.T.builtins G.T.nolimit hg hobj hints (Nat.le_trans hlen hn2) hr hC hT hK G.T.bmain hF hb (fun H hS hP => hsp w Pt H a ns hlen hS hP) fun H e s' z => z
/-- a def by its body, its code's address kept -/
theorem Fun.okC {P : Program} {w : World} {K : Frag} {mg : Str → Option Value} {base : Heap} {x qual : Str} {st : Stmt} {f : Addr} {fd : FuncData} {N ps : List Str} {k : Nat} {sp : Sp} (F : Fun K x qual st f fd) (S : FnScope N ps (defScope st)) (len : ∀ vs H Q E, sp vs H Q E → vs.length = ps.length)
    (hbody : ∀ (A : Around) (outer : List Env) (s : Shared) (H : Hp) (vs : List V) (Q : VK) (E : XK), Room k (A.deeper (envOfC qual (defScope st) s.heap.objs.size f fd.code)) → sp vs H Q E →
      ∃ t, PSs (cxOf CX0 P w K mg base N qual (defScope st) f fd.code A outer s H E).nox (defBody st) t ∧ t { nx := fun _ H' => Q .non H', rt := Q } (start N vs) H) : FnOk P w K mg base CX0 (k + 1) f fd ps sp := by
  obtain ⟨oc, od, kV, doc, pm, an, cdv, ct, osl, rfl, lk, hcd⟩ := F.ex
  refine fn_of lk hcd S len fun A outer s H vs Q E hr hsp => ?_
  obtain ⟨t, h, q⟩ := hbody A outer s H vs Q E hr hsp
  exact ⟨t, h.nox, q⟩
/-- max(e, key=..) -/
def tMaxK (X : Cx) (te tl : TE) : TE := fun σ H Q => te σ H fun x H1 => tl σ H1 fun y H2 => ∃ l f us n ns, x = .ref l ∧ y = .ref f ∧ SqL X.K H2 l us ∧ Paired (cPa.rp X.K H2) (n :: ns) us ∧ KeyOk X σ H2 f ∧ ∀ u H', Same H2 H' → cPa.rp X.K H' (bestOf n ns) u → Q u H'
theorem pe_maxK {X : Cx} {k : Nat} {e lam : Expr} {te tl : TE} {p kp pos : Pos} (hr : Room k X.A) (hg : Gl X "max") (hm : X.mg "max" = none) (ha : PE X e te) (hk : PE X lam tl) (he0 : starEach [e] X.env = [(false, eval e X.env)] := by rfl) :
    PE X (.Call (.Name "max" p) [e] [⟨some "key", lam, kp⟩] pos) (tMaxK X te tl) := by
  intro pins s σ H Q I h
  refine wpAny_Call_Name_kw (ld_blt I hg hm boot_max ?_ (by decide) (by decide))
  have he : backTo pos (starEach [e] X.env) = (false, eval e X.env) :: backTo pos (starEach [] X.env) := by rw [he0]; rfl
  refine callWith_kw ?_ he (by rw [he]; rfl) rfl rfl
  rw [he]
  refine Calls.spliced_cons (thn (ha pins s σ H _ I h) fun u s1 ⟨x, H1, I1, r1, q1⟩ => Calls.spliced_nil ?_)
  refine kws_cons (thn (hk pins s1 σ H1 _ I1 q1) fun w s2 ⟨y, H2, I2, r2, q2⟩ => kws_nil ?_)
  obtain ⟨l, f, us, n, ns, rfl, rfl, hl, hp, KF, fin⟩ := q2
  cases r1
  cases r2
  exact call_maxK I2 hr.hd (by have := hr.un; omega) KF hl hp fin
end L2

set_option maxHeartbeats 1000000
/-! () + t; t[lo:hi] that is the whole of t -/
namespace HT
open PySem PyProof.Rows
section
variable {prog : Program} {w : World} {A : Around} {E : Value → Shared → Prop} {s : Shared}
theorem cat_nil {t b : Addr} {vs ws : List Value} {Q : Value → Shared → Prop} (ht : IsTup s.heap t vs.toArray) (hb : IsTup s.heap b ws.toArray) (hv : vs = []) (h : Q (.ref b) s) : wpAny (model prog w) A (binaryOp .Add (.ref t) (.ref b)) Q E s := by
  obtain ⟨⟨cls, dd, data, sl⟩, ho, hc, n, hd⟩ := id ht
  obtain ⟨⟨cls2, dd2, data2, sl2⟩, ho2, hc2, n2, hd2⟩ := id hb
  simp only at hc hd hc2 hd2
  subst hc hd hc2 hd2
  exact concat_meets ⟨_, ho, rfl⟩ ⟨_, ho2, rfl⟩ noFill_tuple_add seq_tuple_add PySem.F.slot_tuple_add PySem.F.entry_tuple_add (PySem.F.args_tuple_add_2 _ _)
    (tuple_addW0 t b vs.toArray ws.toArray n n2 dd dd2 sl sl2 (by simp [hv])) ⟨ho, ho2, h⟩
theorem getItem_tuple_whole {t sl : Addr} {items : Array Value} {vl vu : Value} {lo hi : Option Int} {Q : Value → Shared → Prop} (ht : IsTup s.heap t items) (hs : s.heap.IsSliceOf sl vl vu .none) (pl : IsPart vl lo) (pu : IsPart vu hi)
    (hw : sIx items.size 0 lo = 0 ∧ sIx items.size items.size hi = items.size) (h : Q (.ref t) s) : wpAny (model prog w) A (getItem (.ref t) (.ref sl)) Q E s := by
  obtain ⟨os, hos, hcs, hds⟩ := id hs
  have hTs : s.TypeIs (.ref sl) "slice" := ⟨os, hos, hcs⟩
  unfold getItem
  try with_reducible refine wpAny_holding ?_
  first | refine wpAny_bind (wpAny_pure ?_) | skip
  refine wpAny_bind (wpAny_sequenceKey ht.typeIs (by decide) ?_)
  refine wpAny_bind (wpAny_callSpecial?_slot (name := Str.ofString "__getitem__") ht.typeIs PyProof.Rows.slot_tuple_getitem
    (wpAny_call_entry PyProof.Rows.slot_tuple_getitem ht.typeIs entry_tuple_getitem ?_ (args_tuple_getitem _ _)))
  show wpAny _ _ (Builtin.Tuple.tupleItemsOf (.ref t) >>= _) _ _ s
  refine wpAny_bind (tupleItemsOf_ ht ?_)
  refine wpAny_bind (wpAny_typeOf hTs ?_)
  rw [if_pos (by decide)]
  refine wpAny_bind (sliceApplied_gen hs pl pu ?_)
  have hyes : (((sIx items.size 0 lo : Nat) : Int) == 0 && (1 : Int) == 1 && (sIx items.size items.size hi - sIx items.size 0 lo) == items.size) = true := by
    rw [hw.1, hw.2]
    simp
  show wpAny _ _ (if (((sIx items.size 0 lo : Nat) : Int) == 0 && (1 : Int) == 1 && (sIx items.size items.size hi - sIx items.size 0 lo) == items.size) = true then _ else _) _ _ s
  rw [if_pos hyes]
  refine wpAny_bind ?_
  unfold Builtin.Tuple.tupleIsExact
  refine wpAny_bind (wpAny_typeOf ht.typeIs (wpAny_pure ?_))
  simp only [beq_self_eq_true, if_true]
  refine wpAny_bind (wpAny_rule ?_)
  exact wpAny_bind (wpAny_pure (wpAny_pure ⟨_, rfl, wpAny_pure h⟩))
end
end HT
namespace L2
open PySem PySem.Spec PyProof.Rows PySem.W Lo
section
variable {X : Cx}
/-- t + u, whatever t is; u not empty -/
def rCatE (K : Frag) : R2 := fun x y H Q => ∃ a b xs ys, x = .ref a ∧ y = .ref b ∧ SqT K H a xs ∧ H b = some (.tup ys) ∧ ys ≠ [] ∧ xs.length + ys.length ≤ sizeLine ∧ ∀ p H', Same H H' → H' p = some (.tup (xs ++ ys)) → Q (.ref p) H'
theorem op_catE : OpR X (binaryOp .Add) (rCatE X.K) := by
  intro pins s σ H x y v u Q I rx ry h
  obtain ⟨a, b, xs, ys, rfl, rfl, ha, hb, hy, hz, q⟩ := h
  by_cases e : xs = []
  · subst e
    cases rx
    cases ry
    obtain ⟨its, r1, p1, _⟩ := I.tuple ha
    obtain ⟨its2, r2, p2, _⟩ := I.tuple (SqT.of hb)
    exact HT.cat_nil p1 p2 (r1.nil_iff.mpr rfl) ⟨.ref b, H, I, rfl, q b H (Same.refl _) hb⟩
  · exact op_catT pins s σ H _ _ _ _ Q I rx ry ⟨a, b, xs, ys, rfl, rfl, ha, SqT.of hb, e, hz, fun z => absurd z hy, fun _ p hp => q p _ (same_new hp) upd_same⟩
/-- t[lo:hi], the whole or not -/
def rSlE : V → Option Int → Option Int → Hp → VK → Prop := fun x lo hi H Q => ∃ a xs, x = .ref a ∧ H a = some (.tup xs) ∧ ∀ p H', Same H H' → H' p = some (.tup (cutV xs lo hi)) → Q (.ref p) H'
theorem sl_tupE : SlR X rSlE := by
  intro pins s σ H x v vl vu lo hi sl Q I rx hs pl pu h
  obtain ⟨a, xs, rfl, hx, q⟩ := h
  by_cases hw : HT.sIx xs.length 0 lo = 0 ∧ HT.sIx xs.length xs.length hi = xs.length
  · cases rx
    obtain ⟨its, r, ht, hz⟩ := I.tuple (SqT.of hx)
    have hlen : its.toArray.size = xs.length := by rw [List.size_toArray]; exact r.length.symm
    refine ⟨"tuple", _, PyProof.Rows.slot_tuple_getitem.lookup, ht.typeIs, ?_⟩
    refine HT.getItem_tuple_whole ht hs pl pu (by rw [hlen]; exact hw) ⟨.ref a, H, I, rfl, q a H (Same.refl _) ?_⟩
    have e : cutV xs lo hi = xs := by
      unfold cutV
      rw [hw.1, hw.2]
      exact List.take_of_length_le (by simp)
    rw [e]
    exact hx
  · exact sl_tup pins s σ H _ _ vl vu lo hi sl Q I rx hs pl pu ⟨a, xs, rfl, SqT.of hx, hw, fun p hp => q p _ (same_new hp) upd_same⟩
end
end L2

set_option maxHeartbeats 1000000
/-! a comprehension over a tuple of pairs; things alike -/
namespace L2
open PySem PySem.Spec PyProof.Rows
section
variable {K : PySem.W.Frag} {a : Addr} {xs : List V} {tt : TT} {te : TE} {bl : St} {Fin : List V → Hp → Prop} {H : Hp}
theorem lc_pairT {σ : St} {fv : List Nat} (Pv : Nat → List V → Hp → Prop) (h0 : Pv 0 [] H) (hn : xs.length ≤ sizeLine) (hl : ∀ i ys H, i ≤ xs.length → Pv i ys H → SqT K H a xs)
    (hs : ∀ i x ys H, xs[i]? = some x → Pv i ys H → ∃ b u w, x = .ref b ∧ SqT K H b [u, w] ∧ tt (some u :: some w :: blkVals fv σ) H fun c H2 => if c = true then te (some u :: some w :: blkVals fv σ) H2 fun y H3 => Pv (i + 1) (ys ++ [y]) H3 else Pv (i + 1) ys H2)
    (hd : ∀ ys H, Pv xs.length ys H → Fin ys H) :
    ∃ (W : Nat → List V → Hp → Prop) (n : Nat), W 0 [] H ∧ n ≤ sizeLine ∧ ∀ i ys H, W i ys H → ((Itt K a).stop i H ∧ Fin ys H) ∨
      ((Itt K a).go i H ∧ i < n ∧ ∀ x H', (Itt K a).yld i H x H' → gPair K x (bv 2 fv σ) H' fun σ' H'' => Ext (bv 2 fv σ) σ' ∧ tt σ' H'' fun c H2 => if c = true then te σ' H2 fun y H3 => W (i + 1) (ys ++ [y]) H3 else W (i + 1) ys H2) := by
  refine ⟨fun i ys H => i ≤ xs.length ∧ Pv i ys H, xs.length, ⟨Nat.zero_le _, h0⟩, hn, ?_⟩
  rintro i ys H ⟨hi, p⟩
  have q := hl i ys H hi p
  by_cases hlt : i < xs.length
  · refine .inr ⟨⟨xs, xs[i], q, by simp [hlt]⟩, hlt, fun x H' y => ?_⟩
    obtain ⟨e, y⟩ := y
    subst e
    obtain ⟨b, u, w, ex, hb, z⟩ := hs i x ys _ (y xs q) p
    have e1 : (fun (c : Bool) (H2 : Hp) => if c = true then te (some u :: some w :: blkVals fv σ) H2 fun y H3 => i + 1 ≤ xs.length ∧ Pv (i + 1) (ys ++ [y]) H3 else i + 1 ≤ xs.length ∧ Pv (i + 1) ys H2) = fun c H2 => if c = true then te (some u :: some w :: blkVals fv σ) H2 fun y H3 => Pv (i + 1) (ys ++ [y]) H3 else Pv (i + 1) ys H2 := by
      have e2 : (i + 1 ≤ xs.length) = True := eq_true hlt
      funext c H2
      simp only [e2, true_and]
    refine ⟨b, u, w, ex, hb, ext_pair, ?_⟩
    rw [bv_pair]
    show tt _ _ _
    rw [e1]
    exact z
  · have e : i = xs.length := by omega
    subst e
    exact .inl ⟨⟨xs, q, Nat.le_refl _⟩, hd ys H p⟩
end
theorem eqr_same {K : PySem.W.Frag} {H : Hp} {a : Addr} (n : Nat) : EqIs K n H (.ref a) (.ref a) true := fun P w A s u v hA hok kin r1 r2 => by
  cases r1
  cases r2
  exact SeqAt.EqAt.same _
theorem eqr_non {K : PySem.W.Frag} {H : Hp} (n : Nat) : EqIs K n H .non .non true := fun P w A s u v hA hok kin r1 r2 => by
  cases r1
  cases r2
  exact SeqAt.EqAt.same _
theorem eqr_str {K : PySem.W.Frag} {H : Hp} (n : Nat) (i : Str) : EqIs K n H (.str i) (.str i) true := by
  have z := (cStr.eq (K := K) (H := H) (x := i) (y := i) rfl rfl).mono (Nat.zero_le n)
  rwa [decide_eq_true rfl] at z
theorem eqr_tup {K : PySem.W.Frag} {H : Hp} {a b : Addr} {n : Nat} {us vs : List V} (ha : SqT K H a us) (hb : SqT K H b vs) (h : Paired (fun x y => EqIs K n H x y true) us vs) : RcIs K (n + 1) H (.ref a) (.ref b) true ∧ NeIs K (n + 1) H (.ref a) (.ref b) true := by
  obtain ⟨z1, z2⟩ := tupRc (e := fun _ => true) ha hb h.len fun j x y e1 e2 => by
    obtain ⟨v, ev, rv⟩ := h.get1 e1
    rw [e2] at ev
    cases ev
    exact rv
  have e : ((List.range us.length).all fun _ => true) = true := by simp
  rw [e] at z1 z2
  exact ⟨z1, z2⟩
theorem op_eqR {X : Cx} (n : Nat) (hu : X.A.units + n < cLine) : OpR X (compareOp .Eq) (fun x y H Q => RcIs X.K n H x y true ∧ Q (.bl true) H) := by
  intro pins s σ H x y v u Q I rx ry h
  exact h.1 X.prog X.w X.A s v u hu I.hok I.kIn rx ry X.prog X.w X.xe _ ⟨.bl true, H, I, rfl, h.2⟩
theorem op_neR {X : Cx} (n : Nat) (hu : X.A.units + n < cLine) : OpR X (compareOp .NotEq) (fun x y H Q => NeIs X.K n H x y true ∧ Q (.bl false) H) := by
  intro pins s σ H x y v u Q I rx ry h
  exact h.1 X.prog X.w X.A s v u hu I.hok I.kIn rx ry X.prog X.w X.xe _ ⟨.bl false, H, I, rfl, h.2⟩
end L2

set_option maxHeartbeats 4000000
namespace K61
open PySem L2 Lo
def top (i : Nat) : Stmt := PySem.Challenge.pw_pactroom_k61_links_of_a_chase.main.body.getD i (.Pass ⟨0, 0, 0, 0⟩)
abbrev s__wall : Stmt := top 0
abbrev s_victim : Stmt := top 2
abbrev s_chased : Stmt := top 3
abbrev m_Lock_init : Stmt := inClass (top 7) 0
abbrev m_Lock_kind : Stmt := inClass (top 7) 1
abbrev m_Lock_beside : Stmt := inClass (top 7) 2
abbrev m_Lock_covers : Stmt := inClass (top 7) 3
abbrev m_Lock_told : Stmt := inClass (top 7) 4
abbrev m_Read_kind : Stmt := inClass (top 8) 0
abbrev m_Mean_kind : Stmt := inClass (top 9) 0
abbrev m_Change_kind : Stmt := inClass (top 10) 0
abbrev s_lock_of : Stmt := top 11
abbrev m_Locks_init : Stmt := inClass (top 16) 0
abbrev m_Locks_ask : Stmt := inClass (top 16) 1
abbrev m_Locks_free : Stmt := inClass (top 16) 2
abbrev m_Locks_stands : Stmt := inClass (top 16) 3
abbrev m_Locks_behind : Stmt := inClass (top 16) 4
abbrev m_Locks_held : Stmt := inClass (top 16) 5
abbrev m_Locks_waiting : Stmt := inClass (top 16) 6
abbrev m_Locks_hinderer : Stmt := inClass (top 16) 7
abbrev m_Locks_held_pairs : Stmt := inClass (top 16) 8
abbrev m_Locks_waiting_pairs : Stmt := inClass (top 16) 9
abbrev m_Locks_waiting_place : Stmt := inClass (top 16) 10
abbrev s__law_cell_at : Stmt := top 18
abbrev s__law_names : Stmt := top 19
abbrev s__law_told : Stmt := top 20
abbrev s__law_locks : Stmt := top 21
abbrev s__law_path : Stmt := top 22
abbrev s__law_links : Stmt := top 23
abbrev s__law_victim : Stmt := top 24
abbrev s__law_right : Stmt := top 25
abbrev s_law : Stmt := top 26
theorem sc_victim : FnScope ["path"] ["path"] (defScope s_victim) := ⟨rfl, rfl, rfl, by decide +kernel, rfl, by decide +kernel, by decide +kernel⟩
def cm_victim_0 : Scope := match defBody s_victim with
  | .Return (some (.Call _ [.ListComp _ _ sc _] _ _)) _ :: _ => sc
  | _ => default
theorem sb_victim_0 : BlkScope ["path"] (defScope s_victim) cm_victim_0 "link" ["link"] [] := ⟨by decide +kernel, rfl, by decide +kernel, rfl, by decide +kernel, by decide +kernel, rfl, rfl, fun j h => absurd h (Nat.not_lt_zero j)⟩
theorem sc_chased : FnScope ["locks", "home", "p", "path", "ahead", "further"] ["locks", "home", "p", "path"] (defScope s_chased) := ⟨rfl, rfl, rfl, by decide +kernel, rfl, by decide +kernel, by decide +kernel⟩
def cm_chased_0 : Scope := match defBody s_chased with
  | _ :: _ :: .While _ (_ :: _ :: .If (.Compare _ _ [.ListComp _ _ sc _] _) _ _ _ :: _) _ _ :: _ => sc
  | _ => default
theorem sb_chased_0 : BlkScope ["locks", "home", "p", "path", "ahead", "further"] (defScope s_chased) cm_chased_0 "link" ["link"] [] := ⟨by decide +kernel, rfl, by decide +kernel, rfl, by decide +kernel, by decide +kernel, rfl, rfl, fun j h => absurd h (Nat.not_lt_zero j)⟩
theorem sc_Lock_init : FnScope ["self", "first", "last"] ["self", "first", "last"] (defScope m_Lock_init) := ⟨rfl, rfl, rfl, by decide +kernel, rfl, by decide +kernel, by decide +kernel⟩
theorem sc_Lock_beside : FnScope ["self", "other", "apart"] ["self", "other"] (defScope m_Lock_beside) := ⟨rfl, rfl, rfl, by decide +kernel, rfl, by decide +kernel, by decide +kernel⟩
theorem sc_Lock_covers : FnScope ["self", "other", "within"] ["self", "other"] (defScope m_Lock_covers) := ⟨rfl, rfl, rfl, by decide +kernel, rfl, by decide +kernel, by decide +kernel⟩
theorem sc_Lock_told : FnScope ["self"] ["self"] (defScope m_Lock_told) := ⟨rfl, rfl, rfl, by decide +kernel, rfl, by decide +kernel, by decide +kernel⟩
theorem sc_Read_kind : FnScope ["self"] ["self"] (defScope m_Read_kind) := ⟨rfl, rfl, rfl, by decide +kernel, rfl, by decide +kernel, by decide +kernel⟩
theorem sc_Mean_kind : FnScope ["self"] ["self"] (defScope m_Mean_kind) := ⟨rfl, rfl, rfl, by decide +kernel, rfl, by decide +kernel, by decide +kernel⟩
theorem sc_Change_kind : FnScope ["self"] ["self"] (defScope m_Change_kind) := ⟨rfl, rfl, rfl, by decide +kernel, rfl, by decide +kernel, by decide +kernel⟩
theorem sc_lock_of : FnScope ["told"] ["told"] (defScope s_lock_of) := ⟨rfl, rfl, rfl, by decide +kernel, rfl, by decide +kernel, by decide +kernel⟩
theorem sc_Locks_init : FnScope ["self"] ["self"] (defScope m_Locks_init) := ⟨rfl, rfl, rfl, by decide +kernel, rfl, by decide +kernel, by decide +kernel⟩
theorem sc_Locks_ask : FnScope ["self", "p", "lock"] ["self", "p", "lock"] (defScope m_Locks_ask) := ⟨rfl, rfl, rfl, by decide +kernel, rfl, by decide +kernel, by decide +kernel⟩
def cm_Locks_ask_0 : Scope := match defBody m_Locks_ask with
  | _ :: .If (.Call _ [.ListComp _ _ sc _] _ _) _ _ _ :: _ => sc
  | _ => default
theorem sb_Locks_ask_0 : BlkScope ["self", "p", "lock"] (defScope m_Locks_ask) cm_Locks_ask_0 "pair" ["pair", "p", "lock"] [1, 2] := ⟨by decide +kernel, rfl, by decide +kernel, rfl, by decide +kernel, by decide +kernel, rfl, rfl, by decide +kernel⟩
theorem sc_Locks_free : FnScope ["self", "p", "waited", "still"] ["self", "p"] (defScope m_Locks_free) := ⟨rfl, rfl, rfl, by decide +kernel, rfl, by decide +kernel, by decide +kernel⟩
def cm_Locks_free_0 : Scope := match defBody m_Locks_free with
  | _ :: .Assign _ (.ListComp _ _ sc _) _ :: _ => sc
  | _ => default
theorem sb_Locks_free_0 : BlkScope ["self", "p", "waited", "still"] (defScope m_Locks_free) cm_Locks_free_0 "pair" ["pair", "p"] [1] := ⟨by decide +kernel, rfl, by decide +kernel, rfl, by decide +kernel, by decide +kernel, rfl, rfl, by decide +kernel⟩
def cm_Locks_free_1 : Scope := match defBody m_Locks_free with
  | _ :: _ :: .Assign _ (.ListComp _ _ sc _) _ :: _ => sc
  | _ => default
theorem sb_Locks_free_1 : BlkScope ["self", "p", "waited", "still"] (defScope m_Locks_free) cm_Locks_free_1 "pair" ["pair"] [] := ⟨by decide +kernel, rfl, by decide +kernel, rfl, by decide +kernel, by decide +kernel, rfl, rfl, fun j h => absurd h (Nat.not_lt_zero j)⟩
def cm_Locks_free_2 : Scope := match defBody m_Locks_free with
  | _ :: _ :: _ :: .Return (some (.ListComp _ _ sc _)) _ :: _ => sc
  | _ => default
theorem sb_Locks_free_2 : BlkScope ["self", "p", "waited", "still"] (defScope m_Locks_free) cm_Locks_free_2 "pair" ["pair", "p", "still"] [1, 3] := ⟨by decide +kernel, rfl, by decide +kernel, rfl, by decide +kernel, by decide +kernel, rfl, rfl, by decide +kernel⟩
theorem sc_Locks_behind : FnScope ["self", "p", "place"] ["self", "p"] (defScope m_Locks_behind) := ⟨rfl, rfl, rfl, by decide +kernel, rfl, by decide +kernel, by decide +kernel⟩
theorem sc_Locks_held : FnScope ["self"] ["self"] (defScope m_Locks_held) := ⟨rfl, rfl, rfl, by decide +kernel, rfl, by decide +kernel, by decide +kernel⟩
def cm_Locks_held_0 : Scope := match defBody m_Locks_held with
  | .Return (some (.ListComp _ _ sc _)) _ :: _ => sc
  | _ => default
theorem sb_Locks_held_0 : BlkScope ["self"] (defScope m_Locks_held) cm_Locks_held_0 "pair" ["pair"] [] := ⟨by decide +kernel, rfl, by decide +kernel, rfl, by decide +kernel, by decide +kernel, rfl, rfl, fun j h => absurd h (Nat.not_lt_zero j)⟩
theorem sc_Locks_waiting : FnScope ["self"] ["self"] (defScope m_Locks_waiting) := ⟨rfl, rfl, rfl, by decide +kernel, rfl, by decide +kernel, by decide +kernel⟩
def cm_Locks_waiting_0 : Scope := match defBody m_Locks_waiting with
  | .Return (some (.ListComp _ _ sc _)) _ :: _ => sc
  | _ => default
theorem sb_Locks_waiting_0 : BlkScope ["self"] (defScope m_Locks_waiting) cm_Locks_waiting_0 "pair" ["pair"] [] := ⟨by decide +kernel, rfl, by decide +kernel, rfl, by decide +kernel, by decide +kernel, rfl, rfl, fun j h => absurd h (Nat.not_lt_zero j)⟩
theorem sc_Locks_hinderer : FnScope ["self", "place", "pair", "k", "ahead"] ["self", "place"] (defScope m_Locks_hinderer) := ⟨rfl, rfl, rfl, by decide +kernel, rfl, by decide +kernel, by decide +kernel⟩
theorem sc_Locks_held_pairs : FnScope ["self"] ["self"] (defScope m_Locks_held_pairs) := ⟨rfl, rfl, rfl, by decide +kernel, rfl, by decide +kernel, by decide +kernel⟩
def cm_Locks_held_pairs_0 : Scope := match defBody m_Locks_held_pairs with
  | .Return (some (.ListComp _ _ sc _)) _ :: _ => sc
  | _ => default
theorem sb_Locks_held_pairs_0 : BlkScope ["self"] (defScope m_Locks_held_pairs) cm_Locks_held_pairs_0 "k" ["k", "self"] [0] := ⟨by decide +kernel, rfl, by decide +kernel, rfl, by decide +kernel, by decide +kernel, rfl, rfl, by decide +kernel⟩
theorem sc_Locks_waiting_pairs : FnScope ["self"] ["self"] (defScope m_Locks_waiting_pairs) := ⟨rfl, rfl, rfl, by decide +kernel, rfl, by decide +kernel, by decide +kernel⟩
def cm_Locks_waiting_pairs_0 : Scope := match defBody m_Locks_waiting_pairs with
  | .Return (some (.ListComp _ _ sc _)) _ :: _ => sc
  | _ => default
theorem sb_Locks_waiting_pairs_0 : BlkScope ["self"] (defScope m_Locks_waiting_pairs) cm_Locks_waiting_pairs_0 "k" ["k", "self"] [0] := ⟨by decide +kernel, rfl, by decide +kernel, rfl, by decide +kernel, by decide +kernel, rfl, rfl, by decide +kernel⟩
theorem sc_Locks_waiting_place : FnScope ["self", "p", "k"] ["self", "p"] (defScope m_Locks_waiting_place) := ⟨rfl, rfl, rfl, by decide +kernel, rfl, by decide +kernel, by decide +kernel⟩
theorem sc__law_cell_at : FnScope ["_law_script", "_law_k"] ["_law_script", "_law_k"] (defScope s__law_cell_at) := ⟨rfl, rfl, rfl, by decide +kernel, rfl, by decide +kernel, by decide +kernel⟩
theorem sc__law_names : FnScope ["_law_cell", "_law_home", "_law_k"] ["_law_cell"] (defScope s__law_names) := ⟨rfl, rfl, rfl, by decide +kernel, rfl, by decide +kernel, by decide +kernel⟩
theorem sc__law_told : FnScope ["_law_cell", "_law_first"] ["_law_cell"] (defScope s__law_told) := ⟨rfl, rfl, rfl, by decide +kernel, rfl, by decide +kernel, by decide +kernel⟩
theorem sc__law_locks : FnScope ["_law_names_here", "_law_cells", "_law_locks_here", "_law_cell", "_law_p"] ["_law_names_here", "_law_cells"] (defScope s__law_locks) := ⟨rfl, rfl, rfl, by decide +kernel, rfl, by decide +kernel, by decide +kernel⟩
def cm__law_locks_0 : Scope := match defBody s__law_locks with
  | _ :: .For _ _ (_ :: .If _ _ (.If (.Compare _ _ [.ListComp _ _ sc _] _) _ _ _ :: _) _ :: _) _ _ :: _ => sc
  | _ => default
theorem sb__law_locks_0 : BlkS ["_law_names_here", "_law_cells", "_law_locks_here", "_law_cell", "_law_p"] (defScope s__law_locks) cm__law_locks_0 2 ["_law_pact", "_law_told_here"] [] := ⟨by decide +kernel, rfl, by decide +kernel, by decide +kernel, by decide +kernel, rfl, fun j h => absurd h (Nat.not_lt_zero j)⟩
theorem sc__law_path : FnScope ["_law_names_here", "_law_p", "_law_home", "_law_cell", "_law_some"] ["_law_names_here", "_law_p", "_law_home", "_law_cell"] (defScope s__law_path) := ⟨rfl, rfl, rfl, by decide +kernel, rfl, by decide +kernel, by decide +kernel⟩
def cm__law_path_0 : Scope := match defBody s__law_path with
  | _ :: _ :: _ :: .Assign _ (.ListComp _ _ sc _) _ :: _ => sc
  | _ => default
theorem sb__law_path_0 : BlkScope ["_law_names_here", "_law_p", "_law_home", "_law_cell", "_law_some"] (defScope s__law_path) cm__law_path_0 "_law_link" ["_law_link", "_law_p"] [1] := ⟨by decide +kernel, rfl, by decide +kernel, rfl, by decide +kernel, by decide +kernel, rfl, rfl, by decide +kernel⟩
theorem sc__law_links : FnScope ["_law_locks_here", "_law_home", "_law_p", "_law_path_here", "_law_found", "_law_seen", "_law_ahead", "_law_link"] ["_law_locks_here", "_law_home", "_law_p", "_law_path_here", "_law_found"] (defScope s__law_links) := ⟨rfl, rfl, rfl, by decide +kernel, rfl, by decide +kernel, by decide +kernel⟩
def cm__law_links_0 : Scope := match defBody s__law_links with
  | .Assign _ (.ListComp _ _ sc _) _ :: _ => sc
  | _ => default
theorem sb__law_links_0 : BlkS ["_law_locks_here", "_law_home", "_law_p", "_law_path_here", "_law_found", "_law_seen", "_law_ahead", "_law_link"] (defScope s__law_links) cm__law_links_0 2 ["_law_pact", "_law_where"] [] := ⟨by decide +kernel, rfl, by decide +kernel, by decide +kernel, by decide +kernel, rfl, fun j h => absurd h (Nat.not_lt_zero j)⟩
theorem sc__law_victim : FnScope ["_law_path_here", "_law_found", "_law_p", "_law_where"] ["_law_path_here"] (defScope s__law_victim) := ⟨rfl, rfl, rfl, by decide +kernel, rfl, by decide +kernel, by decide +kernel⟩
theorem sc__law_right : FnScope ["_law_locks_here", "_law_home", "_law_p", "_law_path_here", "_law_told_here", "_law_links_here", "_law_ahead", "_law_seen"] ["_law_locks_here", "_law_home", "_law_p", "_law_path_here"] (defScope s__law_right) := ⟨rfl, rfl, rfl, by decide +kernel, rfl, by decide +kernel, by decide +kernel⟩
theorem sc_law : FnScope ["_law_script", "_law_names_here", "_law_home", "_law_locks_here", "_law_held", "_law_waiting", "_law_k", "_law_path_here"] ["_law_script"] (defScope s_law) := ⟨rfl, rfl, rfl, by decide +kernel, rfl, by decide +kernel, by decide +kernel⟩
end K61

set_option maxHeartbeats 4000000
namespace K61
open PySem L2 Lo
section
variable {P : Program} {w : World} {K : PySem.W.Frag} {mg : Str → Option Value} {base : Heap} {f CL : Addr} {fd : FuncData} {C : Kd → Addr}
/-! ### kinds of locks -/
theorem ok_rk (F : Fun K "kind" "Read.kind" m_Read_kind f fd) : FnOk P w K mg base CX0 1 f fd ["self"] (spKind .read) := by
  refine F.ok sc_Read_kind (fun vs H Q E h => ?_) (fun cdv A outer s H vs Q E hr h => ?_)
  · obtain ⟨v, rfl, _⟩ := h
    rfl
  obtain ⟨v, rfl, q⟩ := h
  exact ⟨_, pss_one (ps_ret pe_str), q⟩
theorem ok_mk (F : Fun K "kind" "Mean.kind" m_Mean_kind f fd) : FnOk P w K mg base CX0 1 f fd ["self"] (spKind .mean) := by
  refine F.ok sc_Mean_kind (fun vs H Q E h => ?_) (fun cdv A outer s H vs Q E hr h => ?_)
  · obtain ⟨v, rfl, _⟩ := h
    rfl
  obtain ⟨v, rfl, q⟩ := h
  exact ⟨_, pss_one (ps_ret pe_str), q⟩
theorem ok_ck (F : Fun K "kind" "Change.kind" m_Change_kind f fd) : FnOk P w K mg base CX0 1 f fd ["self"] (spKind .change) := by
  refine F.ok sc_Change_kind (fun vs H Q E h => ?_) (fun cdv A outer s H vs Q E hr h => ?_)
  · obtain ⟨v, rfl, _⟩ := h
    rfl
  obtain ⟨v, rfl, q⟩ := h
  exact ⟨_, pss_one (ps_ret pe_str), q⟩
theorem ok_linit (F : Fun K "__init__" "Lock.__init__" m_Lock_init f fd) (T : TxK K C) : FnOk P w K mg base CX0 1 f fd ["self", "first", "last"] (spLInit C) := by
  refine F.ok sc_Lock_init (fun vs H Q E h => ?_) (fun cdv A outer s H vs Q E hr h => ?_)
  · obtain ⟨a, dx, k, x, y, rfl, _⟩ := h
    rfl
  obtain ⟨a, dx, k, x, y, rfl, ha, q⟩ := h
  refine ⟨_, pss_cons (ps_fld (pv 0) (pv 1) rfl) (pss_one (ps_fld (pv 0) (pv 2) rfl)), ?_⟩
  exact ⟨_, rfl, _, rfl, a, C k, dx, [], rfl, ha, T.cl k, T.nF k, (by show 0 < 1000; decide), _, rfl, _, rfl, a, C k, dx, _, rfl, upd_same, T.cl k, T.nL k, (by show 1 < 1000; decide), q⟩
theorem ok_told (F : Fun K "told" "Lock.told" m_Lock_told f fd) (T : TxK K C) (GK : ∀ k, GM P w K mg base CX0 1 (C k) "kind" ["self"] (spKind k)) : FnOk P w K mg base CX0 2 f fd ["self"] (spTold C) := by
  refine F.ok sc_Lock_told (fun vs H Q E h => ?_) (fun cdv A outer s H vs Q E hr h => ?_)
  · obtain ⟨v, k, rfl, _⟩ := h
    rfl
  obtain ⟨v, k, rfl, ⟨a, dx, rfl, ha⟩, q⟩ := h
  refine ⟨_, pss_one (ps_ret (pe_tup (pa_cons (pm0 (GK k.1) (pv 0) (T.cl k.1) hr) (pa_cons (pe_fld (pv 0) rfl) (pa_cons (pe_fld (pv 0) rfl) pa_nil))))), ?_⟩
  refine ⟨_, rfl, a, dx, _, rfl, ha, lf_no _ _ (by decide +kernel) (by decide +kernel), _, rfl, ?_⟩
  exact ⟨_, rfl, a, _, dx, _, _, rfl, ha, T.cl _, T.nF _, lf_first _ _, _, rfl, a, _, dx, _, _, rfl, ha, T.cl _, T.nL _, lf_last _ _, (by show 3 ≤ sizeLine; decide), fun t ht => q t ht⟩
theorem ok_lockof (F : Fun K "lock_of" "lock_of" s_lock_of f fd) (T : TxK K C) (mgC : ∀ k, mg (kdN k) = some (.ref (C k))) {fI : Addr} {dI : FuncData} (M : ∀ k, Mk K (C k) fI)
    (GI : FnOk P w K mg base CX0 1 fI dI ["self", "first", "last"] (spLInit C)) (bI : Binds K dI ["self", "first", "last"] []) : FnOk P w K mg base CX0 3 f fd ["told"] (spLockOf C K) := by
  refine F.ok sc_lock_of (fun vs H Q E h => ?_) (fun cdv A outer s H vs Q E hr h => ?_)
  · obtain ⟨v, k, rfl, _⟩ := h
    rfl
  obtain ⟨v, k, rfl, hv, q⟩ := h
  obtain ⟨a, u1, u2, u3, rfl, ha, e1, e2, e3⟩ := hv
  have e1' : u1 = .str (kdS k.1) := e1
  have e2' : u2 = .int k.2.1 := e2
  have e3' : u3 = .int k.2.2 := e3
  subst e1' e2' e3'
  have hr1 : Room (1 + 1) _ := hr
  refine ⟨_, pss_cons (ps_if (pt_cmpR op_eq (pe_ix (r := rIxT K) ix_tup (pv 0) pe_int (fun _ _ => rfl)) pe_str (nomark _))
      (pss_one (ps_ret (pe_make (M .read) GI hr1 rfl (mgC .read) bI .nil pass0 (pa_cons (pe_ix (r := rIxT K) ix_tup (pv 0) pe_int (fun _ _ => rfl)) (pa_cons (pe_ix (r := rIxT K) ix_tup (pv 0) pe_int (fun _ _ => rfl)) pa_nil))))) pss_nil)
    (pss_cons (ps_if (pt_cmpR op_eq (pe_ix (r := rIxT K) ix_tup (pv 0) pe_int (fun _ _ => rfl)) pe_str (nomark _))
      (pss_one (ps_ret (pe_make (M .mean) GI hr1 rfl (mgC .mean) bI .nil pass0 (pa_cons (pe_ix (r := rIxT K) ix_tup (pv 0) pe_int (fun _ _ => rfl)) (pa_cons (pe_ix (r := rIxT K) ix_tup (pv 0) pe_int (fun _ _ => rfl)) pa_nil))))) pss_nil)
    (pss_one (ps_ret (pe_make (M .change) GI hr1 rfl (mgC .change) bI .nil pass0 (pa_cons (pe_ix (r := rIxT K) ix_tup (pv 0) pe_int (fun _ _ => rfl)) (pa_cons (pe_ix (r := rIxT K) ix_tup (pv 0) pe_int (fun _ _ => rfl)) pa_nil)))))), ?_⟩
  refine ⟨_, rfl, a, _, _, _, rfl, rfl, ha.sq, rfl, rfl, _, rfl, ?_⟩
  obtain ⟨kd, x, y⟩ := k
  cases kd with
  | read =>
    refine ite2 (fun _ => ?_) (fun c => absurd (decide_eq_true rfl) c)
    exact ⟨_, rfl, a, _, _, _, rfl, rfl, ha.sq, rfl, _, rfl, a, _, _, _, rfl, rfl, ha.sq, rfl, fun z dz nz ndz nez => ⟨z, dz, .read, x, y, rfl, upd_same, rfl, q _ _ (mk_same nz ndz) ⟨z, dz, rfl, upd_same⟩⟩⟩
  | mean =>
    refine ite2 (fun c => absurd (V.str.inj (of_decide_eq_true c)).symm s_rm) (fun _ => ?_)
    refine ⟨_, rfl, a, _, _, _, rfl, rfl, ha.sq, rfl, rfl, _, rfl, ?_⟩
    refine ite2 (fun _ => ?_) (fun c => absurd (decide_eq_true rfl) c)
    exact ⟨_, rfl, a, _, _, _, rfl, rfl, ha.sq, rfl, _, rfl, a, _, _, _, rfl, rfl, ha.sq, rfl, fun z dz nz ndz nez => ⟨z, dz, .mean, x, y, rfl, upd_same, rfl, q _ _ (mk_same nz ndz) ⟨z, dz, rfl, upd_same⟩⟩⟩
  | change =>
    refine ite2 (fun c => absurd (V.str.inj (of_decide_eq_true c)).symm s_rc) (fun _ => ?_)
    refine ⟨_, rfl, a, _, _, _, rfl, rfl, ha.sq, rfl, rfl, _, rfl, ?_⟩
    refine ite2 (fun c => absurd (V.str.inj (of_decide_eq_true c)).symm s_mc) (fun _ => ?_)
    exact ⟨_, rfl, a, _, _, _, rfl, rfl, ha.sq, rfl, _, rfl, a, _, _, _, rfl, rfl, ha.sq, rfl, fun z dz nz ndz nez => ⟨z, dz, .change, x, y, rfl, upd_same, rfl, q _ _ (mk_same nz ndz) ⟨z, dz, rfl, upd_same⟩⟩⟩
theorem ok_cell (F : Fun K "_law_cell_at" "_law_cell_at" s__law_cell_at f fd) (B : TxB mg) : FnOk P w K mg base CX0 1 f fd ["_law_script", "_law_k"] (spCell K) := by
  refine F.ok sc__law_cell_at (fun vs H Q E h => ?_) (fun cdv A outer s H vs Q E hr h => ?_)
  · obtain ⟨a, ns, k, rfl, _⟩ := h
    rfl
  obtain ⟨a, ns, k, rfl, hS, q⟩ := h
  refine ⟨_, pss_cons (ps_if (pt_cmpR op_lt (pv 1) (pe_callB call_len_seq rfl B.len PySem.boot_len (pa_cons (pv 0) pa_nil)) (nomark _)) (pss_one (ps_ret (pe_ix ix_list (pv 0) (pv 1) (fun _ _ => rfl)))) pss_nil)
    (pss_one (ps_ret pe_int)), ?_⟩
  refine ⟨_, rfl, _, rfl, a, _, rfl, .inl hS, _, _, rfl, rfl, _, rfl, ?_⟩
  refine ite2 (fun c => ?_) (fun c => ?_)
  · have c' : (k : Int) < (((ns.map V.int).length : Nat) : Int) := of_decide_eq_true c
    rw [List.length_map] at c'
    have hk : k < ns.length := by omega
    have q1 : atI (ns.map V.int) ((k : Nat) : Int) = some (.int ns[k]) := atI_nat (by rw [List.getElem?_map, List.getElem?_eq_getElem hk] <;> rfl)
    have e : cellAt ns k = ns[k] := by unfold cellAt; rw [List.getElem?_eq_getElem hk]; rfl
    rw [e] at q
    exact ⟨_, rfl, _, rfl, a, _, _, _, rfl, rfl, hS, q1, q⟩
  · have c' : ¬ (k : Int) < (((ns.map V.int).length : Nat) : Int) := fun z => c (decide_eq_true z)
    rw [List.length_map] at c'
    have e : cellAt ns k = 0 := by unfold cellAt; rw [List.getElem?_eq_none (by omega)]; rfl
    rw [e] at q
    exact q
def spN4 (K : PySem.W.Frag) : Sp := fun vs H Q _ => ∃ c, vs = [.int c] ∧ ∀ q H' us names, Same H H' → H q = none → H' q = some (.lst us) → Paired (cPa.rp K H') names us → names.length = 4 → Q (.ref q) H'
theorem ok_lnames4 (F : Fun K "_law_names" "_law_names" s__law_names f fd) : FnOk P w K mg base CX0 1 f fd ["_law_cell"] (spN4 K) := by
  refine F.ok sc__law_names (fun vs H Q E h => ?_) (fun cdv A outer s H vs Q E hr h => ?_)
  · obtain ⟨c, rfl, _⟩ := h
    rfl
  obtain ⟨c, rfl, q⟩ := h
  refine ⟨_, pss_cons (ps_set (i := 1) sc__law_names.nd rfl (Or.inl rfl) (pe_op op_mod (pv 0) pe_int))
    (pss_cons (ps_set (i := 2) sc__law_names.nd rfl (Or.inl rfl) (pe_op op_mod (pe_op op_fdiv (pv 0) pe_int) pe_int))
    (pss_one (ps_ret (pe_lst (pa_cons (pe_tup (pa_cons (pv 1) (pa_cons (pv 2) pa_nil))) (pa_cons (pe_tup (pa_cons (pv 1) (pa_cons (pe_op op_add (pv 2) pe_int) pa_nil))) (pa_cons (pe_tup (pa_cons (pe_op op_mod (pe_op op_add (pv 1) pe_int) pe_int) (pa_cons (pv 2) pa_nil)))
      (pa_cons (pe_tup (pa_cons (pe_op op_mod (pe_op op_add (pv 1) pe_int) pe_int) (pa_cons (pe_op op_add (pv 2) pe_int) pa_nil))) pa_nil)))))))), ?_⟩
  refine ⟨_, rfl, _, _, rfl, rfl, (by show (0 : Int) < 5; decide), ?_⟩
  refine ⟨_, rfl, _, _, rfl, rfl, ⟨by decide, by decide⟩, _, _, rfl, rfl, (by show (0 : Int) < 16; decide), ?_⟩
  refine ⟨_, rfl, _, rfl, (by show 2 ≤ sizeLine; decide), fun t1 h1 => ?_⟩
  refine ⟨_, rfl, _, rfl, _, _, rfl, rfl, (by show 2 ≤ sizeLine; decide), fun t2 h2 => ?_⟩
  refine ⟨_, rfl, _, _, rfl, rfl, _, _, rfl, rfl, (by show (0 : Int) < 5; decide), _, rfl, (by show 2 ≤ sizeLine; decide), fun t3 h3 => ?_⟩
  refine ⟨_, rfl, _, _, rfl, rfl, _, _, rfl, rfl, (by show (0 : Int) < 5; decide), _, rfl, _, _, rfl, rfl, (by show 2 ≤ sizeLine; decide), fun t4 h4 => ?_⟩
  refine ⟨(by show 4 ≤ sizeLine; decide), fun l hl => ?_⟩
  have s1 := same_new (o := .tup [.int (c % 5), .int (c / 5 % 16)]) h1
  have s2 := same_new (o := .tup [.int (c % 5), .int (c / 5 % 16 + 1)]) h2
  have s3 := same_new (o := .tup [.int ((c % 5 + 1) % 5), .int (c / 5 % 16)]) h3
  have s4 := same_new (o := .tup [.int ((c % 5 + 3) % 5), .int (c / 5 % 16 + 2)]) h4
  have s5 := same_new (o := .lst [.ref t1, .ref t2, .ref t3, .ref t4]) hl
  refine q l _ _ [(c % 5, c / 5 % 16), (c % 5, c / 5 % 16 + 1), ((c % 5 + 1) % 5, c / 5 % 16), ((c % 5 + 3) % 5, c / 5 % 16 + 2)] (s1.trans (s2.trans (s3.trans (s4.trans s5)))) ((s1.trans (s2.trans (s3.trans s4))).free hl) upd_same ?_ rfl
  exact .cons (cPa_mk (s5 _ _ (s4 _ _ (s3 _ _ (s2 _ _ upd_same))))) (.cons (cPa_mk (s5 _ _ (s4 _ _ (s3 _ _ upd_same)))) (.cons (cPa_mk (s5 _ _ (s4 _ _ upd_same))) (.cons (cPa_mk (s5 _ _ upd_same)) .nil)))
def spT61 (K : PySem.W.Frag) : Sp := fun vs H Q _ => ∃ c, vs = [.int c] ∧ ∀ v H' k, Same H H' → cLk.rp K H' k v → Q v H'
theorem five_at (i : Int) (h0 : 0 ≤ i) (h5 : i < 5) : ∃ z, atI ([.int 0, .int 0, .int 1, .int 3, .int 8] : List V) i = some (.int z) := by
  rcases (by omega : i = 0 ∨ i = 1 ∨ i = 2 ∨ i = 3 ∨ i = 4) with e | e | e | e | e <;> subst e
  · exact ⟨0, rfl⟩
  · exact ⟨0, rfl⟩
  · exact ⟨1, rfl⟩
  · exact ⟨3, rfl⟩
  · exact ⟨8, rfl⟩
theorem ok_ltold61 (F : Fun K "_law_told" "_law_told" s__law_told f fd) : FnOk P w K mg base CX0 1 f fd ["_law_cell"] (spT61 K) := by
  refine F.ok sc__law_told (fun vs H Q E h => ?_) (fun cdv A outer s H vs Q E hr h => ?_)
  · obtain ⟨c, rfl, _⟩ := h
    rfl
  obtain ⟨c, rfl, q⟩ := h
  refine ⟨_, pss_cons (ps_set (i := 1) sc__law_told.nd rfl (Or.inl rfl) (pe_op op_mod (pe_op op_fdiv (pv 0) pe_int) pe_int))
    (pss_one (ps_ret (pe_tup (pa_cons (pe_ix (r := rIxL K) ix_list (pe_lst (pa_cons pe_str (pa_cons pe_str (pa_cons pe_str pa_nil)))) (pe_op op_mod (pv 0) pe_int) (fun _ _ => rfl)) (pa_cons (pv 1) (pa_cons (pe_op op_add (pv 1) (pe_ix (r := rIxL K) ix_list (pe_lst (pa_cons pe_int (pa_cons pe_int (pa_cons pe_int (pa_cons pe_int (pa_cons pe_int pa_nil)))))) (pe_op op_mod (pe_op op_fdiv (pv 0) pe_int) pe_int) (fun _ _ => rfl))) pa_nil)))))), ?_⟩
  refine ⟨_, rfl, _, _, rfl, rfl, ⟨by decide, by decide⟩, _, _, rfl, rfl, (by show (0 : Int) < 9; decide), ?_⟩
  refine ⟨(by show 3 ≤ sizeLine; decide), fun l hl => ?_⟩
  refine ⟨_, rfl, _, _, rfl, rfl, (by show (0 : Int) < 3; decide), l, _, _, _, rfl, rfl, SqL.of upd_same, kds_at _ (Int.emod_nonneg _ (by decide)) (Int.emod_lt_of_pos _ (by decide)), ?_⟩
  obtain ⟨z, ez⟩ := five_at (c / 27 % 5) (Int.emod_nonneg _ (by decide)) (Int.emod_lt_of_pos _ (by decide))
  refine ⟨_, rfl, _, rfl, (by show 5 ≤ sizeLine; decide), fun l2 hl2 => ?_⟩
  refine ⟨_, rfl, _, _, rfl, rfl, ⟨by decide, by decide⟩, _, _, rfl, rfl, (by show (0 : Int) < 5; decide), l2, _, _, _, rfl, rfl, SqL.of upd_same, ez, _, _, rfl, rfl, (by show 3 ≤ sizeLine; decide), fun t ht => ?_⟩
  exact q _ _ _ ((same_new hl).trans ((same_new hl2).trans (same_new ht))) (cLk_mk (k := (kdOf (c % 3), c / 3 % 9, c / 3 % 9 + z)) upd_same)
end
end K61

set_option maxHeartbeats 4000000
namespace K61
open PySem L2 Lo
section
variable {P : Program} {w : World} {K : PySem.W.Frag} {mg : Str → Option Value} {base : Heap} {f CL : Addr} {fd : FuncData} {C : Kd → Addr}
/-! ### beside, covers -/
theorem ok_beside (F : Fun K "beside" "Lock.beside" m_Lock_beside f fd) (T : TxK K C) (S : TxS K mg) (GK : ∀ k, GM P w K mg base CX0 1 (C k) "kind" ["self"] (spKind k)) : FnOk P w K mg base CX0 2 f fd ["self", "other"] (spBeside C) := by
  refine F.ok sc_Lock_beside (fun vs H Q E h => ?_) (fun cdv A outer s H vs Q E hr h => ?_)
  · obtain ⟨v, u, k, j, rfl, _⟩ := h
    rfl
  obtain ⟨v, u, k, j, rfl, ⟨a, dx, rfl, ha⟩, ⟨b, dy, rfl, hb⟩, q⟩ := h
  obtain ⟨aS, a0, a1, a2, mS, tS, t0, t1, t2⟩ := S.sh
  refine ⟨_, pss_cons (ps_set (i := 2) sc_Lock_beside.nd rfl (Or.inl rfl) (pe_or (pe_cmpR op_lt (pe_fld (pv 0) rfl) (pe_fld (pv 1) rfl) (nomark _)) (pe_one (pe_cmpR op_lt (pe_fld (pv 1) rfl) (pe_fld (pv 0) rfl) (nomark _)))))
    (pss_one (ps_ret (pe_or (pv 2) (pe_one (pe_cmpR (op_inC (cT2 cStr cStr) (hun hr)) (pe_tup (pa_cons (pm0 (GK k.1) (pv 0) (T.cl k.1) hr) (pa_cons (pm0 (GK j.1) (pv 1) (T.cl j.1) hr) pa_nil))) (pe_glob (v := .ref aS) rfl mS rfl) rfl))))), ?_⟩
  refine ⟨_, rfl, a, _, dx, _, _, rfl, ha, T.cl _, T.nL _, lf_last _ _, _, rfl, b, _, dy, _, _, rfl, hb, T.cl _, T.nF _, lf_first _ _, _, _, rfl, rfl, _, rfl, ?_⟩
  by_cases h1 : k.2.2 < j.2.1
  · have e : besideB k j = true := by unfold besideB; rw [decide_eq_true h1]; rfl
    rw [e] at q
    refine ite2 (fun _ => ?_) (fun c => absurd (decide_eq_true h1) c)
    exact ⟨_, rfl, _, rfl, iteT (q H (Same.refl H))⟩
  refine ite2 (fun c => absurd (of_decide_eq_true c) h1) (fun _ => ?_)
  refine ⟨_, rfl, b, _, dy, _, _, rfl, hb, T.cl _, T.nL _, lf_last _ _, _, rfl, a, _, dx, _, _, rfl, ha, T.cl _, T.nF _, lf_first _ _, _, _, rfl, rfl, ?_⟩
  by_cases h2 : j.2.2 < k.2.1
  · have e : besideB k j = true := by unfold besideB; rw [decide_eq_true h2, Bool.or_true]; rfl
    rw [e] at q
    refine ⟨_, rfl, _, rfl, ite2 (fun _ => q H (Same.refl H)) (fun c => absurd (decide_eq_true h2) c)⟩
  have e : besideB k j = share k.1 j.1 := by unfold besideB; rw [decide_eq_false h1, decide_eq_false h2]; rfl
  rw [e] at q
  refine ⟨_, rfl, _, rfl, ite2 (fun c => absurd (of_decide_eq_true c) h2) (fun _ => ?_)⟩
  refine ⟨_, rfl, a, dx, _, rfl, ha, lf_no _ _ (by decide +kernel) (by decide +kernel), _, rfl, ?_⟩
  refine ⟨_, rfl, b, dy, _, rfl, hb, lf_no _ _ (by decide +kernel) (by decide +kernel), _, rfl, (by show 2 ≤ sizeLine; decide), fun t ht => ?_⟩
  refine ⟨(kdS k.1, kdS j.1), aS, _, ([("read", "read"), ("read", "mean"), ("mean", "read")] : List (Str × Str)), ⟨t, _, _, rfl, .inl upd_same, rfl, rfl⟩, rfl, .inr tS.sq.sq, .cons ⟨a0, _, _, rfl, t0.sq, rfl, rfl⟩ (.cons ⟨a1, _, _, rfl, t1.sq, rfl, rfl⟩ (.cons ⟨a2, _, _, rfl, t2.sq, rfl, rfl⟩ .nil)), ?_⟩
  have z := q _ (same_new (o := .tup [.str (kdS k.1), .str (kdS j.1)]) ht)
  rw [share_mem2]
  exact z
theorem ok_covers (F : Fun K "covers" "Lock.covers" m_Lock_covers f fd) (T : TxK K C) (R : TxR K mg) (GK : ∀ k, GM P w K mg base CX0 1 (C k) "kind" ["self"] (spKind k)) : FnOk P w K mg base CX0 2 f fd ["self", "other"] (spCovers C) := by
  refine F.ok sc_Lock_covers (fun vs H Q E h => ?_) (fun cdv A outer s H vs Q E hr h => ?_)
  · obtain ⟨v, u, k, j, rfl, _⟩ := h
    rfl
  obtain ⟨v, u, k, j, rfl, ⟨a, dx, rfl, ha⟩, ⟨b, dy, rfl, hb⟩, q⟩ := h
  obtain ⟨aR, mR, tR⟩ := R.rk
  refine ⟨_, pss_cons (ps_set (i := 2) sc_Lock_covers.nd rfl (Or.inl rfl) (pe_and (pe_cmpR op_le (pe_fld (pv 0) rfl) (pe_fld (pv 1) rfl) (nomark _)) (pe_one (pe_cmpR op_le (pe_fld (pv 1) rfl) (pe_fld (pv 0) rfl) (nomark _)))))
    (pss_one (ps_ret (pe_and (pv 2) (pe_one (pe_cmpR op_ge (pe_ix (ix_tabI (D := ranksD)) (pe_glob (v := .ref aR) rfl mR rfl) (pm0 (GK k.1) (pv 0) (T.cl k.1) hr) (fun _ _ => rfl)) (pe_ix (ix_tabI (D := ranksD)) (pe_glob (v := .ref aR) rfl mR rfl) (pm0 (GK j.1) (pv 1) (T.cl j.1) hr) (fun _ _ => rfl)) (nomark _)))))), ?_⟩
  refine ⟨_, rfl, a, _, dx, _, _, rfl, ha, T.cl _, T.nF _, lf_first _ _, _, rfl, b, _, dy, _, _, rfl, hb, T.cl _, T.nF _, lf_first _ _, _, _, rfl, rfl, _, rfl, ?_⟩
  by_cases h1 : k.2.1 ≤ j.2.1
  · refine ite2 (fun _ => ?_) (fun c => absurd (decide_eq_true h1) c)
    refine ⟨_, rfl, b, _, dy, _, _, rfl, hb, T.cl _, T.nL _, lf_last _ _, _, rfl, a, _, dx, _, _, rfl, ha, T.cl _, T.nL _, lf_last _ _, _, _, rfl, rfl, ?_⟩
    by_cases h2 : j.2.2 ≤ k.2.2
    · have e : coversB k j = decide (rank j.1 ≤ rank k.1) := by unfold coversB; rw [decide_eq_true h1, decide_eq_true h2]; rfl
      rw [e] at q
      refine ⟨_, rfl, _, rfl, ite2 (fun _ => ?_) (fun c => absurd (decide_eq_true h2) c)⟩
      refine ⟨_, rfl, a, dx, _, rfl, ha, lf_no _ _ (by decide +kernel) (by decide +kernel), _, rfl, aR, _, rank k.1, rfl, rfl, tR, rank_at k.1, rfl, ?_⟩
      exact ⟨_, rfl, b, dy, _, rfl, hb, lf_no _ _ (by decide +kernel) (by decide +kernel), _, rfl, aR, _, rank j.1, rfl, rfl, tR, rank_at j.1, rfl, _, _, rfl, rfl, q H (Same.refl H)⟩
    · have e : coversB k j = false := by unfold coversB; rw [decide_eq_false h2, Bool.and_false]; rfl
      rw [e] at q
      exact ⟨_, rfl, _, rfl, ite2 (fun c => absurd (of_decide_eq_true c) h2) (fun _ => q H (Same.refl H))⟩
  · have e : coversB k j = false := by unfold coversB; rw [decide_eq_false h1]; rfl
    rw [e] at q
    refine ite2 (fun c => absurd (of_decide_eq_true c) h1) (fun _ => ?_)
    exact ⟨_, rfl, _, rfl, iteF (q H (Same.refl H))⟩

end
end K61

set_option maxHeartbeats 4000000
namespace K61
open PySem L2 Lo
section
variable {P : Program} {w : World} {K : PySem.W.Frag} {mg : Str → Option Value} {base : Heap} {f CL : Addr} {fd : FuncData} {C : Kd → Addr}
/-! ### a house's locks -/
theorem ok_lsinit (F : Fun K "__init__" "Locks.__init__" m_Locks_init f fd) (L : TxL K C CL) : FnOk P w K mg base CX0 1 f fd ["self"] (spLsInit CL) := by
  refine F.ok sc_Locks_init (fun vs H Q E h => ?_) (fun cdv A outer s H vs Q E hr h => ?_)
  · obtain ⟨l, dx, rfl, _⟩ := h
    rfl
  obtain ⟨l, dx, rfl, hl, q⟩ := h
  refine ⟨_, pss_one (ps_fld (pv 0) (pe_lst pa_nil) rfl), ?_⟩
  refine ⟨(by show 0 ≤ sizeLine; decide), fun p hp => ?_⟩
  have nl : l ≠ p := ne_of_none hl hp
  refine ⟨_, rfl, l, CL, dx, [], rfl, (by rw [upd_ne nl]; exact hl), L.cl, L.nP, (by show 0 < 1000; decide), ?_⟩
  exact q p _ hp (by rw [upd_ne (Ne.symm nl), upd_same]) upd_same fun b o n e => by rw [upd_ne n, upd_ne (ne_of_none e hp)]; exact e
theorem ok_hind (F : Fun K "hinderer" "Locks.hinderer" m_Locks_hinderer f fd) (B : TxB mg) (T : TxK K C) (L : TxL K C CL) (GB : ∀ k, GM P w K mg base CX0 2 (C k) "beside" ["self", "other"] (spBeside C)) :
    FnOk P w K mg base CX0 3 f fd ["self", "place"] (spHind C CL K) := by
  refine F.ok sc_Locks_hinderer (fun vs H Q E h => ?_) (fun cdv A outer s H vs Q E hr h => ?_)
  · obtain ⟨l, p, ps, k, rfl, _⟩ := h
    rfl
  obtain ⟨l, p, ps, k, rfl, ls, hk, hz, q⟩ := h
  have nd := sc_Locks_hinderer.nd
  obtain ⟨dx, vs, hl, hp, pr⟩ := id ls
  have hlen := pr.len
  obtain ⟨uk, euk, ruk⟩ := pr.get1 (List.getElem?_eq_getElem hk)
  refine ⟨_, pss_cons (ps_set (i := 2) nd rfl (Or.inl rfl) (pe_ix (r := rIxL K) ix_list (pe_fld (pv 0) rfl) (pv 1) (fun _ _ => rfl)))
    (pss_cons (ps_for PassesOwn.never rfl (pi_range1 rfl B.range (pa_cons (pv 1) pa_nil)) (pg_name (i := 3) nd rfl (Or.inl rfl))
      (pss_cons (ps_set (i := 4) nd rfl (Or.inl rfl) (pe_ix (r := rIxL K) ix_list (pe_fld (pv 0) rfl) (pv 3) (fun _ _ => rfl)))
      (pss_one (ps_if (PW.pt (pw_and (pt_cmpR (op_neC cPa (hun hr)) (pe_ix (r := rIxT K) ix_tup (pv 4) pe_int (fun _ _ => rfl)) (pe_ix (r := rIxT K) ix_tup (pv 2) pe_int (fun _ _ => rfl)) (nomark _))
        (pw_and1 (pt_not (pt_val (PE.ex fun kd : Kd => pm (GB kd) (pe_ix (r := rIxT K) ix_tup (pv 4) pe_int (fun _ _ => rfl)) (T.cl kd) hr (pa_cons (pe_ix (r := rIxT K) ix_tup (pv 2) pe_int (fun _ _ => rfl)) pa_nil))))))) (pss_one (ps_ret (pv 3))) pss_nil))))
    (pss_one (ps_ret pe_non))), ?_⟩
  refine ⟨_, rfl, l, CL, dx, _, _, rfl, hl, L.cl, L.nP, lp_pairs, _, rfl, p, _, _, _, rfl, rfl, SqL.of hp, atI_nat euk, ?_⟩
  refine ⟨_, rfl, (k : Int), rfl, (bnd (by omega)).1, (bnd (by omega)).2, ?_⟩
  rw [Int.toNat_natCast]
  refine for_range (n := k) (fun i σ H' => Same H H' ∧ (∃ x3 x4, σ = [some (.ref l), some (.int (k : Nat)), some uk, x3, x4]) ∧ ∀ j, j < i → hb ps k j = false) ⟨Same.refl H, ⟨none, none, rfl⟩, fun j h => absurd h (Nat.not_lt_zero _)⟩ ?_ ?_
  · rintro i σ H1 hi ⟨s1, ⟨x3, x4, rfl⟩, h0⟩
    rw [Int.zero_add]
    obtain ⟨dx1, vs1, hl1, hp1, pr1⟩ := ls.keep L.ne s1
    have hi' : i < ps.length := by omega
    obtain ⟨ui, eui, rui⟩ := pr1.get1 (List.getElem?_eq_getElem hi')
    have ruk1 := ruk.keep L.ne (fs_same s1)
    obtain ⟨a1, p1, l1, rfl, t1, c1, o1⟩ := rui
    obtain ⟨a2, p2, l2, rfl, t2, c2, o2⟩ := ruk1
    have hbe : hb ps k i = (!decide (ps[i].1 = ps[k].1) && !besideB ps[i].2 ps[k].2) := by
      unfold hb
      rw [List.getElem?_eq_getElem hi', List.getElem?_eq_getElem hk]
    have next : ∀ H2, Same H1 H2 → hb ps k i = false → (Same H H2 ∧ (∃ x3 x4, [some (.ref l), some (.int (k : Nat)), some (V.ref a2), some (.int (i : Nat)), some (V.ref a1)] = [some (.ref l), some (.int (k : Nat)), some (V.ref a2), x3, x4]) ∧ ∀ j, j < i + 1 → hb ps k j = false) := fun H2 s2 hf =>
      ⟨s1.trans s2, ⟨_, _, rfl⟩, fun j hj => by
        by_cases e : j = i
        · rw [e]; exact hf
        · exact h0 j (by omega)⟩
    refine ⟨_, rfl, l, CL, dx1, _, _, rfl, hl1, L.cl, L.nP, lp_pairs, _, rfl, p, _, _, _, rfl, rfl, SqL.of hp1, atI_nat eui, ?_⟩
    refine ⟨_, rfl, a1, _, _, _, rfl, rfl, t1.sq, rfl, _, rfl, a2, _, _, _, rfl, rfl, t2.sq, rfl, ps[i].1, ps[k].1, c1, c2, _, rfl, ?_⟩
    by_cases e : ps[i].1 = ps[k].1
    · rw [decide_eq_true e]
      exact iteF (iteF (next H1 (Same.refl _) (by rw [hbe, decide_eq_true e]; rfl)))
    rw [decide_eq_false e]
    refine iteT ?_
    obtain ⟨la, da, rfl, ha⟩ := id o1
    refine ⟨ps[i].2.1, _, rfl, a1, _, _, _, rfl, rfl, t1.sq, rfl, la, da, _, rfl, ha, lf_no _ _ (by decide +kernel) (by decide +kernel), _, rfl, a2, _, _, _, rfl, rfl, t2.sq, rfl, _, _, ps[i].2, ps[k].2, rfl, o1, o2, fun H2 s2 => ⟨_, rfl, ?_⟩⟩
    cases eb : besideB ps[i].2 ps[k].2 with
    | true => exact iteF (next H2 s2 (by rw [hbe, eb, Bool.not_true, Bool.and_false]))
    | false =>
      refine iteT ⟨_, rfl, ?_⟩
      have z := q H2 (s1.trans s2)
      rw [hind_some hi (by rw [hbe, eb, decide_eq_false e]; rfl) h0] at z
      exact z
  · rintro σ H1 ⟨s1, ⟨x3, x4, rfl⟩, h0⟩
    have z := q H1 s1
    rw [hind_none h0] at z
    exact z
theorem ok_heldp (F : Fun K "held_pairs" "Locks.held_pairs" m_Locks_held_pairs f fd) (B : TxB mg) (L : TxL K C CL) (GH : GM P w K mg base CX0 3 CL "hinderer" ["self", "place"] (spHind C CL K)) :
    FnOk P w K mg base CX0 4 f fd ["self"] (spPairs C CL K heldL) := by
  refine F.ok sc_Locks_held_pairs (fun vs H Q E h => ?_) (fun cdv A outer s H vs Q E hr h => ?_)
  · obtain ⟨l, p, ps, rfl, _⟩ := h
    rfl
  obtain ⟨l, p, ps, rfl, ls, hz, q⟩ := h
  obtain ⟨dx, vs, hl, hp, pr⟩ := id ls
  have hlen := pr.len
  refine ⟨_, pss_one (ps_ret (pe_lc sb_Locks_held_pairs_0 rfl (pi_range1 rfl B.range (pa_cons (pe_callB call_len_seq rfl B.len PySem.boot_len (pa_cons (pe_fld (pv 0) rfl) pa_nil)) pa_nil))
    (fun _ _ _ _ => pts_one (pt_cmpR op_isN (pm GH (pv 1) L.cl hr (pa_cons (pv 0) pa_nil)) pe_non (nomark _))) (fun _ _ _ _ => pe_ix (r := rIxL K) ix_list (pfK K 1) (pv 0) (fun _ _ => rfl)))), ?_⟩
  refine ⟨_, rfl, l, CL, dx, _, _, rfl, hl, L.cl, L.nP, lp_pairs, p, _, rfl, .inl (SqL.of hp), (vs.length : Int), rfl, (bnd (by omega)).1, (bnd (by omega)).2, ?_⟩
  rw [Int.toNat_natCast]
  refine lc_range (n := vs.length) (fun i ys H' => Same H H' ∧ ys = pick vs ((List.range i).filter fun k => (hind ps k).isNone)) ⟨Same.refl H, rfl⟩ (small (by omega)) ?_ ?_
  · rintro i ys H1 hi ⟨s1, rfl⟩
    obtain ⟨dx1, vs1, hl1, hp1, pr1⟩ := ls.keep L.ne s1
    have ev : vs1 = vs := by
      have := s1 p _ hp
      rw [hp1] at this
      cases this
      rfl
    subst ev
    have hi' : i < ps.length := by omega
    refine ⟨_, rfl, l, dx1, _, rfl, hl1, lp_no (by decide +kernel), _, rfl, l, p, ps, i, rfl, ls.keep L.ne s1, hi', hz, fun H2 s2 => ⟨rfl, _, rfl, ?_⟩⟩
    cases e : hind ps i with
    | none =>
      refine iteT ⟨_, rfl, l, CL, dx1, _, _, rfl, s2 _ _ hl1, L.cl, L.nP, lp_pairs, _, rfl, p, _, _, _, rfl, rfl, SqL.of (s2 _ _ hp1), atI_nat (List.getElem?_eq_getElem hi), s1.trans s2, ?_⟩
      rw [range_filter_succ, e]
      show _ = pick vs1 (_ ++ [i])
      rw [pick_snoc, List.getElem?_eq_getElem hi]
      rfl
    | some j =>
      refine iteF ⟨s1.trans s2, ?_⟩
      rw [range_filter_succ, e]
      show _ = pick vs1 (_ ++ [])
      rw [List.append_nil]
  · rintro ys H1 ⟨s1, rfl⟩ x hx
    have s2 := s1.trans (same_new (o := .lst (pick vs ((List.range vs.length).filter fun k => (hind ps k).isNone))) hx)
    refine q x _ _ s2 (s1.free hx) upd_same ?_
    have z := pick_pair pr (heldIx ps)
    unfold heldIx at z
    rw [hlen] at z
    unfold heldL heldIx
    rw [hlen]
    exact pp z fun _ _ g => g.keep L.ne (fs_same s2)
theorem ok_waitp (F : Fun K "waiting_pairs" "Locks.waiting_pairs" m_Locks_waiting_pairs f fd) (B : TxB mg) (L : TxL K C CL) (GH : GM P w K mg base CX0 3 CL "hinderer" ["self", "place"] (spHind C CL K)) :
    FnOk P w K mg base CX0 4 f fd ["self"] (spPairs C CL K waitL) := by
  refine F.ok sc_Locks_waiting_pairs (fun vs H Q E h => ?_) (fun cdv A outer s H vs Q E hr h => ?_)
  · obtain ⟨l, p, ps, rfl, _⟩ := h
    rfl
  obtain ⟨l, p, ps, rfl, ls, hz, q⟩ := h
  obtain ⟨dx, vs, hl, hp, pr⟩ := id ls
  have hlen := pr.len
  refine ⟨_, pss_one (ps_ret (pe_lc sb_Locks_waiting_pairs_0 rfl (pi_range1 rfl B.range (pa_cons (pe_callB call_len_seq rfl B.len PySem.boot_len (pa_cons (pe_fld (pv 0) rfl) pa_nil)) pa_nil))
    (fun _ _ _ _ => pts_one (pt_cmpR op_notN (pm GH (pv 1) L.cl hr (pa_cons (pv 0) pa_nil)) pe_non (nomark _))) (fun _ _ _ _ => pe_ix (r := rIxL K) ix_list (pfK K 1) (pv 0) (fun _ _ => rfl)))), ?_⟩
  refine ⟨_, rfl, l, CL, dx, _, _, rfl, hl, L.cl, L.nP, lp_pairs, p, _, rfl, .inl (SqL.of hp), (vs.length : Int), rfl, (bnd (by omega)).1, (bnd (by omega)).2, ?_⟩
  rw [Int.toNat_natCast]
  refine lc_range (n := vs.length) (fun i ys H' => Same H H' ∧ ys = pick vs ((List.range i).filter fun k => (hind ps k).isSome)) ⟨Same.refl H, rfl⟩ (small (by omega)) ?_ ?_
  · rintro i ys H1 hi ⟨s1, rfl⟩
    obtain ⟨dx1, vs1, hl1, hp1, pr1⟩ := ls.keep L.ne s1
    have ev : vs1 = vs := by
      have := s1 p _ hp
      rw [hp1] at this
      cases this
      rfl
    subst ev
    have hi' : i < ps.length := by omega
    refine ⟨_, rfl, l, dx1, _, rfl, hl1, lp_no (by decide +kernel), _, rfl, l, p, ps, i, rfl, ls.keep L.ne s1, hi', hz, fun H2 s2 => ⟨rfl, _, rfl, ?_⟩⟩
    cases e : hind ps i with
    | some j =>
      refine iteT ⟨_, rfl, l, CL, dx1, _, _, rfl, s2 _ _ hl1, L.cl, L.nP, lp_pairs, _, rfl, p, _, _, _, rfl, rfl, SqL.of (s2 _ _ hp1), atI_nat (List.getElem?_eq_getElem hi), s1.trans s2, ?_⟩
      rw [range_filter_succ, e]
      show _ = pick vs1 (_ ++ [i])
      rw [pick_snoc, List.getElem?_eq_getElem hi]
      rfl
    | none =>
      refine iteF ⟨s1.trans s2, ?_⟩
      rw [range_filter_succ, e]
      show _ = pick vs1 (_ ++ [])
      rw [List.append_nil]
  · rintro ys H1 ⟨s1, rfl⟩ x hx
    have s2 := s1.trans (same_new (o := .lst (pick vs ((List.range vs.length).filter fun k => (hind ps k).isSome))) hx)
    refine q x _ _ s2 (s1.free hx) upd_same ?_
    have z := pick_pair pr (waitIx ps)
    unfold waitIx at z
    rw [hlen] at z
    unfold waitL waitIx
    rw [hlen]
    exact pp z fun _ _ g => g.keep L.ne (fs_same s2)
theorem ok_held (F : Fun K "held" "Locks.held" m_Locks_held f fd) (T : TxK K C) (L : TxL K C CL) (GP : GM P w K mg base CX0 4 CL "held_pairs" ["self"] (spPairs C CL K heldL)) (GT : ∀ k, GM P w K mg base CX0 2 (C k) "told" ["self"] (spTold C)) :
    FnOk P w K mg base CX0 5 f fd ["self"] (spTolds C CL K heldL) := by
  refine F.ok sc_Locks_held (fun vs H Q E h => ?_) (fun cdv A outer s H vs Q E hr h => ?_)
  · obtain ⟨l, p, ps, rfl, _⟩ := h
    rfl
  obtain ⟨l, p, ps, rfl, ls, hz, q⟩ := h
  obtain ⟨dx, vs, hl, hp, pr⟩ := id ls
  refine ⟨_, pss_one (ps_ret (pe_lc sb_Locks_held_0 rfl (pi_list (pm0 GP (pv 0) L.cl hr)) (fun _ _ _ _ => pts_nil)
    (fun _ _ _ _ => pe_tup (pa_cons (pe_ix (r := rIxT K) ix_tup (pv 0) pe_int (fun _ _ => rfl)) (pa_cons (PE.ex fun kd : Kd => pm0 (GT kd) (pe_ix (r := rIxT K) ix_tup (pv 0) pe_int (fun _ _ => rfl)) (T.cl kd) hr) pa_nil))))), ?_⟩
  refine ⟨_, rfl, l, dx, _, rfl, hl, lp_no (by decide +kernel), l, p, ps, rfl, ls, hz, fun x H1 us s1 nx hx px => ⟨x, rfl, ⟨_, SqL.of hx⟩, ?_⟩⟩
  have hlen := px.len
  have hb : us.length ≤ 1000 := by
    rw [← hlen]
    exact Nat.le_trans (heldL_len ps) hz
  refine lc_list (xs := us) (fun i ys H' => Same H1 H' ∧ Paired (cPr.rp K H') ((heldL ps).take i) ys) ⟨Same.refl _, .nil⟩ (small hb) (fun i ys H2 _ g => SqL.of (g.1 _ _ hx)) ?_ ?_
  · rintro i u ys H2 hu ⟨s2, py⟩
    obtain ⟨y, ey, ry⟩ := px.get hu
    have ry2 := ry.keep L.ne (fs_same s2)
    obtain ⟨a, pu, lu, rfl, ta, cp, lo⟩ := ry2
    obtain ⟨la, da, rfl, ha⟩ := id lo
    refine tAllT ⟨_, rfl, a, _, _, _, rfl, rfl, ta.sq, rfl, ?_⟩
    refine ⟨y.2.1, _, rfl, a, _, _, _, rfl, rfl, ta.sq, rfl, la, da, _, rfl, ha, lf_no _ _ (by decide +kernel) (by decide +kernel), _, y.2, rfl, lo, fun t ht => ?_⟩
    refine ⟨(by show 2 ≤ sizeLine; decide), fun t2 ht2 => ?_⟩
    have s3 : Same H2 (upd (upd H2 t (.tup [.str (kdS y.2.1), .int y.2.2.1, .int y.2.2.2])) t2 (.tup [pu, .ref t])) := (same_new ht).trans (same_new ht2)
    refine ⟨s2.trans s3, ?_⟩
    have e : (heldL ps).take (i + 1) = (heldL ps).take i ++ [y] := by
      rw [List.take_succ, ey]
      rfl
    rw [e]
    refine (pp py fun _ _ g => cPr.keep s3.ts g).app (.cons ?_ .nil)
    exact cPr_mk (k := y) upd_same (cPa.keep s3.ts cp) (cLk_mk (same_new ht2 _ _ upd_same))
  · rintro ys H2 ⟨s2, py⟩ z hz2
    have s3 := same_new (o := .lst ys) hz2
    rw [← hlen, List.take_length] at py
    exact q z _ _ (s1.trans (s2.trans s3)) ((s1.trans s2).free hz2) upd_same (pp py fun _ _ g => cPr.keep s3.ts g)
theorem ok_waiting (F : Fun K "waiting" "Locks.waiting" m_Locks_waiting f fd) (T : TxK K C) (L : TxL K C CL) (GP : GM P w K mg base CX0 4 CL "waiting_pairs" ["self"] (spPairs C CL K waitL)) (GT : ∀ k, GM P w K mg base CX0 2 (C k) "told" ["self"] (spTold C)) :
    FnOk P w K mg base CX0 5 f fd ["self"] (spTolds C CL K waitL) := by
  refine F.ok sc_Locks_waiting (fun vs H Q E h => ?_) (fun cdv A outer s H vs Q E hr h => ?_)
  · obtain ⟨l, p, ps, rfl, _⟩ := h
    rfl
  obtain ⟨l, p, ps, rfl, ls, hz, q⟩ := h
  obtain ⟨dx, vs, hl, hp, pr⟩ := id ls
  refine ⟨_, pss_one (ps_ret (pe_lc sb_Locks_waiting_0 rfl (pi_list (pm0 GP (pv 0) L.cl hr)) (fun _ _ _ _ => pts_nil)
    (fun _ _ _ _ => pe_tup (pa_cons (pe_ix (r := rIxT K) ix_tup (pv 0) pe_int (fun _ _ => rfl)) (pa_cons (PE.ex fun kd : Kd => pm0 (GT kd) (pe_ix (r := rIxT K) ix_tup (pv 0) pe_int (fun _ _ => rfl)) (T.cl kd) hr) pa_nil))))), ?_⟩
  refine ⟨_, rfl, l, dx, _, rfl, hl, lp_no (by decide +kernel), l, p, ps, rfl, ls, hz, fun x H1 us s1 nx hx px => ⟨x, rfl, ⟨_, SqL.of hx⟩, ?_⟩⟩
  have hlen := px.len
  have hb : us.length ≤ 1000 := by
    rw [← hlen]
    exact Nat.le_trans (waitL_len ps) hz
  refine lc_list (xs := us) (fun i ys H' => Same H1 H' ∧ Paired (cPr.rp K H') ((waitL ps).take i) ys) ⟨Same.refl _, .nil⟩ (small hb) (fun i ys H2 _ g => SqL.of (g.1 _ _ hx)) ?_ ?_
  · rintro i u ys H2 hu ⟨s2, py⟩
    obtain ⟨y, ey, ry⟩ := px.get hu
    have ry2 := ry.keep L.ne (fs_same s2)
    obtain ⟨a, pu, lu, rfl, ta, cp, lo⟩ := ry2
    obtain ⟨la, da, rfl, ha⟩ := id lo
    refine tAllT ⟨_, rfl, a, _, _, _, rfl, rfl, ta.sq, rfl, ?_⟩
    refine ⟨y.2.1, _, rfl, a, _, _, _, rfl, rfl, ta.sq, rfl, la, da, _, rfl, ha, lf_no _ _ (by decide +kernel) (by decide +kernel), _, y.2, rfl, lo, fun t ht => ?_⟩
    refine ⟨(by show 2 ≤ sizeLine; decide), fun t2 ht2 => ?_⟩
    have s3 : Same H2 (upd (upd H2 t (.tup [.str (kdS y.2.1), .int y.2.2.1, .int y.2.2.2])) t2 (.tup [pu, .ref t])) := (same_new ht).trans (same_new ht2)
    refine ⟨s2.trans s3, ?_⟩
    have e : (waitL ps).take (i + 1) = (waitL ps).take i ++ [y] := by
      rw [List.take_succ, ey]
      rfl
    rw [e]
    refine (pp py fun _ _ g => cPr.keep s3.ts g).app (.cons ?_ .nil)
    exact cPr_mk (k := y) upd_same (cPa.keep s3.ts cp) (cLk_mk (same_new ht2 _ _ upd_same))
  · rintro ys H2 ⟨s2, py⟩ z hz2
    have s3 := same_new (o := .lst ys) hz2
    rw [← hlen, List.take_length] at py
    exact q z _ _ (s1.trans (s2.trans s3)) ((s1.trans s2).free hz2) upd_same (pp py fun _ _ g => cPr.keep s3.ts g)
end
end K61

set_option maxHeartbeats 4000000
namespace K61
open PySem L2 Lo
section
variable {P : Program} {w : World} {K : PySem.W.Frag} {mg : Str → Option Value} {base : Heap} {f CL : Addr} {fd : FuncData} {C : Kd → Addr}
theorem ok_wplace (F : Fun K "waiting_place" "Locks.waiting_place" m_Locks_waiting_place f fd) (B : TxB mg) (L : TxL K C CL) (GH : GM P w K mg base CX0 3 CL "hinderer" ["self", "place"] (spHind C CL K)) :
    FnOk P w K mg base CX0 4 f fd ["self", "p"] (spWPlace C CL K) := by
  refine F.ok sc_Locks_waiting_place (fun vs H Q E h => ?_) (fun cdv A outer s H vs Q E hr h => ?_)
  · obtain ⟨l, p, ps, v, x, rfl, _⟩ := h
    rfl
  obtain ⟨l, p, ps, v, x, rfl, ls, hz, hx, q⟩ := h
  have nd := sc_Locks_waiting_place.nd
  obtain ⟨dx, vs, hl, hp, pr⟩ := id ls
  have hlen := pr.len
  refine ⟨_, pss_cons (ps_for PassesOwn.never rfl (pi_range1 rfl B.range (pa_cons (pe_callB call_len_seq rfl B.len PySem.boot_len (pa_cons (pe_fld (pv 0) rfl) pa_nil)) pa_nil)) (pg_name (i := 2) nd rfl (Or.inl rfl))
      (pss_one (ps_if (PW.pt (pw_and (pt_cmpR (op_eqC cPa (hun hr)) (pe_ix (r := rIxT K) ix_tup (pe_ix (r := rIxL K) ix_list (pe_fld (pv 0) rfl) (pv 2) (fun _ _ => rfl)) pe_int (fun _ _ => rfl)) (pv 1) (nomark _))
        (pw_and1 (pt_cmpR op_notN (pm GH (pv 0) L.cl hr (pa_cons (pv 2) pa_nil)) pe_non (nomark _))))) (pss_one (ps_ret (pv 2))) pss_nil)))
    (pss_one (ps_ret pe_non)), ?_⟩
  refine ⟨_, rfl, l, CL, dx, _, _, rfl, hl, L.cl, L.nP, lp_pairs, p, _, rfl, .inl (SqL.of hp), (vs.length : Int), rfl, (bnd (by omega)).1, (bnd (by omega)).2, ?_⟩
  rw [Int.toNat_natCast]
  refine for_range (n := vs.length) (fun i σ H' => Same H H' ∧ (∃ x2, σ = [some (.ref l), some v, x2]) ∧ ∀ j, j < i → wpl ps x j = false) ⟨Same.refl H, ⟨none, rfl⟩, fun j h => absurd h (Nat.not_lt_zero _)⟩ ?_ ?_
  · rintro i σ H1 hi ⟨s1, ⟨x2, rfl⟩, h0⟩
    rw [Int.zero_add]
    have ls1 := ls.keep L.ne s1
    obtain ⟨dx1, vs1, hl1, hp1, pr1⟩ := id ls1
    have hi' : i < ps.length := by omega
    obtain ⟨ui, eui, rui⟩ := pr1.get1 (List.getElem?_eq_getElem hi')
    obtain ⟨a1, p1, l1, rfl, t1, c1, o1⟩ := rui
    have we : wpl ps x i = (decide (ps[i].1 = x) && (hind ps i).isSome) := by
      unfold wpl
      rw [List.getElem?_eq_getElem hi']
    have next : ∀ H2, Same H1 H2 → wpl ps x i = false → (Same H H2 ∧ (∃ x2, [some (.ref l), some v, some (.int (i : Nat))] = [some (.ref l), some v, x2]) ∧ ∀ j, j < i + 1 → wpl ps x j = false) := fun H2 s2 hf =>
      ⟨s1.trans s2, ⟨_, rfl⟩, fun j hj => by
        by_cases e : j = i
        · rw [e]; exact hf
        · exact h0 j (by omega)⟩
    refine ⟨_, rfl, l, CL, dx1, _, _, rfl, hl1, L.cl, L.nP, lp_pairs, _, rfl, p, _, _, _, rfl, rfl, SqL.of hp1, atI_nat eui, a1, _, _, _, rfl, rfl, t1.sq, rfl, _, rfl, ps[i].1, x, c1, cPa.keep s1.ts hx, _, rfl, ?_⟩
    by_cases e : ps[i].1 = x
    · rw [decide_eq_true e]
      refine iteT ⟨_, rfl, l, dx1, _, rfl, hl1, lp_no (by decide +kernel), _, rfl, l, p, ps, i, rfl, ls1, hi', hz, fun H2 s2 => ⟨rfl, _, rfl, ?_⟩⟩
      cases eh : hind ps i with
      | none => exact iteF (next H2 s2 (by rw [we, eh]; simp))
      | some j =>
        refine iteT ⟨_, rfl, ?_⟩
        have z := q H2 (s1.trans s2)
        rw [wplace_some hi' (by rw [we, eh, decide_eq_true e]; rfl) h0] at z
        exact z
    · rw [decide_eq_false e]
      exact iteF (iteF (next H1 (Same.refl _) (by rw [we, decide_eq_false e]; rfl)))
  · rintro σ H1 ⟨s1, ⟨x2, rfl⟩, h0⟩
    have z := q H1 s1
    rw [hlen.symm] at h0
    rw [wplace_none h0] at z
    exact z
theorem ok_ask (F : Fun K "ask" "Locks.ask" m_Locks_ask f fd) (B : TxB mg) (T : TxK K C) (L : TxL K C CL) (GC : ∀ k, GM P w K mg base CX0 2 (C k) "covers" ["self", "other"] (spCovers C)) (GH : GM P w K mg base CX0 3 CL "hinderer" ["self", "place"] (spHind C CL K)) (GW : GM P w K mg base CX0 4 CL "waiting_place" ["self", "p"] (spWPlace C CL K)) :
    FnOk P w K mg base CX0 5 f fd ["self", "p", "lock"] (spAsk C CL K) := by
  refine F.ok sc_Locks_ask (fun vs H Q E h => ?_) (fun cdv A outer s H vs Q E hr h => ?_)
  · obtain ⟨l, p, ps, v, x, u, k, rfl, _⟩ := h
    rfl
  obtain ⟨l, p, ps, v, x, u, k, rfl, ls, hz, hx, hu, hw, q⟩ := h
  have nd := sc_Locks_ask.nd
  refine ⟨_, pss_cons (ps_if (pt_cmpR op_notN (pm GW (pv 0) L.cl hr (pa_cons (pv 1) pa_nil)) pe_non (nomark _)) pss_never pss_nil)
    (pss_cons (ps_if (pt_val (pe_callB (call_any_bl rfl) rfl B.any PyProof.Rows.boot_any (pa_cons (pe_lc sb_Locks_ask_0 rfl (pi_list (pe_fld (pv 0) rfl)) (fun _ _ _ _ => pts_nil)
      (fun _ _ _ _ => pe_and (pe_cmpR (op_eqCK K cPa (hun hr)) (pe_ix (r := rIxT K) ix_tup (pv 0) pe_int (fun _ _ => rfl)) (pv 1) (nomark _)) (pe_one (PE.ex fun kd : Kd => pm (GC kd) (pe_ix (r := rIxT K) ix_tup (pv 0) pe_int (fun _ _ => rfl)) (T.cl kd) hr (pa_cons (pv 2) pa_nil))))) pa_nil))) (pss_one (ps_ret pe_bl)) pss_nil)
    (pss_cons (ps_expr (pe_bm PySem.F.plainAttrs_list PySem.F.slot_list_append PySem.F.type_list_append mt_append (pe_fld (pv 0) rfl) (pa_cons (pe_tup (pa_cons (pv 1) (pa_cons (pv 2) pa_nil))) pa_nil)))
    (pss_one (ps_ret (pe_cmpR op_isN (pm GH (pv 0) L.cl hr (pa_cons (pe_op op_sub (pe_callB call_len_seq rfl B.len PySem.boot_len (pa_cons (pe_fld (pv 0) rfl) pa_nil)) pe_int) pa_nil)) pe_non (nomark _)))))), ?_⟩
  obtain ⟨dx, vs, hl, hp, pr⟩ := id ls
  have hlen := pr.len
  refine ⟨_, rfl, l, dx, _, rfl, hl, lp_no (by decide +kernel), _, rfl, l, p, ps, v, x, rfl, ls, Nat.le_of_lt hz, hx, fun H1 s1 => ⟨rfl, _, rfl, ?_⟩⟩
  rw [hw]
  refine iteF ?_
  have ls1 := ls.keep L.ne s1
  obtain ⟨dx1, vs1, hl1, hp1, pr1⟩ := id ls1
  have ev : vs1 = vs := by
    have := s1 p _ hp
    rw [hp1] at this
    cases this
    rfl
  subst ev
  refine ⟨_, rfl, l, CL, dx1, _, _, rfl, hl1, L.cl, L.nP, lp_pairs, p, rfl, ⟨_, SqL.of hp1⟩, ?_⟩
  refine lc_list (xs := vs1) (fun i ys H' => Same H1 H' ∧ ys = ((ps.take i).map fun y => decide (y.1 = x) && coversB y.2 k).map V.bl) ⟨Same.refl _, rfl⟩ (small (by omega)) (fun i ys H2 _ g => SqL.of (g.1 _ _ hp1)) ?_ ?_
  · rintro i u0 ys H2 hu0 ⟨s2, rfl⟩
    obtain ⟨y, ey, ry⟩ := pr1.get hu0
    have ry2 := ry.keep L.ne (fs_same s2)
    obtain ⟨a, pu, lu, rfl, ta, cp, lo⟩ := ry2
    obtain ⟨la, da, rfl, ha⟩ := id lo
    have sx := s1.trans s2
    have e : ps.take (i + 1) = ps.take i ++ [y] := by
      rw [List.take_succ, ey]
      rfl
    refine tAllT ⟨_, rfl, a, _, _, _, rfl, rfl, ta.sq, rfl, _, rfl, y.1, x, cp, cPa.keep sx.ts hx, _, rfl, ?_⟩
    by_cases ex : y.1 = x
    · rw [decide_eq_true ex]
      refine iteT ⟨y.2.1, _, rfl, a, _, _, _, rfl, rfl, ta.sq, rfl, la, da, _, rfl, ha, lf_no _ _ (by decide +kernel) (by decide +kernel), _, rfl, _, _, y.2, k, rfl, lo, hu.keep L.ne (fs_same sx), fun H3 s3 => ⟨s2.trans s3, ?_⟩⟩
      rw [e, List.map_append, List.map_append]
      simp only [List.map_cons, List.map_nil, decide_eq_true ex, Bool.true_and]
    · rw [decide_eq_false ex]
      refine iteF ⟨s2, ?_⟩
      rw [e, List.map_append, List.map_append]
      simp only [List.map_cons, List.map_nil, decide_eq_false ex, Bool.false_and]
  · rintro ys H2 ⟨s2, rfl⟩ y hy
    have el : vs1.length = ps.length := hlen.symm
    rw [el, List.take_length]
    refine ⟨y, _, rfl, SqL.of upd_same, _, rfl, ?_⟩
    have eany : ((ps.map fun y => decide (y.1 = x) && coversB y.2 k).any id) = covered ps x k := by
      unfold covered
      rw [List.any_map]
      rfl
    rw [eany]
    have s3 := s1.trans (s2.trans (same_new (o := .lst ((ps.map fun y => decide (y.1 = x) && coversB y.2 k).map V.bl)) hy))
    generalize (upd H2 y (HO.lst ((ps.map fun y => decide (y.1 = x) && coversB y.2 k).map V.bl))) = H3 at s3 ⊢
    cases ec : covered ps x k with
    | true =>
      refine iteT ?_
      have z := q H3
      unfold askPs askR at z
      rw [ec, if_pos rfl] at z
      exact z (ls.keep L.ne s3) (Kp.of s3)
    | false =>
      refine iteF ?_
      obtain ⟨dx3, vs3, hl3, hp3, pr3⟩ := ls.keep L.ne s3
      have hlen3 := pr3.len
      refine ⟨_, rfl, l, CL, dx3, _, _, rfl, hl3, L.cl, L.nP, lp_pairs, .inl ⟨rfl, _, SqL.of hp3⟩, _, rfl, _, rfl, (by show 2 ≤ sizeLine; decide), fun t ht => ?_⟩
      have np : p ≠ t := ne_of_none hp3 ht
      have nl : l ≠ p := ne_of hl3 hp3 (by intro z; cases z)
      have hp4 : (upd H3 t (.tup [v, u])) p = some (.lst vs3) := by rw [upd_ne np]; exact hp3
      refine ⟨p, vs3, _, rfl, rfl, hp4, small1000 (by omega), ?_⟩
      have kp4 : Kp p H3 (upd (upd H3 t (.tup [v, u])) p (.lst (vs3 ++ [.ref t]))) := (Kp.of (same_new ht)).trans kp_upd
      have fs4 : FSame CL H3 (upd (upd H3 t (.tup [v, u])) p (.lst (vs3 ++ [.ref t]))) := kp4.fs hp3
      have hl4 := kp4 l _ nl hl3
      have ls4 : LS C CL K (upd (upd H3 t (.tup [v, u])) p (.lst (vs3 ++ [.ref t]))) l p (ps ++ [(x, k)]) :=
        ⟨dx3, _, hl4, upd_same, (pp pr3 fun _ _ g => g.keep L.ne fs4).app (.cons ⟨t, v, u, rfl, .inl (by rw [upd_ne (Ne.symm np), upd_same]), cPa.keep ((fs_same s3).trans fs4).ts hx, hu.keep L.ne ((fs_same s3).trans fs4)⟩ .nil)⟩
      have kp5 := (Kp.of (p := p) s3).trans kp4
      generalize (upd (upd H3 t (.tup [v, u])) p (HO.lst (vs3 ++ [.ref t]))) = H4 at hl4 ls4 kp5 ⊢
      obtain ⟨dx4, vs4, hl4', hp4', pr4⟩ := id ls4
      have hlen4 := pr4.len
      rw [List.length_append] at hlen4
      have hlen4' : vs4.length = ps.length + 1 := hlen4.symm
      refine ⟨_, rfl, l, dx4, _, rfl, hl4', lp_no (by decide +kernel), _, rfl, l, CL, dx4, _, _, rfl, hl4', L.cl, L.nP, lp_pairs, p, _, rfl, .inl (SqL.of hp4'), _, _, rfl, rfl, ?_⟩
      rw [hlen4']
      have ei : ((ps.length + 1 : Nat) : Int) - 1 = (ps.length : Nat) := by omega
      refine ⟨l, p, _, ps.length, congrArg (fun i => [V.ref l, V.int i]) ei, ls4, by rw [List.length_append]; exact Nat.lt_succ_self _, by rw [List.length_append]; exact hz, fun H5 s5 => ⟨rfl, ?_⟩⟩
      have z := q H5
      unfold askPs askR at z
      rw [ec, if_neg Bool.false_ne_true, Bool.false_or] at z
      have z2 := z (ls4.keep L.ne s5) (kp5.trans (Kp.of s5))
      have eo : (hind (ps ++ [(x, k)]) ps.length).isNone = decide (optV (hind (ps ++ [(x, k)]) ps.length) = .non) := by
        cases hind (ps ++ [(x, k)]) ps.length <;> rfl
      rw [eo] at z2
      exact z2
theorem ok_free (F : Fun K "free" "Locks.free" m_Locks_free f fd) (L : TxL K C CL) (GP : GM P w K mg base CX0 4 CL "waiting_pairs" ["self"] (spPairs C CL K waitL)) :
    FnOk P w K mg base CX0 5 f fd ["self", "p"] (spFree C CL K) := by
  refine F.ok sc_Locks_free (fun vs H Q E h => ?_) (fun cdv A outer s H vs Q E hr h => ?_)
  · obtain ⟨l, p, ps, v, x, rfl, _⟩ := h
    rfl
  obtain ⟨l, p, ps, v, x, rfl, ls, hz, hx, q⟩ := h
  have nd := sc_Locks_free.nd
  refine ⟨_, pss_cons (ps_set (i := 2) nd rfl (Or.inl rfl) (pm0 GP (pv 0) L.cl hr))
    (pss_cons (ps_fld (pv 0) (pe_lc sb_Locks_free_0 rfl (pi_list (pe_fld (pv 0) rfl)) (fun _ _ _ _ => pts_one (pt_cmpR (op_neCK K cPa (hun hr)) (pe_ix (r := rIxT K) ix_tup (pv 0) pe_int (fun _ _ => rfl)) (pv 1) (nomark _))) (fun _ _ _ _ => pv 0)) rfl)
    (pss_cons (ps_set (i := 3) nd rfl (Or.inr rfl) (pe_lc sb_Locks_free_1 rfl (pi_list (pm0 GP (pv 0) L.cl hr)) (fun _ _ _ _ => pts_nil) (fun _ _ _ _ => pe_ix (r := rIxT K) ix_tup (pv 0) pe_int (fun _ _ => rfl))))
    (pss_one (ps_ret (pe_lc sb_Locks_free_2 rfl (pi_list (pv 2)) (fun _ _ _ _ => pts_one (PW.pt (pw_and (pt_cmpR (op_neCK K cPa (hun hr)) (pe_ix (r := rIxT K) ix_tup (pv 0) pe_int (fun _ _ => rfl)) (pv 1) (nomark _)) (pw_and1 (pt_cmpR (op_notinCK K cPa (hun hr)) (pe_ix (r := rIxT K) ix_tup (pv 0) pe_int (fun _ _ => rfl)) (pv 2) rfl)))))
      (fun _ _ _ _ => pe_ix (r := rIxT K) ix_tup (pv 0) pe_int (fun _ _ => rfl))))))), ?_⟩
  obtain ⟨dx, vs, hl, hp, pr⟩ := id ls
  have hlen := pr.len
  -- waited
  refine ⟨_, rfl, l, dx, _, rfl, hl, lp_no (by decide +kernel), l, p, ps, rfl, ls, hz, fun w0 H1 us s1 nw hw pw => ?_⟩
  have ls1 := ls.keep L.ne s1
  obtain ⟨dx1, vs1, hl1, hp1, pr1⟩ := id ls1
  have hlen1 := pr1.len
  -- self.pairs
  refine ⟨_, rfl, l, CL, dx1, _, _, rfl, hl1, L.cl, L.nP, lp_pairs, p, rfl, ⟨_, SqL.of hp1⟩, ?_⟩
  refine lc_list (xs := vs1) (fun i ys H' => Same H1 H' ∧ Paired (PrO C K H') ((ps.take i).filter fun y => !decide (y.1 = x)) ys) ⟨Same.refl _, .nil⟩ (small (by omega)) (fun i ys H2 _ g => SqL.of (g.1 _ _ hp1)) ?_ ?_
  · rintro i u ys H2 hu ⟨s2, py⟩
    obtain ⟨y, ey, ry⟩ := pr1.get hu
    have ry2 := ry.keep L.ne (fs_same s2)
    have e : ps.take (i + 1) = ps.take i ++ [y] := by
      rw [List.take_succ, ey]
      rfl
    obtain ⟨a, pu, lu, rfl, ta, cp, lo⟩ := id ry2
    refine ⟨_, rfl, a, _, _, _, rfl, rfl, ta.sq, rfl, _, rfl, y.1, x, cp, cPa.keep (s1.trans s2).ts hx, _, rfl, ?_⟩
    by_cases ex : y.1 = x
    · rw [decide_eq_true ex]
      refine iteF ⟨s2, ?_⟩
      rw [e, List.filter_append]
      simp only [List.filter_cons, List.filter_nil, decide_eq_true ex, Bool.not_true, Bool.false_eq_true, if_false, List.append_nil]
      exact py
    · rw [decide_eq_false ex]
      refine iteT ⟨_, rfl, s2, ?_⟩
      rw [e, List.filter_append]
      simp only [List.filter_cons, List.filter_nil, decide_eq_false ex, Bool.not_false, if_true]
      exact py.app (.cons ry2 .nil)
  rintro ys H2 ⟨s2, py⟩ p' hp'
  rw [show vs1.length = ps.length from hlen1.symm, List.take_length] at py
  have s12 := s1.trans s2
  have np : l ≠ p' := ne_of_none (s2 _ _ hl1) hp'
  refine ⟨_, rfl, l, CL, dx1, _, rfl, (by rw [upd_ne np]; exact s2 _ _ hl1), L.cl, L.nP, (by show 1 < 1000; decide), ?_⟩
  rw [lp_put]
  have kp3 : Kp l H2 (upd (upd H2 p' (.lst ys)) l (.ins CL dx1 [("pairs", .ref p')])) := (Kp.of (same_new hp')).trans kp_upd
  have fs3 : FSame CL H2 (upd (upd H2 p' (.lst ys)) l (.ins CL dx1 [("pairs", .ref p')])) := kp3.fsi (s2 _ _ hl1)
  have ls3 : LS C CL K (upd (upd H2 p' (.lst ys)) l (.ins CL dx1 [("pairs", .ref p')])) l p' (freePs ps x) := ⟨dx1, ys, upd_same, by rw [upd_ne (Ne.symm np), upd_same], pp py fun _ _ g => g.keep L.ne fs3⟩
  have nwl : w0 ≠ l := fun z => by
    rw [z] at hw
    rw [hl1] at hw
    cases hw
  have hw3 := kp3 w0 _ nwl (s2 _ _ hw)
  have kp03 : Kp l H (upd (upd H2 p' (.lst ys)) l (.ins CL dx1 [("pairs", .ref p')])) := (Kp.of s12).trans kp3
  have fs03 : FSame CL H (upd (upd H2 p' (.lst ys)) l (.ins CL dx1 [("pairs", .ref p')])) := (fs_same s12).trans fs3
  have fs13 : FSame CL H1 (upd (upd H2 p' (.lst ys)) l (.ins CL dx1 [("pairs", .ref p')])) := (fs_same s2).trans fs3
  have hpf : H p' = none := s12.free hp'
  generalize (upd (upd H2 p' (.lst ys)) l (HO.ins CL dx1 [("pairs", V.ref p')])) = H3 at ls3 hw3 kp03 fs03 fs13 ⊢
  have hz3 : (freePs ps x).length ≤ 1000 := Nat.le_trans (List.length_filter_le _ _) hz
  -- still
  obtain ⟨dx3, vs3, hl3, hp3, pr3⟩ := id ls3
  refine ⟨_, rfl, l, dx3, _, rfl, hl3, lp_no (by decide +kernel), l, p', freePs ps x, rfl, ls3, hz3, fun w1 H4 us4 s4 nw4 hw4 pw4 => ⟨w1, rfl, ⟨_, SqL.of hw4⟩, ?_⟩⟩
  have hb4 : us4.length ≤ 1000 := by
    rw [← pw4.len]
    exact Nat.le_trans (waitL_len _) hz3
  refine lc_list (xs := us4) (fun i ys H' => Same H4 H' ∧ Paired (cPa.rp K H') (((waitL (freePs ps x)).take i).map (·.1)) ys) ⟨Same.refl _, .nil⟩ (small hb4) (fun i ys H2 _ g => SqL.of (g.1 _ _ hw4)) ?_ ?_
  · rintro i u ys H5 hu ⟨s5, py5⟩
    obtain ⟨y, ey, ry⟩ := pw4.get hu
    obtain ⟨a, pu, lu, rfl, ta, cp, lo⟩ := ry.keep L.ne (fs_same s5)
    refine tAllT ⟨_, rfl, a, _, _, _, rfl, rfl, ta.sq, rfl, s5, ?_⟩
    have e : (waitL (freePs ps x)).take (i + 1) = (waitL (freePs ps x)).take i ++ [y] := by
      rw [List.take_succ, ey]
      rfl
    rw [e, List.map_append]
    exact py5.app (.cons cp .nil)
  rintro ys5 H5 ⟨s5, py5⟩ st hst
  rw [show us4.length = (waitL (freePs ps x)).length from pw4.len.symm, List.take_length] at py5
  have s35 := s4.trans (s5.trans (same_new (o := .lst ys5) hst))
  have hst5 : (upd H5 st (.lst ys5)) st = some (.lst ys5) := upd_same
  have py6 := pp py5 fun a b (g : cPa.rp K H5 a b) => cPa.keep (same_new (o := .lst ys5) hst).ts g
  generalize (upd H5 st (HO.lst ys5)) = H6 at s35 hst5 py6 ⊢
  -- told
  refine ⟨_, rfl, w0, rfl, ⟨_, SqL.of (s35 _ _ hw3)⟩, ?_⟩
  have hb0 : us.length ≤ 1000 := by
    rw [← pw.len]
    exact Nat.le_trans (waitL_len _) hz
  refine lc_list (xs := us) (fun i ys H' => Same H6 H' ∧ Paired (cPa.rp K H') ((((waitL ps).take i).filter fun y => !decide (y.1 = x) && !decide (y.1 ∈ (waitL (freePs ps x)).map (·.1))).map (·.1)) ys) ⟨Same.refl _, .nil⟩ (small hb0) (fun i ys H2 _ g => SqL.of (g.1 _ _ (s35 _ _ hw3))) ?_ ?_
  · rintro i u ys H7 hu ⟨s7, py7⟩
    obtain ⟨y, ey, ry⟩ := pw.get hu
    obtain ⟨a, pu, lu, rfl, ta, cp, lo⟩ := ry.keep L.ne (fs13.trans (fs_same (s35.trans s7)))
    have e : (waitL ps).take (i + 1) = (waitL ps).take i ++ [y] := by
      rw [List.take_succ, ey]
      rfl
    refine ⟨_, rfl, a, _, _, _, rfl, rfl, ta.sq, rfl, _, rfl, y.1, x, cp, cPa.keep (fs03.trans (fs_same (s35.trans s7))).ts hx, _, rfl, ?_⟩
    by_cases ex : y.1 = x
    · rw [decide_eq_true ex]
      refine iteF (iteF ⟨s7, ?_⟩)
      rw [e, List.filter_append, List.map_append]
      simp only [List.filter_cons, List.filter_nil, decide_eq_true ex, Bool.not_true, Bool.false_and, Bool.false_eq_true, if_false, List.map_nil, List.append_nil]
      exact py7
    rw [decide_eq_false ex]
    refine iteT ⟨_, rfl, a, _, _, _, rfl, rfl, ta.sq, rfl, _, rfl, y.1, st, _, _, cp, rfl, .inl (SqL.of (s7 _ _ hst5)), pp py6 (fun _ _ g => cPa.keep s7.ts g), _, rfl, ?_⟩
    by_cases em : y.1 ∈ (waitL (freePs ps x)).map (·.1)
    · refine ite2 (fun c => absurd em (by simpa only [Bool.not_eq_true', decide_eq_false_iff_not] using c)) (fun _ => ⟨s7, ?_⟩)
      rw [e, List.filter_append, List.map_append]
      simp only [List.filter_cons, List.filter_nil, decide_eq_true em, Bool.not_true, Bool.and_false, Bool.false_eq_true, if_false, List.map_nil, List.append_nil]
      exact py7
    · refine ite2 (fun _ => ?_) (fun c => absurd (by simpa only [Bool.not_eq_true', decide_eq_false_iff_not] using em) c)
      refine ⟨_, rfl, a, _, _, _, rfl, rfl, ta.sq, rfl, s7, ?_⟩
      rw [e, List.filter_append, List.map_append]
      simp only [List.filter_cons, List.filter_nil, decide_eq_false em, decide_eq_false ex, Bool.not_false, Bool.and_true, if_true, List.map_cons, List.map_nil]
      exact py7.app (.cons cp .nil)
  · rintro ys7 H7 ⟨s7, py7⟩ r hr7
    rw [show us.length = (waitL ps).length from pw.len.symm, List.take_length] at py7
    have s8 := same_new (o := .lst ys7) hr7
    have s38 := s35.trans (s7.trans s8)
    refine q r p' _ ys7 (ls3.keep L.ne s38) hpf (kp03.trans (Kp.of s38)) ?_ upd_same (pp py7 fun _ _ g => cPa.keep s8.ts g)
    cases z : H r with
    | none => rfl
    | some o =>
      by_cases hrl : r = l
      · rw [hrl] at hr7
        rw [(s35.trans s7) _ _ hl3] at hr7
        cases hr7
      · rw [(s35.trans s7) _ _ (kp03 r o hrl z)] at hr7
        cases hr7
theorem ok_behind (F : Fun K "behind" "Locks.behind" m_Locks_behind f fd) (L : TxL K C CL) (GH : GM P w K mg base CX0 3 CL "hinderer" ["self", "place"] (spHind C CL K)) (GW : GM P w K mg base CX0 4 CL "waiting_place" ["self", "p"] (spWPlace C CL K)) :
    FnOk P w K mg base CX0 5 f fd ["self", "p"] (spBehind C CL K) := by
  refine F.ok sc_Locks_behind (fun vs H Q E h => ?_) (fun cdv A outer s H vs Q E hr h => ?_)
  · obtain ⟨l, p, ps, v, x, rfl, _⟩ := h
    rfl
  obtain ⟨l, p, ps, v, x, rfl, ls, hz, hx, q⟩ := h
  have nd := sc_Locks_behind.nd
  refine ⟨_, pss_cons (ps_set (i := 2) nd rfl (Or.inl rfl) (pm GW (pv 0) L.cl hr (pa_cons (pv 1) pa_nil)))
    (pss_cons (ps_if (pt_cmpR op_isN (pv 2) pe_non (nomark _)) (pss_one (ps_ret pe_non)) pss_nil)
    (pss_one (ps_ret (pe_ix (r := rIxT K) ix_tup (pe_ix (r := rIxL K) ix_list (pe_fld (pv 0) rfl) (pm GH (pv 0) L.cl hr (pa_cons (pv 2) pa_nil)) (fun _ _ => rfl)) pe_int (fun _ _ => rfl))))), ?_⟩
  obtain ⟨dx, vs, hl, hp, pr⟩ := id ls
  refine ⟨_, rfl, l, dx, _, rfl, hl, lp_no (by decide +kernel), _, rfl, l, p, ps, v, x, rfl, ls, hz, hx, fun H1 s1 => ?_⟩
  refine ⟨_, rfl, rfl, _, rfl, ?_⟩
  have ls1 := ls.keep L.ne s1
  cases e : wplace ps x with
  | none =>
    have eb : behindO ps x = none := by unfold behindO; rw [e]; rfl
    refine iteT ?_
    rcases q with ⟨_, q⟩ | ⟨y, ey, _⟩
    · exact q H1 s1
    · rw [eb] at ey; cases ey
  | some k =>
    obtain ⟨hk, hwp, _⟩ := wplace_of e
    obtain ⟨dx1, vs1, hl1, hp1, pr1⟩ := id ls1
    refine iteF ?_
    refine ⟨_, rfl, l, CL, dx1, _, _, rfl, hl1, L.cl, L.nP, lp_pairs, _, rfl, l, dx1, _, rfl, hl1, lp_no (by decide +kernel), _, rfl, l, p, ps, k, rfl, ls1, hk, hz, fun H2 s2 => ?_⟩
    have hs : ∃ j, hind ps k = some j := by
      unfold wpl at hwp
      rw [List.getElem?_eq_getElem hk] at hwp
      cases eh : hind ps k with
      | none => rw [eh] at hwp; simp at hwp
      | some j => exact ⟨j, rfl⟩
    obtain ⟨j, ej⟩ := hs
    rw [ej]
    obtain ⟨hj, _, _⟩ := hind_of ej
    have hj' : j < ps.length := by omega
    obtain ⟨u, eu, ru⟩ := pr1.get1 (List.getElem?_eq_getElem hj')
    obtain ⟨a, pu, lu, rfl, ta, cp, lo⟩ := ru.keep L.ne (fs_same s2)
    have eb : behindO ps x = some ps[j].1 := by unfold behindO; rw [e]; show ((hind ps k).bind fun j => (ps[j]?).map (·.1)) = _; rw [ej]; show (ps[j]?).map (·.1) = _; rw [List.getElem?_eq_getElem hj']; rfl
    refine ⟨p, _, _, _, rfl, rfl, SqL.of (s2 _ _ hp1), atI_nat eu, a, _, _, _, rfl, rfl, ta.sq, rfl, ?_⟩
    rcases q with ⟨ey, _⟩ | ⟨y, ey, q⟩
    · rw [eb] at ey; cases ey
    · rw [eb] at ey
      cases ey
      exact q _ H2 (s1.trans s2) cp
end
end K61

set_option maxHeartbeats 4000000
namespace K61
open PySem L2 Lo
section
variable {P : Program} {w : World} {K : PySem.W.Frag} {mg : Str → Option Value} {base : Heap} {f CL : Addr} {fd : FuncData} {C : Kd → Addr}
/-! ### links, the greatest of their names -/
abbrev Li := Pa × Int
def cLi : Cod Li := cT2 cPa cInt
theorem cLi_mk {H : Hp} {a : Addr} {u : V} {x : Li} (h : H a = some (.tup [u, .int x.2])) (h1 : cPa.rp K H x.1 u) : cLi.rp K H x (.ref a) := ⟨a, u, _, rfl, .inl h, h1, rfl⟩
def vPos : Pos := match defBody s_victim with
  | .Return (some (.Call _ _ [⟨_, .Lambda _ _ _ p, _⟩] _)) _ :: _ => p
  | _ => ⟨0, 0, 0, 0⟩
def cl_victim : Scope := match defBody s_victim with
  | .Return (some (.Call _ _ [⟨_, .Lambda _ _ sc _, _⟩] _)) _ :: _ => sc
  | _ => default
theorem sl_victim : FnScope ["p"] ["p"] cl_victim := ⟨rfl, rfl, rfl, by decide +kernel, rfl, by decide +kernel, by decide +kernel⟩
def vQ : Str := (("victim" : Str) ++ (".<locals>." : Str)) ++ ("<lambda>" : Str)
def victL : List Li → Pa
  | [] => (0, 0)
  | x :: r => bestOf x.1 (r.map (·.1))
def spVict (K : PySem.W.Frag) (Pt : Addr) : Sp := fun vs H Q _ => ∃ a us ls, vs = [.ref a] ∧ SqT K H a us ∧ Paired (cLi.rp K H) ls us ∧ ls ≠ [] ∧ ls.length ≤ 1000 ∧ Tb H Pt vPos vQ ∧ ∀ u H', SameX H H' → Tb H' Pt vPos vQ → cPa.rp K H' (victL ls) u → Q u H'
theorem ok_victim {cc Pt : Addr} (F : Fun K "victim" "victim" s_victim f fd) (B : TxB mg) (hB : BB mg base) (hcc : fd.code = .ref cc) (hC : PySem.W.codeHdIn K cc Pt = true) : FnOk P w K mg base CX0 3 f fd ["path"] (spVict K Pt) := by
  refine F.okC sc_victim (fun vs H Q E h => ?_) (fun A outer s H vs Q E hr h => ?_)
  · obtain ⟨a, us, ls, rfl, _⟩ := h
    rfl
  obtain ⟨a, us, ls, rfl, hs, pl, hne, hz, tb, q⟩ := h
  refine ⟨_, pss_one (ps_ret (pe_maxK hr rfl B.max (pe_lc sb_victim_0 rfl (pi_tup (pv 0)) (fun _ _ _ _ => pts_nil) (fun _ _ _ _ => pe_ix (r := rIxT K) ix_tup (pv 0) pe_int (fun _ _ => rfl))) (pe_lam (q := vQ) hcc hC hB rfl rfl rfl))), ?_⟩
  refine ⟨_, rfl, a, rfl, ⟨_, hs⟩, ?_⟩
  have lz := pl.len
  refine lc_tup (xs := us) (fun i ys H1 => H1 = H ∧ Paired (cPa.rp K H) ((ls.take i).map (·.1)) ys) ⟨rfl, .nil⟩ (small (by omega)) (fun i ys H1 _ z => by rw [z.1]; exact hs) ?_ ?_
  · rintro i u ys H1 hu ⟨rfl, py⟩
    obtain ⟨x, ex, rx⟩ := pl.get hu
    obtain ⟨b, u1, u2, rfl, hb, r1, r2⟩ := rx
    refine tAllT ⟨_, rfl, b, _, _, _, rfl, rfl, hb.sq, rfl, rfl, ?_⟩
    rw [take_at ex, List.map_append]
    exact py.app (.cons r1 .nil)
  · rintro ys H1 ⟨rfl, py⟩ p hp
    rw [← lz, List.take_length] at py
    have s1 := same_new (o := .lst ys) hp
    refine ⟨tb.keep s1, fun fl c H2 sx tb2 hf hc => ?_⟩
    cases ls with
    | nil => exact absurd rfl hne
    | cons x r =>
      refine ⟨p, fl, ys, x.1, List.map (fun y : Li => y.1) r, rfl, rfl, SqL.of (sx _ _ trivial upd_same), pp py (fun _ _ z => cPa.keep (s1.x.trans sx).ts z), ?_, fun u H' sm ru => q u H' ((s1.x.trans sx).trans sm.x) (tb2.keep sm) ru⟩
      intro pins H3 s3 v u n Q1 I sm rv hn h
      exact lam_swap (k := 0) hr sl_victim (sm _ _ hf) (sm _ _ hc) (fun _ _ _ _ => rfl) I rv hn h
/-! ### the greatest -/
theorem keyGt_iff (a b : Pa) : keyGt a b = true ↔ a.2 > b.2 ∨ (a.2 = b.2 ∧ a.1 > b.1) := by
  show (if a.2 = b.2 then (if a.1 = b.1 then false else decide (b.1 < a.1)) else decide (b.2 < a.2)) = true ↔ _
  split
  · split
    · constructor
      · intro h
        cases h
      · intro h
        omega
    · rw [decide_eq_true_eq]
      omega
  · rw [decide_eq_true_eq]
    omega
/-- right, of these links -/
def Right (n : Pa) (ls : List Li) : Prop := n ∈ ls.map (·.1) ∧ ∀ x ∈ ls.map (·.1), ¬ keyGt x n = true
end
end K61

set_option maxHeartbeats 4000000
namespace K61
open PySem L2 Lo
section
variable {P : Program} {w : World} {K : PySem.W.Frag} {mg : Str → Option Value} {base : Heap} {f CL : Addr} {fd : FuncData} {C : Kd → Addr}
/-! ### a chase -/
theorem noT_of_fix {CL : Addr} : ∀ {o : HO}, Fix CL o → noT o
  | .tbl _, h => by
    have h' : False := h
    exact h'.elim
  | .lst _, _ => trivial
  | .tup _, _ => trivial
  | .dK _, _ => trivial
  | .dT _, _ => trivial
  | .set _ _, _ => trivial
  | .ins _ _ _, _ => trivial
  | .own _, _ => trivial
  | .xd _, _ => trivial
  | .met _ _, _ => trivial
  | .rng _ _, _ => trivial
  | .frz _ _, _ => trivial
  | .ext _, _ => trivial
theorem ls_x {H H' : Hp} {l p : Addr} {ps : List Pr} (hC : ∀ k, C k ≠ CL) (e : SameX H H') (h : LS C CL K H l p ps) : LS C CL K H' l p ps := by
  obtain ⟨dx, vs, e1, e2, e3⟩ := h
  exact ⟨dx, vs, e l _ trivial e1, e p _ trivial e2, pp e3 fun _ _ q => q.keep hC fun b o z hf => e b o (noT_of_fix hf) z⟩
/-- from p along those that it is behind, these, up to q -/
def Ch (ps : List Pr) : Pa → List Pa → Pa → Prop
  | p, [], q => q = p
  | p, c :: cs, q => c = p ∧ ∃ y, behindO ps p = some y ∧ Ch ps y cs q
theorem Ch.snoc {ps : List Pr} {q a : Pa} (hq : behindO ps q = some a) : ∀ {cs : List Pa} {p : Pa}, Ch ps p cs q → Ch ps p (cs ++ [q]) a
  | [], p, h => by
    have h' : q = p := h
    subst h'
    exact ⟨rfl, a, hq, rfl⟩
  | c :: cs, p, ⟨h1, y, h2, h3⟩ => ⟨h1, y, h2, Ch.snoc hq h3⟩
def Nw : List Pa → List Pa → Prop
  | _, [] => True
  | seen, c :: cs => c ∉ seen ∧ Nw (seen ++ [c]) cs
theorem Nw.snoc {q : Pa} : ∀ {cs seen : List Pa}, Nw seen cs → q ∉ seen ++ cs → Nw seen (cs ++ [q])
  | [], seen, _, h => ⟨by simpa using h, trivial⟩
  | c :: cs, seen, ⟨h1, h2⟩, h => ⟨h1, Nw.snoc h2 (by simpa using h)⟩
theorem beh_in {ps : List Pr} {p a : Pa} (h : behindO ps p = some a) : p ∈ ps.map (·.1) := by
  obtain ⟨p1, p2, p3, hh, z, e, ez, _⟩ := beh_iff.mp h
  rw [e, ← ez]
  exact List.mem_map.mpr ⟨z, List.mem_append_right _ List.mem_cons_self, rfl⟩
def left (ps : List Pr) (N : List Pa) : Nat := (ps.map (·.1)).countP fun x => !decide (x ∈ N)
theorem countP_lt {α : Type} {p q : α → Bool} : ∀ {l : List α} {a : α}, a ∈ l → p a = false → q a = true → (∀ x, p x = true → q x = true) → l.countP p < l.countP q
  | x :: l, a, ha, hp, hq, h => by
    have le : l.countP p ≤ l.countP q := List.countP_mono_left fun x _ => h x
    rw [List.countP_cons, List.countP_cons]
    rcases List.mem_cons.mp ha with e | e
    · subst e
      rw [hp, hq]
      simp only [Bool.false_eq_true, if_false, if_true]
      omega
    · have ih := countP_lt e hp hq h
      cases hx : p x with
      | false =>
        simp only [Bool.false_eq_true, if_false]
        split <;> omega
      | true =>
        rw [h x hx]
        simp only [if_true]
        omega
theorem left_lt {ps : List Pr} {N : List Pa} {p : Pa} (h : p ∈ ps.map (·.1)) (hn : p ∉ N) : left ps (N ++ [p]) < left ps N :=
  countP_lt h (by simp) (by simpa using hn) fun x hx => by
    simp only [List.mem_append, List.mem_singleton, not_or, Bool.not_eq_true', decide_eq_false_iff_not] at hx ⊢
    exact hx.1
def lk (h : Int) (cs : List Pa) : List Li := cs.map fun c => (c, h)
theorem lk_names (h : Int) (cs : List Pa) : (lk h cs).map (·.1) = cs := by
  unfold lk
  rw [List.map_map]
  exact List.map_id' cs
theorem lk_snoc (ls : List Li) (h : Int) (cs : List Pa) (q : Pa) : ls ++ lk h (cs ++ [q]) = (ls ++ lk h cs) ++ [(q, h)] := by
  unfold lk
  rw [List.map_append, List.append_assoc]
  rfl
def EndOk (K : PySem.W.Frag) (H : Hp) (ps : List Pr) (L : List Li) (a : Pa) (w : Str) (x : V) : Prop := ∃ f, L[0]? = some f ∧ ((a = f.1 ∧ w = "ring" ∧ cPa.rp K H (victL L) x) ∨ (a ≠ f.1 ∧ a ∈ L.map (·.1) ∧ w = "none" ∧ x = .non) ∨ (a ∉ L.map (·.1) ∧ behindO ps a = none ∧ w = "seek" ∧ cPa.rp K H a x))
def spChased (C : Kd → Addr) (CL : Addr) (K : PySem.W.Frag) (Pt : Addr) : Sp := fun vs H Q _ => ∃ l pl ps h v p t us ls, vs = [.ref l, .int h, v, .ref t] ∧ LS C CL K H l pl ps ∧ ps.length ≤ 100 ∧ cPa.rp K H p v ∧ H t = some (.tup us) ∧ Paired (cLi.rp K H) ls us ∧ ls.length ≤ 2 ∧ p ∉ ls.map (·.1) ∧ Tb H Pt vPos vQ ∧
  ∀ r w x tp us' cs a H', SameX H H' → Tb H' Pt vPos vQ → H' r = some (.tup [.str w, x, .ref tp]) → H' tp = some (.tup us') → Paired (cLi.rp K H') (ls ++ lk h cs) us' → cs.length ≤ 100 → Ch ps p cs a → Nw (ls.map (·.1)) cs →
    ((cs = [] ∧ behindO ps p = none ∧ w = "none" ∧ x = .non ∧ tp = t) ∨ (cs ≠ [] ∧ EndOk K H' ps (ls ++ lk h cs) a w x)) → Q (.ref r) H'
theorem nw_len {ps : List Pr} : ∀ {cs seen : List Pa}, Nw seen cs → (∀ c ∈ cs, c ∈ ps.map (·.1)) → cs.length + left ps (seen ++ cs) ≤ left ps seen
  | [], seen, _, _ => by
    rw [List.append_nil]
    simp
  | c :: cs, seen, ⟨h1, h2⟩, h => by
    have a := left_lt (h c List.mem_cons_self) h1
    have b := nw_len h2 fun x hx => h x (List.mem_cons_of_mem _ hx)
    rw [List.append_assoc] at b
    have e : seen ++ ([c] ++ cs) = seen ++ (c :: cs) := rfl
    rw [e] at b
    rw [List.length_cons]
    omega
theorem left_le (ps : List Pr) (N : List Pa) : left ps N ≤ ps.length := by
  unfold left
  have := List.countP_le_length (p := fun x => !decide (x ∈ N)) (l := ps.map (·.1))
  rw [List.length_map] at this
  exact this
theorem ch_in {ps : List Pr} : ∀ {cs : List Pa} {p q : Pa}, Ch ps p cs q → ∀ c ∈ cs, c ∈ ps.map (·.1)
  | c :: cs, p, q, ⟨h1, y, h2, h3⟩, x, hx => by
    rcases List.mem_cons.mp hx with e | e
    · rw [e, h1]
      exact beh_in h2
    · exact ch_in h3 x e
theorem ok_chased {Pt : Addr} (F : Fun K "chased" "chased" s_chased f fd) (L : TxL K C CL) (GV : GF P w K mg base CX0 3 "victim" ["path"] (spVict K Pt)) (GB : GM P w K mg base CX0 5 CL "behind" ["self", "p"] (spBehindO C CL K)) :
    FnOk P w K mg base CX0 6 f fd ["locks", "home", "p", "path"] (spChased C CL K Pt) := by
  refine F.ok sc_chased (fun vs H Q E h => ?_) (fun cdv A outer s H vs Q E hr h => ?_)
  · obtain ⟨l, pl, ps, h, v, p, t, us, ls, rfl, _⟩ := h
    rfl
  obtain ⟨l, pl, ps, h, v, p, t, us, ls, rfl, hL, hz, hp, ht, pls, hls, hpn, tb, q⟩ := h
  have nd := sc_chased.nd
  refine ⟨_, pss_cons (ps_set (i := 4) nd rfl (Or.inl rfl) (pm GB (pv 0) L.cl hr (pa_cons (pv 2) pa_nil)))
    (pss_cons (ps_if (pt_cmpR op_isN (pv 4) pe_non (nomark _)) (pss_one (ps_ret (pe_tup (pa_cons pe_str (pa_cons pe_non (pa_cons (pv 3) pa_nil)))))) pss_nil)
    (pss_one (ps_while PassesOwn.never (pt_val pe_bl)
      (pss_cons (ps_set (i := 3) nd rfl (Or.inl rfl) (pe_op op_catE (pv 3) (pe_tup (pa_cons (pe_tup (pa_cons (pv 2) (pa_cons (pv 1) pa_nil))) pa_nil))))
      (pss_cons (ps_if (pt_cmpR (op_eqC cPa (hun hr)) (pv 4) (pe_ix (r := rIxT K) ix_tup (pe_ix (r := rIxT K) ix_tup (pv 3) pe_int (fun _ _ => rfl)) pe_int (fun _ _ => rfl)) (nomark _)) (pss_one (ps_ret (pe_tup (pa_cons pe_str (pa_cons (pc GV hr (pa_cons (pv 3) pa_nil)) (pa_cons (pv 3) pa_nil)))))) pss_nil)
      (pss_cons (ps_if (pt_cmpR (op_inC cPa (hun hr)) (pv 4) (pe_lc sb_chased_0 rfl (pi_tup (pv 3)) (fun _ _ _ _ => pts_nil) (fun _ _ _ _ => pe_ix (r := rIxT K) ix_tup (pv 0) pe_int (fun _ _ => rfl))) rfl) (pss_one (ps_ret (pe_tup (pa_cons pe_str (pa_cons pe_non (pa_cons (pv 3) pa_nil)))))) pss_nil)
      (pss_cons (ps_set (i := 5) nd rfl (Or.inl rfl) (pm GB (pv 0) L.cl hr (pa_cons (pv 4) pa_nil)))
      (pss_cons (ps_if (pt_cmpR op_isN (pv 5) pe_non (nomark _)) (pss_one (ps_ret (pe_tup (pa_cons pe_str (pa_cons (pv 4) (pa_cons (pv 3) pa_nil)))))) pss_nil)
      (pss_cons (ps_set (i := 2) nd rfl (Or.inl rfl) (pv 4)) (pss_one (ps_set (i := 4) nd rfl (Or.inl rfl) (pv 5))))))))))))  , ?_⟩
  obtain ⟨dx, hl⟩ := hL.ins
  have clen : ∀ cs q, Ch ps p cs q → Nw (ls.map (·.1)) cs → cs.length ≤ 100 := fun cs q hc hn => by
    have a := nw_len hn (ch_in hc)
    have b := left_le ps (ls.map (·.1))
    omega
  refine ⟨_, rfl, l, dx, _, rfl, hl, lp_no (by decide +kernel), _, rfl, l, pl, ps, v, p, rfl, hL, by omega, hp, fun ua H1 s1 ra => ?_⟩
  cases eb : behindO ps p with
  | none =>
    rw [eb] at ra
    have ra' : ua = .non := ra
    subst ra'
    refine ⟨_, rfl, rfl, _, rfl, iteT ?_⟩
    refine ⟨_, rfl, (by show 3 ≤ sizeLine; decide), fun r hr0 => ?_⟩
    have s2 := s1.trans (same_new (o := .tup [.str "none", .non, .ref t]) hr0)
    exact q r "none" .non t us [] p _ s2.x (tb.keep s2) upd_same (s2 _ _ ht) (by show Paired _ (ls ++ []) us; rw [List.append_nil]; exact pp pls fun _ _ z => cLi.keep s2.ts z) (Nat.zero_le _) rfl trivial (.inl ⟨rfl, eb, rfl, rfl, rfl⟩)
  | some a0 =>
    rw [eb] at ra
    have ra' : cPa.rp K H1 a0 ua := ra
    obtain ⟨au, w1, w2, rfl, _⟩ := id ra'
    refine ⟨_, rfl, rfl, _, rfl, iteF ?_⟩
    refine ⟨fun m σ H' => ∃ p1 a1 vp va tp us1 cs x5, σ = [some (.ref l), some (.int h), some vp, some (.ref tp), some (.ref va), x5] ∧ SameX H H' ∧ Tb H' Pt vPos vQ ∧ cPa.rp K H' p1 vp ∧ cPa.rp K H' a1 (.ref va) ∧ H' tp = some (.tup us1) ∧ Paired (cLi.rp K H') (ls ++ lk h cs) us1 ∧ Ch ps p cs p1 ∧ Nw (ls.map (·.1)) cs ∧ p1 ∉ ls.map (·.1) ++ cs ∧ behindO ps p1 = some a1 ∧ m = left ps (ls.map (·.1) ++ cs),
      ⟨_, p, a0, v, au, t, us, [], none, rfl, s1.x, tb.keep s1, cPa.keep s1.ts hp, ra', s1 _ _ ht, by show Paired _ (ls ++ []) us; rw [List.append_nil]; exact pp pls fun _ _ z => cLi.keep s1.ts z, rfl, trivial, by rw [List.append_nil]; exact hpn, eb, rfl⟩, ?_⟩
    rintro m σ H2 ⟨p1, a1, vp, va, tp, us1, cs, x5, rfl, sx, tb2, rp1, ra1, htp, pls1, hch, hnw, hp1, hb1, rfl⟩
    refine ⟨_, rfl, iteT ?_⟩
    refine ⟨fun σ' H' => ∃ vp va tp us1 a2 x5, σ' = [some (.ref l), some (.int h), some vp, some (.ref tp), some (.ref va), x5] ∧ SameX H H' ∧ Tb H' Pt vPos vQ ∧ cPa.rp K H' a1 vp ∧ cPa.rp K H' a2 (.ref va) ∧ H' tp = some (.tup us1) ∧ Paired (cLi.rp K H') (ls ++ lk h (cs ++ [p1])) us1 ∧ a1 ∉ ls.map (·.1) ++ (cs ++ [p1]) ∧ behindO ps a1 = some a2,
      fun σ' H' ⟨vp, va, tp, us1, a2, x5, e1, e2, e3, e4, e5, e6, e7, e8, e9⟩ => ⟨left ps (ls.map (·.1) ++ (cs ++ [p1])), ?_, a1, a2, vp, va, tp, us1, cs ++ [p1], x5, e1, e2, e3, e4, e5, e6, e7, hch.snoc hb1, hnw.snoc hp1, e8, e9, rfl⟩, ?_⟩
    · rw [← List.append_assoc]
      exact left_lt (beh_in hb1) hp1
    have hch' := hch.snoc hb1
    have hnw' := hnw.snoc hp1
    have hcl := clen _ _ hch' hnw'
    have ne' : cs ++ [p1] ≠ [] := by simp
    refine ⟨_, rfl, _, rfl, _, rfl, (by show 2 ≤ sizeLine; decide), fun t1 h1 => ⟨(by show 1 ≤ sizeLine; decide), fun t2 h2 => ?_⟩⟩
    have n1 := same_new (o := .tup [vp, .int h]) h1
    have n2 := same_new (o := .tup [.ref t1]) h2
    have n12 := n1.trans n2
    have lz := pls1.len
    refine ⟨tp, t2, us1, [.ref t1], rfl, rfl, SqT.of (n12 _ _ htp), upd_same, by simp, small (by rw [← lz, List.length_append]; unfold lk; rw [List.length_map]; have := clen _ _ hch hnw; show _ + 1 ≤ 1000; omega), fun pp' H3 s3 hpp => ?_⟩
    have s13 := n12.trans s3
    have sx3 := sx.trans s13.x
    have tb3 := tb2.keep s13
    have ra3 := cPa.keep s13.ts ra1
    have rp3 := cPa.keep s13.ts rp1
    have pl3 : Paired (cLi.rp K H3) (ls ++ lk h (cs ++ [p1])) (us1 ++ [.ref t1]) := by
      rw [lk_snoc]
      exact (pp pls1 fun _ _ z => cLi.keep s13.ts z).app (.cons (cLi_mk (x := (p1, h)) (s3 _ _ (n2 _ _ upd_same)) rp3) .nil)
    generalize eL : ls ++ lk h (cs ++ [p1]) = LL at pl3
    have nameL : LL.map (·.1) = ls.map (·.1) ++ (cs ++ [p1]) := by
      rw [← eL, List.map_append, lk_names]
    have lneL : LL ≠ [] := by
      intro z
      rw [z] at eL
      have := congrArg List.length eL
      rw [List.length_append] at this
      unfold lk at this
      rw [List.length_map, List.length_append] at this
      simp at this
    obtain ⟨f0, ef0⟩ : ∃ f0, LL[0]? = some f0 := by
      cases LL with
      | nil => exact absurd rfl lneL
      | cons x r => exact ⟨x, rfl⟩
    have lzL : LL.length ≤ 1000 := by
      rw [← eL, List.length_append]
      unfold lk
      rw [List.length_map]
      omega
    obtain ⟨u0, eu0, ru0⟩ := pl3.get1 ef0
    obtain ⟨b0, y1, y2, rfl, hb0, ry1, ry2⟩ := id ru0
    refine ⟨_, rfl, _, rfl, pp', _, _, _, rfl, rfl, SqT.of hpp, atI_nat (j := 0) eu0, b0, _, _, _, rfl, rfl, hb0.sq, rfl, a1, f0.1, ra3, ry1, _, rfl, ?_⟩
    by_cases e1 : a1 = f0.1
    · rw [decide_eq_true e1]
      refine iteT ?_
      refine ⟨_, rfl, pp', _, LL, rfl, SqT.of hpp, pl3, lneL, lzL, tb3, fun uv H4 sx4 tb4 rv4 => ?_⟩
      refine ⟨_, rfl, (by show 3 ≤ sizeLine; decide), fun r hr0 => ?_⟩
      have s5 := same_new (o := .tup [.str "ring", uv, .ref pp']) hr0
      have x35 := sx4.trans s5.x
      rw [← eL] at pl3 ef0 rv4
      exact q r "ring" uv pp' _ (cs ++ [p1]) a1 _ (sx3.trans x35) (tb4.keep s5) upd_same (x35 _ _ trivial hpp) (pp pl3 fun _ _ z => cLi.keep x35.ts z) hcl hch' hnw' (.inr ⟨ne', f0, ef0, .inl ⟨e1, rfl, cPa.keep s5.ts rv4⟩⟩)
    rw [decide_eq_false e1]
    refine iteF ?_
    have lz3 := pl3.len
    refine ⟨_, rfl, _, rfl, pp', rfl, ⟨_, SqT.of hpp⟩, ?_⟩
    refine lc_tup (xs := us1 ++ [.ref t1]) (fun i ys H' => H' = H3 ∧ Paired (cPa.rp K H3) ((LL.take i).map (·.1)) ys) ⟨rfl, .nil⟩ (small (by omega)) (fun i ys H' _ z => by rw [z.1]; exact SqT.of hpp) ?_ ?_
    · rintro i u ys H' hu ⟨rfl, py⟩
      obtain ⟨x, ex, rx⟩ := pl3.get hu
      obtain ⟨b, u1, u2, rfl, hb, r1, r2⟩ := rx
      refine tAllT ⟨_, rfl, b, _, _, _, rfl, rfl, hb.sq, rfl, rfl, ?_⟩
      rw [take_at ex, List.map_append]
      exact py.app (.cons r1 .nil)
    rintro ys H' ⟨rfl, py⟩ wl hwl
    rw [← lz3, List.take_length] at py
    have s4 := same_new (o := .lst ys) hwl
    refine ⟨a1, wl, ys, LL.map (·.1), cPa.keep s4.ts ra3, rfl, .inl (SqL.of upd_same), pp py (fun _ _ z => cPa.keep s4.ts z), _, rfl, ?_⟩
    have sx4 := sx3.trans s4.x
    have tb4 := tb3.keep s4
    have hpp4 := s4 _ _ hpp
    have pl4 := pp pl3 fun _ _ z => cLi.keep s4.ts z
    have ra4 := cPa.keep s4.ts ra3
    generalize (upd H' wl (HO.lst ys)) = H4 at sx4 tb4 hpp4 pl4 ra4 ⊢
    refine ite2 (fun c => ?_) (fun c => ?_)
    · have hin : a1 ∈ LL.map (·.1) := by simpa only [decide_eq_true_eq] using c
      refine ⟨_, rfl, (by show 3 ≤ sizeLine; decide), fun r hr0 => ?_⟩
      have s5 := same_new (o := .tup [.str "none", .non, .ref pp']) hr0
      rw [← eL] at pl4 ef0 hin
      exact q r "none" .non pp' _ (cs ++ [p1]) a1 _ (sx4.trans s5.x) (tb4.keep s5) upd_same (s5 _ _ hpp4) (pp pl4 fun _ _ z => cLi.keep s5.ts z) hcl hch' hnw' (.inr ⟨ne', f0, ef0, .inr (.inl ⟨e1, hin, rfl, rfl⟩)⟩)
    have hnin : a1 ∉ LL.map (·.1) := by simpa only [decide_eq_true_eq] using c
    have hL4 := ls_x L.ne sx4 hL
    obtain ⟨dx4, hl4⟩ := hL4.ins
    refine ⟨_, rfl, l, dx4, _, rfl, hl4, lp_no (by decide +kernel), _, rfl, l, pl, ps, _, a1, rfl, hL4, by omega, ra4, fun uf H5 s5 rf => ?_⟩
    have sx5 := sx4.trans s5.x
    have tb5 := tb4.keep s5
    have hpp5 := s5 _ _ hpp4
    have pl5 := pp pl4 fun _ _ z => cLi.keep s5.ts z
    have ra5 := cPa.keep s5.ts ra4
    cases eb2 : behindO ps a1 with
    | none =>
      rw [eb2] at rf
      have rf' : uf = .non := rf
      subst rf'
      refine ⟨_, rfl, rfl, _, rfl, iteT ?_⟩
      refine ⟨_, rfl, _, rfl, (by show 3 ≤ sizeLine; decide), fun r hr0 => ?_⟩
      have s6 := same_new (o := .tup [.str "seek", .ref va, .ref pp']) hr0
      rw [← eL] at pl5 ef0 hnin
      exact q r "seek" _ pp' _ (cs ++ [p1]) a1 _ (sx5.trans s6.x) (tb5.keep s6) upd_same (s6 _ _ hpp5) (pp pl5 fun _ _ z => cLi.keep s6.ts z) hcl hch' hnw' (.inr ⟨ne', f0, ef0, .inr (.inr ⟨hnin, eb2, rfl, cPa.keep s6.ts ra5⟩)⟩)
    | some a2 =>
      rw [eb2] at rf
      have rf' : cPa.rp K H5 a2 uf := rf
      obtain ⟨af, z1, z2, rfl, _⟩ := id rf'
      refine ⟨_, rfl, rfl, _, rfl, iteF ?_⟩
      rw [nameL] at hnin
      exact ⟨_, rfl, _, rfl, _, _, pp', _, a2, _, rfl, sx5, tb5, ra5, rf', hpp5, pl5, hnin, rfl⟩
end
end K61

set_option maxHeartbeats 4000000
namespace K61
open PySem L2 Lo
section
variable {P : Program} {w : World} {K : PySem.W.Frag} {mg : Str → Option Value} {base : Heap} {f CL : Addr} {fd : FuncData} {C : Kd → Addr}
/-! ### the law's victim, the law's links -/
theorem cut_from (us : List V) (m : Nat) (h : m ≤ us.length) : cutV us (some (m : Int)) none = us.drop m := by
  unfold cutV
  rw [HT.sIx_nat, HT.sIx_none, Nat.min_eq_left h]
  exact List.take_of_length_le (by rw [List.length_drop]; exact Nat.le_refl _)
theorem cut_to (us : List V) (m : Nat) (h : m ≤ us.length) : cutV us none (some (m : Int)) = us.take m := by
  unfold cutV
  rw [HT.sIx_nat, HT.sIx_none, Nat.min_eq_left h]
  rfl
theorem pr_drop {α β : Type} {R : α → β → Prop} : ∀ {xs : List α} {ys : List β} (n : Nat), Paired R xs ys → Paired R (xs.drop n) (ys.drop n)
  | _, _, 0, r => r
  | _, _, _ + 1, .nil => .nil
  | _, _, n + 1, .cons _ t => pr_drop n t
theorem pr_take {α β : Type} {R : α → β → Prop} : ∀ {xs : List α} {ys : List β} (n : Nat), Paired R xs ys → Paired R (xs.take n) (ys.take n)
  | _, _, 0, _ => .nil
  | _, _, _ + 1, .nil => .nil
  | _, _, n + 1, .cons r t => .cons r (pr_take n t)
theorem best_snoc (n : Pa) : ∀ (b : Pa) (l : List Pa), bestOf b (l ++ [n]) = if keyGt n (bestOf b l) = true then n else bestOf b l
  | b, [] => rfl
  | b, x :: l => best_snoc n (if keyGt x b = true then x else b) l
theorem key_self (b : Pa) : ¬ keyGt b b = true := by
  rw [keyGt_iff]
  omega
theorem hun3 {k : Nat} {A : Around} (hr : Room k A) : A.units + 3 < cLine := by
  have := hr.un
  omega
def spLVict (K : PySem.W.Frag) : Sp := fun vs H Q _ => ∃ t us ls, vs = [.ref t] ∧ H t = some (.tup us) ∧ Paired (cLi.rp K H) ls us ∧ ls ≠ [] ∧ ∀ u H', Same H H' → cPa.rp K H' (victL ls) u → Q u H'
theorem ok_lvict (F : Fun K "_law_victim" "_law_victim" s__law_victim f fd) : FnOk P w K mg base CX0 1 f fd ["_law_path_here"] (spLVict K) := by
  refine F.ok sc__law_victim (fun vs H Q E h => ?_) (fun cdv A outer s H vs Q E hr h => ?_)
  · obtain ⟨t, us, ls, rfl, _⟩ := h
    rfl
  obtain ⟨t, us, ls, rfl, ht, pl, hne, q⟩ := h
  have nd := sc__law_victim.nd
  refine ⟨_, pss_cons (ps_set (i := 1) nd rfl (Or.inl rfl) (pe_ix (r := rIxT K) ix_tup (pe_ix (r := rIxT K) ix_tup (pv 0) pe_int (fun _ _ => rfl)) pe_int (fun _ _ => rfl)))
    (pss_cons (ps_for PassesOwn.never rfl (pi_tup (pv 0)) (pg_tup rfl (pgs_cons (pg_name (i := 2) nd rfl (Or.inl rfl)) (pgs_cons (pg_name (i := 3) nd rfl (Or.inl rfl)) pgs_nil)))
      (pss_one (ps_if (PW.pt (pw_or (pt_cmpR op_gt (pe_ix (r := rIxT K) ix_tup (pv 2) pe_int (fun _ _ => rfl)) (pe_ix (r := rIxT K) ix_tup (pv 1) pe_int (fun _ _ => rfl)) (nomark _))
        (pw_or1 (PW.pt (pw_and (pt_cmpR op_eq (pe_ix (r := rIxT K) ix_tup (pv 2) pe_int (fun _ _ => rfl)) (pe_ix (r := rIxT K) ix_tup (pv 1) pe_int (fun _ _ => rfl)) (nomark _)) (pw_and1 (pt_cmpR op_gt (pe_ix (r := rIxT K) ix_tup (pv 2) pe_int (fun _ _ => rfl)) (pe_ix (r := rIxT K) ix_tup (pv 1) pe_int (fun _ _ => rfl)) (nomark _)))))))) (pss_one (ps_set (i := 1) nd rfl (Or.inl rfl) (pv 2))) pss_nil)))
    (pss_one (ps_ret (pv 1)))), ?_⟩
  cases ls with
  | nil => exact absurd rfl hne
  | cons f0 r0 =>
    obtain ⟨u0, eu0, ru0⟩ := pl.get1 (j := 0) (x := f0) rfl
    obtain ⟨b0, y1, y2, rfl, hb0, ry1, ry2⟩ := id ru0
    refine ⟨_, rfl, t, _, _, _, rfl, rfl, SqT.of ht, atI_nat (j := 0) eu0, b0, _, _, _, rfl, rfl, hb0.sq, rfl, ?_⟩
    refine ⟨_, rfl, t, rfl, ⟨_, SqT.of ht⟩, ?_⟩
    refine for_tup (xs := us) (fun i σ H' => H' = H ∧ ∃ vb x2 x3, σ = [some (.ref t), some vb, x2, x3] ∧ cPa.rp K H (bestOf f0.1 (((f0 :: r0).take i).map (·.1))) vb) ⟨rfl, y1, none, none, rfl, ry1⟩ (fun i σ H' _ z => by rw [z.1]; exact SqT.of ht) ?_ ?_
    · rintro i u σ H1 hu ⟨rfl, vb, x2, x3, rfl, rb⟩
      obtain ⟨x, ex, rx⟩ := pl.get hu
      obtain ⟨c, u1, u2, rfl, hc, r1, r2⟩ := rx
      obtain ⟨c1, w1, w2, rfl, hc1, rfl, rfl⟩ := id r1
      obtain ⟨d1, z1, z2, rfl, hd1, rfl, rfl⟩ := id rb
      have nx : ∀ vb', cPa.rp K H1 (if keyGt x.1 (bestOf f0.1 (((f0 :: r0).take i).map (·.1))) = true then x.1 else bestOf f0.1 (((f0 :: r0).take i).map (·.1))) vb' → (H1 = H1 ∧ ∃ vb x2 x3, [some (V.ref t), some vb', some (.ref c1), some u2] = [some (.ref t), some vb, x2, x3] ∧ cPa.rp K H1 (bestOf f0.1 (((f0 :: r0).take (i + 1)).map (·.1))) vb) := fun vb' r' => by
        refine ⟨rfl, vb', _, _, rfl, ?_⟩
        rw [take_at ex, List.map_append]
        show cPa.rp K H1 (bestOf f0.1 (_ ++ [x.1])) vb'
        rw [best_snoc]
        exact r'
      generalize bestOf f0.1 (((f0 :: r0).take i).map (·.1)) = b at rb hd1 nx
      refine ⟨c, [.ref c1, u2], rfl, hc.sq, rfl, .ref c1, [u2], rfl, u2, [], rfl, rfl, ?_⟩
      refine ⟨_, rfl, c1, _, _, _, rfl, rfl, hc1.sq, rfl, _, rfl, d1, _, _, _, rfl, rfl, hd1.sq, rfl, _, _, rfl, rfl, _, rfl, ?_⟩
      by_cases g : keyGt x.1 b = true
      · rw [if_pos g] at nx
        rw [keyGt_iff] at g
        by_cases g1 : b.2 < x.1.2
        · rw [decide_eq_true g1]
          exact iteT (iteT ⟨_, rfl, nx _ r1⟩)
        · rw [decide_eq_false g1]
          refine iteF ⟨_, rfl, c1, _, _, _, rfl, rfl, hc1.sq, rfl, _, rfl, d1, _, _, _, rfl, rfl, hd1.sq, rfl, rfl, _, rfl, ?_⟩
          rw [decide_eq_true (congrArg V.int (show x.1.2 = b.2 by omega))]
          refine iteT ⟨_, rfl, c1, _, _, _, rfl, rfl, hc1.sq, rfl, _, rfl, d1, _, _, _, rfl, rfl, hd1.sq, rfl, _, _, rfl, rfl, _, rfl, ?_⟩
          rw [decide_eq_true (show b.1 < x.1.1 by omega)]
          exact iteT ⟨_, rfl, nx _ r1⟩
      · rw [if_neg g] at nx
        rw [keyGt_iff] at g
        rw [decide_eq_false (show ¬ b.2 < x.1.2 by omega)]
        refine iteF ⟨_, rfl, c1, _, _, _, rfl, rfl, hc1.sq, rfl, _, rfl, d1, _, _, _, rfl, rfl, hd1.sq, rfl, rfl, _, rfl, ?_⟩
        by_cases e : x.1.2 = b.2
        · rw [decide_eq_true (congrArg V.int e)]
          refine iteT ⟨_, rfl, c1, _, _, _, rfl, rfl, hc1.sq, rfl, _, rfl, d1, _, _, _, rfl, rfl, hd1.sq, rfl, _, _, rfl, rfl, _, rfl, ?_⟩
          rw [decide_eq_false (show ¬ b.1 < x.1.1 by omega)]
          exact iteF (nx _ rb)
        · rw [decide_eq_false (fun z => e (V.int.inj z))]
          exact iteF (iteF (nx _ rb))
    · rintro σ H1 ⟨rfl, vb, x2, x3, rfl, rb⟩
      rw [← pl.len, List.take_length] at rb
      refine ⟨_, rfl, q vb H1 (Same.refl _) ?_⟩
      have e : bestOf f0.1 ((f0 :: r0).map (·.1)) = victL (f0 :: r0) := by
        show bestOf (if keyGt f0.1 f0.1 = true then f0.1 else f0.1) (r0.map (·.1)) = bestOf f0.1 (r0.map (·.1))
        rw [if_neg (key_self _)]
      rw [← e]
      exact rb
def spLinks (C : Kd → Addr) (CL : Addr) (K : PySem.W.Frag) : Sp := fun vs H Q _ => ∃ l pl ps h v p t us ls tf usf cs a, vs = [.ref l, .int h, v, .ref t, .ref tf] ∧ LS C CL K H l pl ps ∧ ps.length ≤ 100 ∧ cPa.rp K H p v ∧ H t = some (.tup us) ∧ Paired (cLi.rp K H) ls us ∧ ls.length ≤ 2 ∧ H tf = some (.tup usf) ∧ Paired (cLi.rp K H) (ls ++ lk h cs) usf ∧ cs.length ≤ 100 ∧
  Ch ps p cs a ∧ Nw (ls.map (·.1)) cs ∧ ∀ r va sl sus H', Same H H' → H' r = some (.tup [va, .ref sl]) → cPa.rp K H' a va → H' sl = some (.lst sus) → Paired (cPa.rp K H') (ls.map (·.1) ++ cs) sus → Q (.ref r) H'
theorem ok_links (F : Fun K "_law_links" "_law_links" s__law_links f fd) (B : TxB mg) (L : TxL K C CL) (GB : GM P w K mg base CX0 5 CL "behind" ["self", "p"] (spBehindO C CL K)) :
    FnOk P w K mg base CX0 6 f fd ["_law_locks_here", "_law_home", "_law_p", "_law_path_here", "_law_found"] (spLinks C CL K) := by
  refine F.ok sc__law_links (fun vs H Q E h => ?_) (fun cdv A outer s H vs Q E hr h => ?_)
  · obtain ⟨l, pl, ps, h, v, p, t, us, ls, tf, usf, cs, a, rfl, _⟩ := h
    rfl
  obtain ⟨l, pl, ps, h, v, p, t, us, ls, tf, usf, cs, a, rfl, hL, hz, hp, ht, pls, hls, htf, pfs, hcs, hch, hnw, q⟩ := h
  have nd := sc__law_links.nd
  refine ⟨_, pss_cons (ps_setLCM (j := 5) nd rfl (Or.inl rfl) sb__law_links_0 (fun _ _ _ _ => pg_pairK K rfl sb__law_links_0.nd rfl rfl rfl rfl) rfl (pi_tup (pv 3)) (fun _ _ _ _ => pts_nil) (fun _ _ _ _ => pv 0))
    (pss_cons (ps_if (pt_cmpR (op_neR 3 (hun3 hr)) (pe_slice sl_tupE (pv 4) po_none (po_some (pe_callB call_len_seq rfl B.len PySem.boot_len (pa_cons (pv 3) pa_nil)))) (pv 3) (nomark _)) pss_never pss_nil)
    (pss_cons (ps_set (i := 6) nd rfl (Or.inl rfl) (pm GB (pv 0) L.cl hr (pa_cons (pv 2) pa_nil)))
    (pss_cons (ps_for PassesOwn.never rfl (pi_tup (pe_slice sl_tupE (pv 4) (po_some (pe_callB call_len_seq rfl B.len PySem.boot_len (pa_cons (pv 3) pa_nil))) po_none)) (pg_name (i := 7) nd rfl (Or.inl rfl))
      (pss_cons (ps_if (PW.pt (pw_or (pt_cmpR op_isN (pv 6) pe_non (nomark _)) (pw_or (pt_cmpR (op_neC cLi (hun hr)) (pv 7) (pe_tup (pa_cons (pv 2) (pa_cons (pv 1) pa_nil))) (nomark _)) (pw_or1 (pt_cmpR (op_inC cPa (hun hr)) (pv 2) (pv 5) rfl))))) pss_never pss_nil)
      (pss_cons (ps_expr (pe_bm PySem.F.plainAttrs_list PySem.F.slot_list_append PySem.F.type_list_append mt_append (pv 5) (pa_cons (pv 2) pa_nil)))
      (pss_cons (ps_set (i := 2) nd rfl (Or.inl rfl) (pv 6))
      (pss_one (ps_set (i := 6) nd rfl (Or.inl rfl) (pm GB (pv 0) L.cl hr (pa_cons (pv 2) pa_nil))))))))
    (pss_one (ps_ret (pe_tup (pa_cons (pv 2) (pa_cons (pv 5) pa_nil)))))))), ?_⟩
  have lzu := pls.len
  have lzf := pfs.len
  have nle : us.length ≤ usf.length := by
    rw [← lzu, ← lzf, List.length_append]
    omega
  refine ⟨_, rfl, t, rfl, ⟨_, SqT.of ht⟩, ?_⟩
  refine lc_pairT (xs := us) (fun i ys H' => H' = H ∧ Paired (cPa.rp K H) ((ls.take i).map (·.1)) ys) ⟨rfl, .nil⟩ (small (by omega)) (fun i ys H' _ z => by rw [z.1]; exact SqT.of ht) ?_ ?_
  · rintro i u ys H' hu ⟨rfl, py⟩
    obtain ⟨x, ex, rx⟩ := pls.get hu
    obtain ⟨b, u1, u2, rfl, hb, r1, r2⟩ := rx
    refine ⟨b, u1, u2, rfl, hb.sq, tAllT ⟨_, rfl, rfl, ?_⟩⟩
    rw [take_at ex, List.map_append]
    exact py.app (.cons r1 .nil)
  rintro ys H' ⟨rfl, py⟩ sl hsl
  rw [← lzu, List.take_length] at py
  have s1 := same_new (o := .lst ys) hsl
  refine ⟨_, rfl, _, rfl, t, _, rfl, .inr (SqT.of (s1 _ _ ht)), _, rfl, tf, usf, rfl, s1 _ _ htf, fun ta H2 s2 hta => ?_⟩
  have s12 := s1.trans s2
  rw [cut_to usf us.length nle] at hta
  refine ⟨_, rfl, ?_, _, rfl, iteF ?_⟩
  · refine (eqr_tup (n := 2) (SqT.of hta) (SqT.of (s12 _ _ ht)) ?_).2
    have p1 := pp (pr_take us.length pfs) fun _ _ z => cLi.keep s12.ts z
    rw [← lzu, List.take_append_of_le_length (Nat.le_refl _), List.take_length] at p1
    have p2 := pp pls fun _ _ z => cLi.keep s12.ts z
    refine paired_of' (by rw [List.length_take]; omega) fun i x y e1 e2 => ?_
    rw [← lzu] at e1
    obtain ⟨a1, ea1, ra1⟩ := p1.get e1
    obtain ⟨a2, ea2, ra2⟩ := p2.get e2
    rw [ea1] at ea2
    cases ea2
    have z := cLi.eq ra1 ra2
    rw [decide_eq_true rfl] at z
    exact z
  have hL2 := hL.keep L.ne s12
  obtain ⟨dx, hl2⟩ := hL2.ins
  refine ⟨_, rfl, l, dx, _, rfl, hl2, lp_no (by decide +kernel), _, rfl, l, pl, ps, v, p, rfl, hL2, by omega, cPa.keep s12.ts hp, fun ua H3 s3 ra => ?_⟩
  have s13 := s12.trans s3
  have hsl3 := s3 _ _ (s2 _ _ (upd_same (H := H') (a := sl) (o := .lst ys)))
  refine ⟨_, rfl, _, rfl, t, _, rfl, .inr (SqT.of (s13 _ _ ht)), _, rfl, tf, usf, rfl, s13 _ _ htf, fun td H4 s4 htd => ⟨td, rfl, ⟨_, SqT.of htd⟩, ?_⟩⟩
  have s14 := s13.trans s4
  rw [cut_from usf us.length nle] at htd
  have pd : Paired (cLi.rp K H') (lk h cs) (usf.drop us.length) := by
    have z := pr_drop us.length pfs
    rw [← lzu, List.drop_append_of_le_length (Nat.le_refl _), List.drop_length, List.nil_append, lzu] at z
    exact z
  have lzd := pd.len
  have lzc : (lk h cs).length = cs.length := by
    unfold lk
    rw [List.length_map]
  refine for_tup (xs := usf.drop us.length) (fun i σ H5 => Same H' H5 ∧ H5 td = some (.tup (usf.drop us.length)) ∧ ∃ vp va x7 p1 sus, σ = [some (.ref l), some (.int h), some vp, some (.ref t), some (.ref tf), some (.ref sl), some va, x7] ∧ cPa.rp K H5 p1 vp ∧ orp K H5 (behindO ps p1) va ∧ H5 sl = some (.lst sus) ∧ Paired (cPa.rp K H5) (ls.map (·.1) ++ cs.take i) sus ∧ Ch ps p1 (cs.drop i) a ∧ Nw (ls.map (·.1) ++ cs.take i) (cs.drop i))
    ⟨s14, htd, v, ua, none, p, ys, rfl, cPa.keep s14.ts hp, ra.keep s4.ts, s4 _ _ hsl3, by rw [List.take_zero, List.append_nil]; exact pp py fun _ _ z => cPa.keep s14.ts z, hch, by rw [List.take_zero, List.append_nil]; exact hnw⟩ (fun i σ H5 _ z => SqT.of z.2.1) ?_ ?_
  · rintro i u σ H5 hu ⟨s5, htd5, vp, va, x7, p1, sus, rfl, rp, rva, hsl5, psus, hch1, hnw1⟩
    obtain ⟨x, ex, rx⟩ := pd.get hu
    have hic : i < cs.length := by
      rw [← lzc]
      exact (List.getElem?_eq_some_iff.mp ex).1
    obtain ⟨c, ec⟩ : ∃ c, cs[i]? = some c := ⟨_, List.getElem?_eq_getElem hic⟩
    have ed : cs.drop i = c :: cs.drop (i + 1) := by
      rw [List.drop_eq_getElem_cons hic]
      rw [List.getElem?_eq_getElem hic] at ec
      cases ec
      rfl
    have exc : x = (c, h) := by
      unfold lk at ex
      rw [List.getElem?_map, ec] at ex
      exact (Option.some.inj ex).symm
    subst exc
    rw [ed] at hch1 hnw1
    obtain ⟨e1, y, hy, hch2⟩ := hch1
    subst e1
    rw [hy] at rva
    have rva' : cPa.rp K H5 y va := rva
    obtain ⟨av, z1, z2, rfl, _⟩ := id rva'
    refine ⟨_, rfl, rfl, _, rfl, iteF ?_⟩
    refine ⟨_, rfl, _, rfl, _, rfl, (by show 2 ≤ sizeLine; decide), fun t1 h1 => ?_⟩
    have n1 := same_new (o := .tup [vp, .int h]) h1
    refine ⟨(c, h), (c, h), cLi.keep (s5.trans n1).ts rx, cLi_mk (x := (c, h)) upd_same (cPa.keep n1.ts rp), _, rfl, ?_⟩
    rw [decide_eq_true (show ((c, h) : Li) = (c, h) from rfl)]
    refine iteF ?_
    refine ⟨_, rfl, _, rfl, c, sl, sus, _, cPa.keep n1.ts rp, rfl, .inl (SqL.of (n1 _ _ hsl5)), pp psus (fun _ _ z => cPa.keep n1.ts z), _, rfl, ?_⟩
    refine ite2 (fun z => absurd (by simpa only [decide_eq_true_eq] using z) hnw1.1) (fun _ => ?_)
    have s6 := s5.trans n1
    have hsl6 := n1 _ _ hsl5
    have htd6 := n1 _ _ htd5
    have rp6 := cPa.keep n1.ts rp
    have rva6 := cPa.keep n1.ts rva'
    have psus6 := pp psus fun _ _ z => cPa.keep n1.ts z
    generalize (upd H5 t1 (HO.tup [vp, .int h])) = H6 at s6 hsl6 htd6 rp6 rva6 psus6 ⊢
    have lsu := psus6.len
    refine ⟨_, rfl, .inl ⟨rfl, sus, SqL.of hsl6⟩, _, rfl, sl, sus, vp, rfl, rfl, hsl6, Nat.lt_of_le_of_lt (m := 200) (by rw [← lsu, List.length_append, List.length_map, List.length_take]; omega) (by decide), ?_⟩
    have ts := ts_lst (ys := sus ++ [vp]) hsl6
    have s7 : Same H' (upd H6 sl (.lst (sus ++ [vp]))) := fun b o z => by
      have n : b ≠ sl := ne_of_none z hsl
      rw [upd_ne n]
      exact s6 b o z
    have hL7 := hL.keep L.ne s7
    obtain ⟨dx7, hl7⟩ := hL7.ins
    refine ⟨_, rfl, ?_⟩
    refine ⟨_, rfl, l, dx7, _, rfl, hl7, lp_no (by decide +kernel), _, rfl, l, pl, ps, _, y, rfl, hL7, by omega, cPa.keep ts rva6, fun u8 H8 s8 r8 => ?_⟩
    have et : cs.take (i + 1) = cs.take i ++ [c] := take_at ec
    refine ⟨s7.trans s8, s8 _ _ (ts _ _ htd6), _, _, _, y, sus ++ [vp], rfl, cPa.keep (ts.trans s8.ts) rva6, r8, s8 _ _ upd_same, ?_, hch2, ?_⟩
    · rw [et, ← List.append_assoc]
      exact (pp psus6 fun _ _ z => cPa.keep (ts.trans s8.ts) z).app (.cons (cPa.keep (ts.trans s8.ts) rp6) .nil)
    · rw [et, ← List.append_assoc]
      exact hnw1.2
  · rintro σ H5 ⟨s5, htd5, vp, va, x7, p1, sus, rfl, rp, rva, hsl5, psus, hch1, hnw1⟩
    rw [← lzd, lzc, List.drop_length] at hch1
    rw [← lzd, lzc, List.take_length] at psus
    have e : a = p1 := hch1
    subst e
    refine ⟨_, rfl, _, rfl, (by show 2 ≤ sizeLine; decide), fun r hr0 => ?_⟩
    have n1 := same_new (o := .tup [vp, .ref sl]) hr0
    exact q r vp sl sus _ (s5.trans n1) upd_same (cPa.keep n1.ts rp) (n1 _ _ hsl5) (pp psus fun _ _ z => cPa.keep n1.ts z)
end
end K61

set_option maxHeartbeats 4000000
namespace K61
open PySem L2 Lo
section
variable {P : Program} {w : World} {K : PySem.W.Frag} {mg : Str → Option Value} {base : Heap} {f CL : Addr} {fd : FuncData} {C : Kd → Addr}
/-! ### the law's locks, the law's paths -/
def spLocks61 (C : Kd → Addr) (CL : Addr) (K : PySem.W.Frag) : Sp := fun vs H Q _ => ∃ nl nus names sl cs, vs = [.ref nl, .ref sl] ∧ H nl = some (.lst nus) ∧ Paired (cPa.rp K H) names nus ∧ names.length = 4 ∧ H sl = some (.lst ((cs : List Int).map V.int)) ∧ nl ≠ sl ∧ cs.length ≤ 63 ∧
  ∀ l pl ps H', Same H H' → LS C CL K H' l pl ps → ps.length ≤ 100 → Q (.ref l) H'
theorem ok_locks61 (F : Fun K "_law_locks" "_law_locks" s__law_locks f fd) (T : TxK K C) (L : TxL K C CL) {fLI : Addr} {dLI : FuncData} (ML : Mk K CL fLI) (mgL : mg "Locks" = some (.ref CL))
    (GLI : FnOk P w K mg base CX0 1 fLI dLI ["self"] (spLsInit CL)) (bLI : Binds K dLI ["self"] []) (GO : GF P w K mg base CX0 3 "lock_of" ["told"] (spLockOf C K)) (GT : GF P w K mg base CX0 1 "_law_told" ["_law_cell"] (spT61 K))
    (GK : GM P w K mg base CX0 5 CL "ask" ["self", "p", "lock"] (spAsk C CL K)) (GW : GM P w K mg base CX0 5 CL "waiting" ["self"] (spTolds C CL K waitL)) (GF' : GM P w K mg base CX0 5 CL "free" ["self", "p"] (spFree C CL K)) :
    FnOk P w K mg base CX0 6 f fd ["_law_names_here", "_law_cells"] (spLocks61 C CL K) := by
  refine F.ok sc__law_locks (fun vs H Q E h => ?_) (fun cdv A outer s H vs Q E hr h => ?_)
  · obtain ⟨nl, nus, names, sl, cs, rfl, _⟩ := h
    rfl
  obtain ⟨nl, nus, names, sl, cs, rfl, hnl, pnl, hn4, hsl, nns, hcs, q⟩ := h
  have nd := sc__law_locks.nd
  have hr1 : Room (1 + 1) _ := hr.mono (by decide)
  refine ⟨_, pss_cons (ps_set (i := 2) nd rfl (Or.inl rfl) (pe_make0 ML GLI hr1 rfl mgL bLI .nil pass0))
    (pss_cons (ps_for PassesOwn.never rfl (pi_list (pv 1)) (pg_name (i := 3) nd rfl (Or.inl rfl))
      (pss_cons (ps_set (i := 4) nd rfl (Or.inl rfl) (pe_ix (r := rIxL K) ix_list (pv 0) (pe_op op_mod (pv 3) pe_int) (fun _ _ => rfl)))
      (pss_one (ps_if (pt_cmpR op_eq (pe_op op_mod (pe_op op_fdiv (pv 3) pe_int) pe_int) pe_int (nomark _))
        (pss_one (ps_expr (pm GF' (pv 2) L.cl hr (pa_cons (pv 4) pa_nil))))
        (pss_one (ps_if (pt_cmpR (op_notinC cPa (hun hr)) (pv 4) (pe_lcM sb__law_locks_0 (fun _ _ _ _ => pg_pairK K rfl sb__law_locks_0.nd rfl rfl rfl rfl) rfl (pi_list (pm0 GW (pv 2) L.cl hr)) (fun _ _ _ _ => pts_nil) (fun _ _ _ _ => pv 0)) rfl)
          (pss_one (ps_expr (pm GK (pv 2) L.cl hr (pa_cons (pv 4) (pa_cons (pc GO hr (pa_cons (pc GT hr (pa_cons (pe_op op_fdiv (pv 3) pe_int) pa_nil)) pa_nil)) pa_nil))))) pss_nil))))))
    (pss_one (ps_ret (pv 2)))), ?_⟩
  intro l dl nl0 ndl nel
  refine ⟨l, dl, rfl, upd_same, fun pl H1 npl hpl hl1 kp1 => ⟨rfl, ?_⟩⟩
  have s1 : Same H H1 := new_locks nl0 ndl kp1
  have hp0 : H pl = none := by
    cases e : H pl with
    | none => rfl
    | some o =>
      rw [upd_ne (ne_of_none e nl0), upd_ne (ne_of_none e ndl), e] at npl
      cases npl
  have hs0 : HS C CL K l pl [] [(nl, nus)] H1 := HS.old (own := []) (s1 _ _ hnl) (fun z => by rw [z, hp0] at hnl; cases hnl) (by simp) ⟨⟨dl, [], hl1, hpl, .nil⟩, (fun q hq => by cases hq), (fun q hq => by cases hq), List.nodup_nil⟩
  have hs1 : HS C CL K l pl [] [(sl, cs.map V.int), (nl, nus)] H1 := HS.old (s1 _ _ hsl) (fun z => by rw [z, hp0] at hsl; cases hsl) (by simpa using fun z => nns z.symm) hs0
  refine ⟨_, rfl, sl, rfl, ⟨_, SqL.of (s1 _ _ hsl)⟩, ?_⟩
  refine for_list (xs := cs.map V.int) (fun i σ H' => ∃ x3 x4 pl ps, σ = [some (.ref nl), some (.ref sl), some (.ref l), x3, x4] ∧ HS C CL K l pl ps [(sl, cs.map V.int), (nl, nus)] H' ∧ Paired (cPa.rp K H') names nus ∧ Same H H' ∧ H pl = none ∧ ps.length ≤ i)
    ⟨none, none, pl, [], rfl, hs1, pp pnl (fun _ _ z => cPa.keep s1.ts z), s1, hp0, Nat.le_refl _⟩ (fun i σ H' _ z => ?_) ?_ ?_
  · obtain ⟨_, _, _, _, _, st, _⟩ := z
    exact SqL.of st.at0
  · rintro i x σ H3 hx ⟨x3, x4, pl, ps, rfl, st, pn3, sH, hp0, hps⟩
    obtain ⟨c, rfl⟩ := int_at hx
    have hi : i < (cs.map V.int).length := (List.getElem?_eq_some_iff.mp hx).1
    rw [List.length_map] at hi
    have hz1 : ps.length ≤ 1000 := by omega
    obtain ⟨dx, hl⟩ := st.1.ins
    obtain ⟨p, vp, enp, evp, rvp⟩ := pair_at (i := c % 4) pn3 (Int.emod_nonneg _ (by decide)) (by rw [hn4]; exact Int.emod_lt_of_pos _ (by decide))
    refine ⟨_, rfl, _, rfl, _, _, rfl, rfl, (by show (0 : Int) < 4; decide), nl, _, _, _, rfl, rfl, SqL.of st.at1, evp, ?_⟩
    refine ⟨_, rfl, _, _, rfl, rfl, ⟨by decide, by decide⟩, _, _, rfl, rfl, (by show (0 : Int) < 7; decide), rfl, _, rfl, ?_⟩
    refine ite2 (fun _ => ?_) (fun _ => ?_)
    · refine ⟨_, rfl, l, dx, _, rfl, hl, lp_no (by decide +kernel), _, rfl, l, pl, ps, vp, p, rfl, st.1, hz1, rvp, fun q1 pl' H4 us1 ls4 np4 kp4 nq1 hq1 pq1 => ?_⟩
      have fs4 := st.fsF kp4
      have l1 := freePs_len ps p
      exact ⟨_, _, pl', _, rfl, st.freed kp4 ls4 np4, pp pn3 (fun _ _ z => cPa.keep fs4.ts z), fun b o z => kp4 b o (ne_of_none z nl0) (sH b o z), sH.free np4, by omega⟩
    · refine ⟨_, rfl, _, rfl, l, dx, _, rfl, hl, lp_no (by decide +kernel), l, pl, ps, rfl, st.1, hz1, fun q1 H4 us1 s4 nq1 hq1 pq1 => ⟨q1, rfl, ⟨_, SqL.of hq1⟩, ?_⟩⟩
      refine lc_fm2 (c := cPa) (c2 := cLk) (d := cPa) pq1 (SqL.of hq1) (small (by rw [← pq1.len]; exact Nat.le_trans (waitL_len ps) hz1)) (fun _ => true) (fun x => x.1) (fun x u1 u2 H5 Q5 _ r1 r2 s5 hQ => hQ _ (Same.refl _)) (fun x u1 u2 H5 Q5 _ r1 r2 s5 hQ => ⟨_, rfl, hQ _ _ (Same.refl _) r1⟩) ?_
      intro zs H5 s5 pz wl hwl
      rw [filt_true] at pz
      have s6 := same_new (o := .lst zs) hwl
      have s36 := s4.trans (s5.trans s6)
      refine ⟨p, wl, zs, (waitL ps).map (·.1), cPa.keep s36.ts rvp, rfl, .inl (SqL.of upd_same), pp pz (fun _ _ z => cPa.keep s6.ts z), _, rfl, ?_⟩
      have st6 := st.keep L.ne s36
      generalize (upd H5 wl (HO.lst zs)) = H6 at s36 st6 ⊢
      refine ite2 (fun c1 => ?_) (fun _ => ?_)
      · have hw : p ∉ (waitL ps).map (·.1) := by simpa only [Bool.not_eq_true', decide_eq_false_iff_not] using c1
        refine ⟨_, rfl, l, dx, _, rfl, s36 _ _ hl, lp_no (by decide +kernel), _, rfl, _, rfl, _, _, rfl, rfl, ⟨by decide, by decide⟩, _, rfl, fun vt H7 k s7 rt => ?_⟩
        have s37 := s36.trans s7
        refine ⟨_, k, rfl, rt, fun u H8 s8 lo => ?_⟩
        have s38 := s37.trans s8
        have st8 := (st6.keep L.ne s7).keep L.ne s8
        refine ⟨l, pl, ps, vp, p, u, k, rfl, st8.1, by omega, cPa.keep s38.ts rvp, lo, wplace_iff.mpr hw, fun H9 ls9 kp9 => ?_⟩
        have fs9 := st8.fsA kp9
        have l1 := askPs_len ps p k
        exact ⟨_, _, pl, _, rfl, st8.asked kp9 ls9, pp pn3 (fun _ _ z => cPa.keep fs9.ts (cPa.keep s38.ts z)), fun b o z => kp9 b o (ne_of_none z hp0) (s38 b o (sH b o z)), hp0, by omega⟩
      · exact ⟨_, _, pl, _, rfl, st6, pp pn3 (fun _ _ z => cPa.keep s36.ts z), sH.trans s36, hp0, by omega⟩
  · rintro σ H3 ⟨x3, x4, pl, ps, rfl, st, pn3, sH, hp0, hps⟩
    rw [List.length_map] at hps
    exact ⟨_, rfl, q l pl ps H3 sH st.1 (by omega)⟩
def spPath61 (K : PySem.W.Frag) : Sp := fun vs H Q _ => ∃ nl nus names v p h c, vs = [.ref nl, v, .int h, .int c] ∧ H nl = some (.lst nus) ∧ Paired (cPa.rp K H) names nus ∧ names.length = 4 ∧ cPa.rp K H p v ∧
  ∀ t us ls H', Same H H' → H' t = some (.tup us) → Paired (cLi.rp K H') ls us → ls.length ≤ 2 → p ∉ ls.map (·.1) → Q (.ref t) H'
def u61 (K : PySem.W.Frag) : TS := fun D σ H => ∃ nl nus names v p h c l us ls, σ = [some (.ref nl), some v, some (.int h), some (.int c), some (.ref l)] ∧ H nl = some (.lst nus) ∧ Paired (cPa.rp K H) names nus ∧ names.length = 4 ∧ cPa.rp K H p v ∧ H l = some (.lst us) ∧ nl ≠ l ∧ Paired (cLi.rp K H) ls us ∧ ls.length = 1 ∧
  ∀ t us ls H', (∀ b o, b ≠ l → H b = some o → H' b = some o) → H' t = some (.tup us) → Paired (cLi.rp K H') ls us → ls.length ≤ 2 → p ∉ ls.map (·.1) → D.rt (.ref t) H'
def v61 (K : PySem.W.Frag) : TS := fun D σ H => ∃ nl v p h c l us ls, σ = [some (.ref nl), some v, some (.int h), some (.int c), some (.ref l)] ∧ cPa.rp K H p v ∧ H l = some (.lst us) ∧ Paired (cLi.rp K H) ls us ∧ ls.length ≤ 2 ∧
  ∀ t us ls H', Same H H' → H' t = some (.tup us) → Paired (cLi.rp K H') ls us → ls.length ≤ 2 → p ∉ ls.map (·.1) → D.rt (.ref t) H'
theorem ok_path61 (F : Fun K "_law_path" "_law_path" s__law_path f fd) (B : TxB mg) : FnOk P w K mg base CX0 2 f fd ["_law_names_here", "_law_p", "_law_home", "_law_cell"] (spPath61 K) := by
  refine F.ok sc__law_path (fun vs H Q E h => ?_) (fun cdv A outer s H vs Q E hr h => ?_)
  · obtain ⟨nl, nus, names, v, p, h, c, rfl, _⟩ := h
    rfl
  obtain ⟨nl, nus, names, v, p, h, c, rfl, hnl, pnl, hn4, hp, q⟩ := h
  have nd := sc__law_path.nd
  refine ⟨_, pss_cons (ps_set (i := 4) nd rfl (Or.inl rfl) (pe_lst (pa_cons (pe_tup (pa_cons (pe_ix (r := rIxL K) ix_list (pv 0) (pe_op op_mod (pe_op op_fdiv (pv 3) pe_int) pe_int) (fun _ _ => rfl)) (pa_cons (pe_op op_mod (pe_op op_add (pv 2) pe_int) pe_int) pa_nil))) pa_nil)))
    (pss_cons (ps_if (pt_cmpR op_eq (pe_op op_mod (pe_op op_fdiv (pv 3) pe_int) pe_int) pe_int (nomark _))
      (pss_one (ps_set (i := 4) nd rfl (Or.inl rfl) (pe_lst (pa_cons (pe_tup (pa_cons (pe_tup (pa_cons (pv 2) (pa_cons pe_int pa_nil))) (pa_cons (pe_op op_mod (pe_op op_add (pv 2) pe_int) pe_int) pa_nil))) pa_nil)))) pss_nil)
    (pss_weak (u61 K) (pss_cons (ps_if (pt_cmpR op_eq (pe_op op_mod (pe_op op_fdiv (pv 3) pe_int) pe_int) pe_int (nomark _))
      (pss_one (ps_expr (pe_bm PySem.F.plainAttrs_list PySem.F.slot_list_append PySem.F.type_list_append mt_append (pv 4) (pa_cons (pe_tup (pa_cons (pe_ix (r := rIxL K) ix_list (pv 0) (pe_op op_mod (pe_op op_add (pe_op op_add (pe_op op_fdiv (pv 3) pe_int) pe_int) (pe_op op_mod (pe_op op_fdiv (pv 3) pe_int) pe_int)) pe_int) (fun _ _ => rfl)) (pa_cons (pe_op op_mod (pe_op op_add (pv 2) pe_int) pe_int) pa_nil))) pa_nil)))) pss_nil)
    (pss_weak (v61 K) (pss_cons (ps_setLC (j := 4) nd rfl (Or.inl rfl) sb__law_path_0 rfl (pi_list (pv 4)) (fun _ _ _ _ => pts_one (pt_cmpR (op_neCK K cPa (hun hr)) (pe_ix (r := rIxT K) ix_tup (pv 0) pe_int (fun _ _ => rfl)) (pv 1) (nomark _))) (fun _ _ _ _ => pv 0))
    (pss_one (ps_ret (pe_callTy call_tuple_of rfl B.tuple PyProof.Rows.boot_tuple (pa_cons (pe_slice sl_list (pv 4) po_none (po_some (pe_op op_mod (pv 3) pe_int))) pa_nil))))) ?v)) ?u)), ?_⟩
  case v =>
    rintro D σ H1 ⟨nl, v, p, h, c, l, us, ls, rfl, hp, hl, pl, hz, rt⟩
    have lz := pl.len
    refine ⟨_, rfl, l, rfl, ⟨_, SqL.of hl⟩, ?_⟩
    refine lc_fm (c := cLi) (d := cLi) pl (SqL.of hl) (small (by omega)) (fun x => !decide (x.1 = p)) (fun x => x) (fun x u H2 Q _ rx s2 hQ => ?_) (fun x u H2 Q _ rx s2 hQ => ⟨_, rfl, hQ _ _ (Same.refl _) rx⟩) ?_
    · obtain ⟨b, u1, u2, rfl, hb, r1, r2⟩ := rx
      exact ⟨_, rfl, b, _, _, _, rfl, rfl, hb.sq, rfl, _, rfl, x.1, p, r1, cPa.keep s2.ts hp, _, rfl, hQ H2 (Same.refl _)⟩
    intro zs H2 s2 pz wl hwl
    rw [List.map_id'] at pz
    have s3 := same_new (o := .lst zs) hwl
    obtain ⟨m, em⟩ : ∃ m : Nat, c % 3 = (m : Int) := ⟨(c % 3).toNat, (Int.toNat_of_nonneg (Int.emod_nonneg _ (by decide))).symm⟩
    refine ⟨_, rfl, _, rfl, _, _, rfl, rfl, (by show (0 : Int) < 3; decide), _, rfl, wl, zs, rfl, SqL.of upd_same, fun w2 hw2 => ?_⟩
    have s4 := same_new (o := .lst (cutV zs none (some (c % 3)))) hw2
    refine ⟨w2, _, rfl, .inl ⟨SqL.of upd_same, fun t ht => ?_⟩⟩
    have s5 := same_new (o := .tup (cutV zs none (some (c % 3)))) ht
    have s25 := s2.trans (s3.trans (s4.trans s5))
    have pz5 := pp pz fun _ _ z => cLi.keep (s3.trans (s4.trans s5)).ts z
    have lf : (ls.filter fun x => !decide (x.1 = p)).length ≤ ls.length := List.length_filter_le _ _
    have ecut : ∃ j, cutV zs none (some (c % 3)) = zs.take j := ⟨_, by unfold cutV; rw [HT.sIx_none]; rfl⟩
    obtain ⟨j, ej⟩ := ecut
    have pt : Paired (cLi.rp K _) ((ls.filter fun x => !decide (x.1 = p)).take j) (zs.take j) := pr_take j pz5
    refine rt t (zs.take j) ((ls.filter fun x => !decide (x.1 = p)).take j) _ s25 (by rw [← ej]; exact upd_same) pt (by rw [List.length_take]; omega) ?_
    intro hm
    obtain ⟨x, hx, e⟩ := List.mem_map.mp hm
    have := (List.mem_filter.mp (List.mem_of_mem_take hx)).2
    rw [e] at this
    simp at this
  case u =>
    rintro D σ H1 ⟨nl, nus, names, v, p, h, c, l, us, ls, rfl, hnl, pnl, hn4, hp, hl, nll, pl, hz, rt⟩
    have lz := pl.len
    refine ⟨_, rfl, _, _, rfl, rfl, ⟨by decide, by decide⟩, _, _, rfl, rfl, (by show (0 : Int) < 2; decide), rfl, _, rfl, ?_⟩
    refine ite2 (fun _ => ?_) (fun _ => ⟨nl, v, p, h, c, l, us, ls, rfl, hp, hl, pl, by omega, fun t us' ls' H' sm => rt t us' ls' H' fun b o _ z => sm b o z⟩)
    obtain ⟨pn, vn, _, evn, rvn⟩ := pair_at (i := (c / 3 + 1 + c / 72 % 3) % 4) pnl (Int.emod_nonneg _ (by decide)) (by rw [hn4]; exact Int.emod_lt_of_pos _ (by decide))
    refine ⟨_, rfl, .inl ⟨rfl, us, SqL.of hl⟩, ?_⟩
    refine ⟨_, rfl, _, rfl, _, _, rfl, rfl, ⟨by decide, by decide⟩, _, _, rfl, rfl, _, rfl, _, _, rfl, rfl, ⟨by decide, by decide⟩, _, _, rfl, rfl, (by show (0 : Int) < 3; decide), _, _, rfl, rfl, _, _, rfl, rfl, (by show (0 : Int) < 4; decide), nl, _, _, _, rfl, rfl, SqL.of hnl, evn, ?_⟩
    refine ⟨_, rfl, _, _, rfl, rfl, _, _, rfl, rfl, (by show (0 : Int) < 5; decide), (by show 2 ≤ sizeLine; decide), fun t1 h1 => ?_⟩
    have n1 := same_new (o := .tup [vn, .int ((h + 3) % 5)]) h1
    refine ⟨l, us, .ref t1, rfl, rfl, n1 _ _ hl, Nat.lt_of_le_of_lt (m := 5) (by omega) (by decide), ?_⟩
    have ts := ts_lst (ys := us ++ [.ref t1]) (n1 _ _ hl)
    refine ⟨nl, v, p, h, c, l, _, ls ++ [(pn, (h + 3) % 5)], rfl, cPa.keep (n1.ts.trans ts) hp, upd_same, (pp pl fun _ _ z => cLi.keep (n1.ts.trans ts) z).app (.cons (cLi_mk (x := (pn, (h + 3) % 5)) (ts _ _ upd_same) (cPa.keep (n1.ts.trans ts) rvn)) .nil), by rw [List.length_append, hz]; exact Nat.le_refl 2, fun t us' ls' H' sm => rt t us' ls' H' fun b o nb z => sm b o ((upd_ne nb).trans (n1 b o z))⟩
  obtain ⟨pn, vn, _, evn, rvn⟩ := pair_at (i := c / 3 % 4) pnl (Int.emod_nonneg _ (by decide)) (by rw [hn4]; exact Int.emod_lt_of_pos _ (by decide))
  refine ⟨_, rfl, _, rfl, _, _, rfl, rfl, ⟨by decide, by decide⟩, _, _, rfl, rfl, (by show (0 : Int) < 4; decide), nl, _, _, _, rfl, rfl, SqL.of hnl, evn, ?_⟩
  refine ⟨_, rfl, _, _, rfl, rfl, _, _, rfl, rfl, (by show (0 : Int) < 5; decide), (by show 2 ≤ sizeLine; decide), fun t1 h1 => ⟨(by show 1 ≤ sizeLine; decide), fun l hl0 => ?_⟩⟩
  have n1 := same_new (o := .tup [vn, .int ((h + 1) % 5)]) h1
  have n2 := same_new (o := .lst [.ref t1]) hl0
  have n12 := n1.trans n2
  have fin : ∀ (H2 : Hp) (l2 : Addr) (us : List V) (ls : List Li), Same H H2 → H l2 = none → H2 l2 = some (.lst us) → Paired (cLi.rp K H2) ls us → ls.length = 1 → u61 K { nx := fun _ H' => Q .non H', rt := Q } [some (.ref nl), some v, some (.int h), some (.int c), some (.ref l2)] H2 := fun H2 l2 us ls s2 n0 h2 p2 z2 =>
    ⟨nl, nus, names, v, p, h, c, l2, us, ls, rfl, s2 _ _ hnl, pp pnl (fun _ _ z => cPa.keep s2.ts z), hn4, cPa.keep s2.ts hp, h2, ne_of_none hnl n0, p2, z2, fun t us' ls' H' kp ht pt lt np => q t us' ls' H' (fun b o z => kp b o (ne_of_none z n0) (s2 b o z)) ht pt lt np⟩
  refine ⟨_, rfl, _, _, rfl, rfl, ⟨by decide, by decide⟩, _, _, rfl, rfl, (by show (0 : Int) < 3; decide), rfl, _, rfl, ?_⟩
  refine ite2 (fun _ => ?_) (fun _ => fin _ l [.ref t1] [(pn, (h + 1) % 5)] n12 (n1.free hl0) upd_same (.cons (cLi_mk (x := (pn, (h + 1) % 5)) (n2 _ _ upd_same) (cPa.keep n12.ts rvn)) .nil) rfl)
  refine ⟨_, rfl, (by show 2 ≤ sizeLine; decide), fun t2 h2 => ?_⟩
  have n3 := same_new (o := .tup [.int h, .int 19]) h2
  refine ⟨_, rfl, _, _, rfl, rfl, _, _, rfl, rfl, (by show (0 : Int) < 5; decide), (by show 2 ≤ sizeLine; decide), fun t3 h3 => ⟨(by show 1 ≤ sizeLine; decide), fun l2 hl2 => ?_⟩⟩
  have n4 := same_new (o := .tup [.ref t2, .int ((h + 2) % 5)]) h3
  have n5 := same_new (o := .lst [.ref t3]) hl2
  refine fin _ l2 [.ref t3] [((h, 19), (h + 2) % 5)] (n12.trans (n3.trans (n4.trans n5))) ((n12.trans (n3.trans n4)).free hl2) upd_same (.cons (cLi_mk (x := ((h, 19), (h + 2) % 5)) (n5 _ _ upd_same) (cPa_mk (k := (h, 19)) (n5 _ _ (n4 _ _ upd_same)))) .nil) rfl
end
end K61

set_option maxHeartbeats 4000000
namespace K61
open PySem L2 Lo
section
variable {P : Program} {w : World} {K : PySem.W.Frag} {mg : Str → Option Value} {base : Heap} {f CL : Addr} {fd : FuncData} {C : Kd → Addr}
/-! ### what is told of a chase is right -/
def spRight61 (C : Kd → Addr) (CL : Addr) (K : PySem.W.Frag) (Pt : Addr) : Sp := fun vs H Q _ => ∃ l pl ps h v p t us ls, vs = [.ref l, .int h, v, .ref t] ∧ LS C CL K H l pl ps ∧ ps.length ≤ 100 ∧ cPa.rp K H p v ∧ H t = some (.tup us) ∧ Paired (cLi.rp K H) ls us ∧ ls.length ≤ 2 ∧ p ∉ ls.map (·.1) ∧ Tb H Pt vPos vQ ∧
  ∀ H', SameX H H' → Tb H' Pt vPos vQ → Q (.bl true) H'
theorem eq3 {H : Hp} {r r2 tp : Addr} {w : Str} {x x2 : V} (h1 : H r = some (.tup [.str w, x, .ref tp])) (h2 : H r2 = some (.tup [.str w, x2, .ref tp])) (hx : EqIs K 2 H x x2 true) : RcIs K 3 H (.ref r) (.ref r2) true :=
  (eqr_tup (n := 2) (SqT.of h1) (SqT.of h2) (.cons (eqr_str 2 w) (.cons hx (.cons (eqr_same 2) .nil)))).1
theorem eqPa {H : Hp} {a : Pa} {x y : V} (h1 : cPa.rp K H a x) (h2 : cPa.rp K H a y) : EqIs K 2 H x y true := by
  have z := (cPa.eq h1 h2).mono (show cPa.n ≤ 2 by decide)
  rw [decide_eq_true rfl] at z
  exact z
theorem ok_right61 {Pt : Addr} (F : Fun K "_law_right" "_law_right" s__law_right f fd) (B : TxB mg) (L : TxL K C CL) (GC : GF P w K mg base CX0 6 "chased" ["locks", "home", "p", "path"] (spChased C CL K Pt))
    (GL : GF P w K mg base CX0 6 "_law_links" ["_law_locks_here", "_law_home", "_law_p", "_law_path_here", "_law_found"] (spLinks C CL K)) (GV : GF P w K mg base CX0 1 "_law_victim" ["_law_path_here"] (spLVict K)) (GB : GM P w K mg base CX0 5 CL "behind" ["self", "p"] (spBehindO C CL K)) :
    FnOk P w K mg base CX0 7 f fd ["_law_locks_here", "_law_home", "_law_p", "_law_path_here"] (spRight61 C CL K Pt) := by
  refine F.ok sc__law_right (fun vs H Q E h => ?_) (fun cdv A outer s H vs Q E hr h => ?_)
  · obtain ⟨l, pl, ps, h, v, p, t, us, ls, rfl, _⟩ := h
    rfl
  obtain ⟨l, pl, ps, h, v, p, t, us, ls, rfl, hL, hz, hp, ht, pls, hls, hpn, tb, q⟩ := h
  have nd := sc__law_right.nd
  refine ⟨_, pss_cons (ps_set (i := 4) nd rfl (Or.inl rfl) (pc GC hr (pa_cons (pv 0) (pa_cons (pv 1) (pa_cons (pv 2) (pa_cons (pv 3) pa_nil))))))
    (pss_cons (ps_if (PW.pt (pw_or (pt_not (pt_val (pe_callB call_isinstT rfl B.isi PyProof.Rows.boot_isinstance (pa_cons (pv 4) (pa_cons (pe_bltn (v := .ty "tuple") rfl B.tuple PyProof.Rows.boot_tuple rfl) pa_nil)))))
      (pw_or (pt_cmpR op_ne (pe_callB call_len_seq rfl B.len PySem.boot_len (pa_cons (pv 4) pa_nil)) pe_int (nomark _))
      (pw_or1 (pt_not (pt_val (pe_callB call_isinstT rfl B.isi PyProof.Rows.boot_isinstance (pa_cons (pe_ix (r := rIxT K) ix_tup (pv 4) pe_int (fun _ _ => rfl)) (pa_cons (pe_bltn (v := .ty "tuple") rfl B.tuple PyProof.Rows.boot_tuple rfl) pa_nil)))))))) ) pss_never pss_nil)
    (pss_cons (ps_set (i := 5) nd rfl (Or.inl rfl) (pc GL hr (pa_cons (pv 0) (pa_cons (pv 1) (pa_cons (pv 2) (pa_cons (pv 3) (pa_cons (pe_ix (r := rIxT K) ix_tup (pv 4) pe_int (fun _ _ => rfl)) pa_nil)))))))
    (pss_cons (ps_if (pt_cmpR op_isN (pv 5) pe_non (nomark _)) pss_never pss_nil)
    (pss_cons (ps_asg (pv 5) (pg_tup rfl (pgs_cons (pg_name (i := 6) nd rfl (Or.inl rfl)) (pgs_cons (pg_name (i := 7) nd rfl (Or.inl rfl)) pgs_nil))))
    (pss_cons (ps_if (pt_cmpR op_eq (pe_callB call_len_seq rfl B.len PySem.boot_len (pa_cons (pe_ix (r := rIxT K) ix_tup (pv 4) pe_int (fun _ _ => rfl)) pa_nil)) (pe_callB call_len_seq rfl B.len PySem.boot_len (pa_cons (pv 3) pa_nil)) (nomark _))
      (pss_one (ps_ret (pe_and (pe_cmpR op_isN (pm GB (pv 0) L.cl hr (pa_cons (pv 2) pa_nil)) pe_non (nomark _)) (pe_one (pe_cmpR (op_eqR 3 (hun3 hr)) (pv 4) (pe_tup (pa_cons pe_str (pa_cons pe_non (pa_cons (pv 3) pa_nil)))) (nomark _)))))) pss_nil)
    (pss_cons (ps_if (pt_cmpR (op_eqC cPa (hun hr)) (pv 6) (pe_ix (r := rIxL K) ix_list (pv 7) pe_int (fun _ _ => rfl)) (nomark _))
      (pss_one (ps_ret (pe_cmpR (op_eqR 3 (hun3 hr)) (pv 4) (pe_tup (pa_cons pe_str (pa_cons (pc GV hr (pa_cons (pe_ix (r := rIxT K) ix_tup (pv 4) pe_int (fun _ _ => rfl)) pa_nil)) (pa_cons (pe_ix (r := rIxT K) ix_tup (pv 4) pe_int (fun _ _ => rfl)) pa_nil)))) (nomark _)))) pss_nil)
    (pss_cons (ps_if (pt_cmpR (op_inC cPa (hun hr)) (pv 6) (pv 7) rfl)
      (pss_one (ps_ret (pe_cmpR (op_eqR 3 (hun3 hr)) (pv 4) (pe_tup (pa_cons pe_str (pa_cons pe_non (pa_cons (pe_ix (r := rIxT K) ix_tup (pv 4) pe_int (fun _ _ => rfl)) pa_nil)))) (nomark _)))) pss_nil)
    (pss_one (ps_ret (pe_and (pe_cmpR op_isN (pm GB (pv 0) L.cl hr (pa_cons (pv 6) pa_nil)) pe_non (nomark _)) (pe_one (pe_cmpR (op_eqR 3 (hun3 hr)) (pv 4) (pe_tup (pa_cons pe_str (pa_cons (pv 6) (pa_cons (pe_ix (r := rIxT K) ix_tup (pv 4) pe_int (fun _ _ => rfl)) pa_nil)))) (nomark _))))))))))))), ?_⟩
  refine ⟨_, rfl, _, rfl, _, rfl, _, rfl, l, pl, ps, h, v, p, t, us, ls, rfl, hL, hz, hp, ht, pls, hls, hpn, tb, fun r w x tp us' cs a H1 sx1 tb1 hr1 htp pl1 hcl hch hnw hend => ?_⟩
  have hL1 := ls_x L.ne sx1 hL
  have hp1 := cPa.keep sx1.ts hp
  have ht1 : H1 t = some (.tup us) := sx1 _ _ trivial ht
  have pls1 := pp pls fun _ _ z => cLi.keep sx1.ts z
  refine ⟨_, rfl, r, _, rfl, SqT.of hr1, _, rfl, iteF ?_⟩
  refine ⟨_, rfl, r, _, rfl, .inr (SqT.of hr1), rfl, _, rfl, ite2 (fun z => by simp at z) (fun _ => ?_)⟩
  refine ⟨_, rfl, r, _, _, _, rfl, rfl, SqT.of hr1, rfl, tp, _, rfl, SqT.of htp, _, rfl, iteF ?_⟩
  refine ⟨_, rfl, _, rfl, _, rfl, _, rfl, _, rfl, r, _, _, _, rfl, rfl, SqT.of hr1, rfl, l, pl, ps, h, v, p, t, us, ls, tp, us', cs, a, rfl, hL1, hz, hp1, ht1, pls1, hls, htp, pl1, hcl, hch, hnw, fun rr va sl sus H2 s2 hrr ra2 hsl2 psus => ?_⟩
  refine ⟨_, rfl, rfl, _, rfl, iteF ?_⟩
  refine ⟨_, rfl, rr, _, rfl, SqT.of hrr, rfl, va, [.ref sl], rfl, .ref sl, [], rfl, rfl, ?_⟩
  have lz1 := pl1.len
  have lzu := pls.len
  have lzk : (lk h cs).length = cs.length := by
    unfold lk
    rw [List.length_map]
  rw [List.length_append, lzk] at lz1
  have hr2 := s2 _ _ hr1
  have htp2 := s2 _ _ htp
  have ht2 := s2 _ _ ht1
  have sx2 := sx1.trans s2.x
  have tb2 := tb1.keep s2
  have hL2 := hL1.keep L.ne s2
  obtain ⟨dx, hl2⟩ := hL2.ins
  refine ⟨_, rfl, r, _, _, _, rfl, rfl, SqT.of hr2, rfl, tp, _, rfl, .inr (SqT.of htp2), _, rfl, t, _, rfl, .inr (SqT.of ht2), rfl, _, rfl, ?_⟩
  rcases hend with ⟨rfl, eb, rfl, rfl, rfl⟩ | ⟨hne, f0, ef0, hend⟩
  · refine ite2 (fun _ => ?_) (fun z => absurd (decide_eq_true (congrArg V.int (by rw [← lz1, ← lzu]; rfl))) z)
    refine ⟨_, rfl, l, dx, _, rfl, hl2, lp_no (by decide +kernel), _, rfl, l, pl, ps, v, p, rfl, hL2, by omega, cPa.keep s2.ts hp1, fun ub H3 s3 rb => ?_⟩
    rw [eb] at rb
    have rb' : ub = .non := rb
    subst rb'
    refine ⟨rfl, _, rfl, iteT ?_⟩
    refine ⟨_, rfl, _, rfl, (by show 3 ≤ sizeLine; decide), fun r2 hr0 => ?_⟩
    have n1 := same_new (o := .tup [.str "none", .non, .ref tp]) hr0
    have s24 := s3.trans n1
    exact ⟨eq3 (s24 _ _ hr2) upd_same (eqr_non 2), q _ (sx2.trans s24.x) (tb2.keep s24)⟩
  · have hcp : 0 < cs.length := List.length_pos_iff.mpr hne
    refine ite2 (fun z => ?_) (fun _ => ?_)
    · exfalso
      have e := V.int.inj (of_decide_eq_true z)
      omega
    have nm : (ls ++ lk h cs).map (·.1) = ls.map (·.1) ++ cs := by rw [List.map_append, lk_names]
    have lne : ls ++ lk h cs ≠ [] := fun z => by
      rw [z] at ef0
      cases ef0
    have es0 : (ls.map (·.1) ++ cs)[0]? = some f0.1 := by
      rw [← nm, List.getElem?_map, ef0]
      rfl
    obtain ⟨u0, eu0, ru0⟩ := psus.get1 es0
    refine ⟨_, rfl, _, rfl, sl, _, _, _, rfl, rfl, SqL.of hsl2, atI_nat (j := 0) eu0, a, f0.1, ra2, ru0, _, rfl, ?_⟩
    by_cases e1 : a = f0.1
    · rw [decide_eq_true e1]
      refine iteT ?_
      rcases hend with ⟨_, rfl, hx⟩ | ⟨z, _⟩ | ⟨z, _⟩
      · refine ⟨_, rfl, _, rfl, r, _, _, _, rfl, rfl, SqT.of hr2, rfl, tp, us', ls ++ lk h cs, rfl, htp2, pp pl1 (fun _ _ z => cLi.keep s2.ts z), lne, fun uv H3 s3 rv => ?_⟩
        have hr3 := s3 _ _ hr2
        refine ⟨_, rfl, r, _, _, _, rfl, rfl, SqT.of hr3, rfl, (by show 3 ≤ sizeLine; decide), fun r2 hr0 => ?_⟩
        have n1 := same_new (o := .tup [.str "ring", uv, .ref tp]) hr0
        have s24 := s3.trans n1
        exact ⟨eq3 (n1 _ _ hr3) upd_same (eqPa (cPa.keep (s2.trans s24).ts hx) (cPa.keep n1.ts rv)), q _ (sx2.trans s24.x) (tb2.keep s24)⟩
      · exact absurd e1 z
      · exact absurd (by rw [nm, e1]; exact List.mem_of_getElem? es0) z
    rw [decide_eq_false e1]
    refine iteF ?_
    refine ⟨_, rfl, _, rfl, a, sl, sus, _, ra2, rfl, .inl (SqL.of hsl2), psus, _, rfl, ?_⟩
    rcases hend with ⟨z, _⟩ | ⟨_, hin, rfl, rfl⟩ | ⟨hnin, eb, rfl, hx⟩
    · exact absurd z e1
    · rw [nm] at hin
      refine ite2 (fun _ => ?_) (fun z => absurd hin (by simpa only [decide_eq_true_eq] using z))
      refine ⟨_, rfl, _, rfl, r, _, _, _, rfl, rfl, SqT.of hr2, rfl, (by show 3 ≤ sizeLine; decide), fun r2 hr0 => ?_⟩
      have n1 := same_new (o := .tup [.str "none", .non, .ref tp]) hr0
      exact ⟨eq3 (n1 _ _ hr2) upd_same (eqr_non 2), q _ (sx2.trans n1.x) (tb2.keep n1)⟩
    · rw [nm] at hnin
      refine ite2 (fun z => absurd (by simpa only [decide_eq_true_eq] using z) hnin) (fun _ => ?_)
      refine ⟨_, rfl, l, dx, _, rfl, hl2, lp_no (by decide +kernel), _, rfl, l, pl, ps, _, a, rfl, hL2, by omega, ra2, fun ub H3 s3 rb => ?_⟩
      rw [eb] at rb
      have rb' : ub = .non := rb
      subst rb'
      refine ⟨rfl, _, rfl, iteT ?_⟩
      have hr3 := s3 _ _ hr2
      refine ⟨_, rfl, _, rfl, _, rfl, r, _, _, _, rfl, rfl, SqT.of hr3, rfl, (by show 3 ≤ sizeLine; decide), fun r2 hr0 => ?_⟩
      have n1 := same_new (o := .tup [.str "seek", va, .ref tp]) hr0
      have s24 := s3.trans n1
      exact ⟨eq3 (n1 _ _ hr3) upd_same (eqPa (cPa.keep (s2.trans s24).ts hx) (cPa.keep s24.ts ra2)), q _ (sx2.trans s24.x) (tb2.keep s24)⟩
end
end K61

set_option maxHeartbeats 4000000
namespace K61
open PySem L2 Lo
section
variable {P : Program} {w : World} {K : PySem.W.Frag} {mg : Str → Option Value} {base : Heap} {f CL : Addr} {fd : FuncData} {C : Kd → Addr}
/-! ### the law -/
def spLawT (K : PySem.W.Frag) (Pt : Addr) : Sp := fun vs H Q _ => ∃ a ns, vs = [.ref a] ∧ SqL K H a ((ns : List Int).map V.int) ∧ ns.length ≤ 63 ∧ H Pt = some (.tbl #[]) ∧ ∀ H', Q (.bl true) H'
theorem sx_l {H H' : Hp} {b : Addr} {xs : List V} (e : SameX H H') (h : H b = some (.lst xs)) : H' b = some (.lst xs) := e _ _ trivial h
theorem ok_law {Pt : Addr} (F : Fun K "law" "law" s_law f fd) (B : TxB mg) (L : TxL K C CL) (GA : GF P w K mg base CX0 1 "_law_cell_at" ["_law_script", "_law_k"] (spCell K)) (GN : GF P w K mg base CX0 1 "_law_names" ["_law_cell"] (spN4 K))
    (GLo : GF P w K mg base CX0 6 "_law_locks" ["_law_names_here", "_law_cells"] (spLocks61 C CL K)) (GP : GF P w K mg base CX0 2 "_law_path" ["_law_names_here", "_law_p", "_law_home", "_law_cell"] (spPath61 K))
    (GR : GF P w K mg base CX0 7 "_law_right" ["_law_locks_here", "_law_home", "_law_p", "_law_path_here"] (spRight61 C CL K Pt))
    (GH : GM P w K mg base CX0 5 CL "held" ["self"] (spTolds C CL K heldL)) (GW : GM P w K mg base CX0 5 CL "waiting" ["self"] (spTolds C CL K waitL)) : FnOk P w K mg base CX0 8 f fd ["_law_script"] (spLawT K Pt) := by
  refine F.ok sc_law (fun vs H Q E h => ?_) (fun cdv A outer s H vs Q E hr h => ?_)
  · obtain ⟨a, ns, rfl, _⟩ := h
    rfl
  obtain ⟨a, ns, rfl, hS, hl, hP, q⟩ := h
  have nd := sc_law.nd
  refine ⟨_, pss_cons (ps_set (i := 1) nd rfl (Or.inl rfl) (pc GN hr (pa_cons (pc GA hr (pa_cons (pv 0) (pa_cons pe_int pa_nil))) pa_nil)))
    (pss_cons (ps_set (i := 2) nd rfl (Or.inl rfl) (pe_op op_mod (pc GA hr (pa_cons (pv 0) (pa_cons pe_int pa_nil))) pe_int))
    (pss_cons (ps_set (i := 3) nd rfl (Or.inl rfl) (pc GLo hr (pa_cons (pv 1) (pa_cons (pe_slice sl_list (pv 0) (po_some pe_int) (po_some pe_int)) pa_nil))))
    (pss_cons (ps_set (i := 4) nd rfl (Or.inl rfl) (pm0 GH (pv 3) L.cl hr))
    (pss_cons (ps_set (i := 5) nd rfl (Or.inl rfl) (pm0 GW (pv 3) L.cl hr))
    (pss_cons (ps_for PassesOwn.never rfl (pi_range1 rfl B.range (pa_cons pe_int pa_nil)) (pg_name (i := 6) nd rfl (Or.inl rfl))
      (pss_cons (ps_set (i := 7) nd rfl (Or.inl rfl) (pc GP hr (pa_cons (pv 1) (pa_cons (pe_ix (r := rIxL K) ix_list (pv 1) (pv 6) (fun _ _ => rfl)) (pa_cons (pv 2) (pa_cons (pe_op op_add (pe_op op_fdiv (pc GA hr (pa_cons (pv 0) (pa_cons pe_int pa_nil))) pe_int) (pv 6)) pa_nil))))))
      (pss_one (ps_if (PW.pt (pw_or (pt_not (pt_val (pc GR hr (pa_cons (pv 3) (pa_cons (pv 2) (pa_cons (pe_ix (r := rIxL K) ix_list (pv 1) (pv 6) (fun _ _ => rfl)) (pa_cons (pv 7) pa_nil)))))))
        (pw_or1 (pt_not (pt_val (pc GR hr (pa_cons (pv 3) (pa_cons (pv 2) (pa_cons (pe_ix (r := rIxL K) ix_list (pv 1) (pv 6) (fun _ _ => rfl)) (pa_cons (pe_tup pa_nil) pa_nil)))))))))) pss_never pss_nil))))
    (pss_one (ps_ret (pe_and (pe_cmpR (op_eqL cPr (hun hr)) (pm0 GH (pv 3) L.cl hr) (pv 4) (nomark _)) (pe_one (pe_cmpR (op_eqL cPr (hun hr)) (pm0 GW (pv 3) L.cl hr) (pv 5) (nomark _))))))))))), ?_⟩
  refine ⟨_, rfl, a, ns, 0, rfl, hS, _, rfl, fun nl H1 nus names s1 n1 hnl pnl hn4 => ?_⟩
  have hS1 := s1.seq hS
  refine ⟨_, rfl, a, ns, 1, rfl, hS1, _, _, rfl, rfl, (by show (0 : Int) < 5; decide), ?_⟩
  refine ⟨_, rfl, _, rfl, _, rfl, _, rfl, a, _, rfl, hS1, fun sl hsl => ?_⟩
  obtain ⟨cs, ecs, lcs⟩ := cut_ints ns (some 2) (some 18)
  rw [ecs]
  have s2 := same_new (o := .lst (cs.map V.int)) hsl
  refine ⟨nl, nus, names, sl, cs, rfl, s2 _ _ hnl, pp pnl (fun _ _ z => cPa.keep s2.ts z), hn4, upd_same, ne_of_none hnl hsl, by omega, fun l pl ps H2 s3 hL2 hps => ?_⟩
  have s13 := s1.trans (s2.trans s3)
  have s23 := s2.trans s3
  obtain ⟨dx, hl2⟩ := hL2.ins
  refine ⟨_, rfl, l, dx, _, rfl, hl2, lp_no (by decide +kernel), l, pl, ps, rfl, hL2, by omega, fun q1 H3 us1 s4 nq1 hq1 pq1 => ?_⟩
  have hL3 := hL2.keep L.ne s4
  refine ⟨_, rfl, l, dx, _, rfl, s4 _ _ hl2, lp_no (by decide +kernel), l, pl, ps, rfl, hL3, by omega, fun q2 H4 us2 s5 nq2 hq2 pq2 => ?_⟩
  have s14 := s13.trans (s4.trans s5)
  have s24 := s23.trans (s4.trans s5)
  have hL4 := hL3.keep L.ne s5
  have hnl4 := s24 _ _ hnl
  have pnl4 := pp pnl fun _ _ z => cPa.keep s24.ts z
  have hS4 := s14.seq hS
  have tb4 : Tb H4 Pt vPos vQ := .inl (s14 _ _ hP)
  have hq14 := s5 _ _ hq1
  have pq14 := pp pq1 fun _ _ z => cPr.keep s5.ts z
  refine ⟨(4 : Int), rfl, by decide, by decide +kernel, ?_⟩
  refine for_range (n := 4) (fun i σ H' => SameX H4 H' ∧ Tb H' Pt vPos vQ ∧ ∃ x6 x7, σ = [some (.ref a), some (.ref nl), some (.int (cellAt ns 1 % 5)), some (.ref l), some (.ref q1), some (.ref q2), x6, x7]) ⟨fun _ _ _ z => z, tb4, none, none, rfl⟩ ?_ ?_
  · rintro i σ H5 hi ⟨sx5, tb5, x6, x7, rfl⟩
    rw [Int.zero_add]
    have hi' : i < names.length := by omega
    have ei := List.getElem?_eq_getElem hi'
    generalize names[i] = x at ei
    have pnl5 := pp pnl4 fun _ _ z => cPa.keep sx5.ts z
    obtain ⟨vx, evx, rvx⟩ := pnl5.get1 ei
    have hnl5 := sx_l sx5 hnl4
    refine ⟨_, rfl, _, rfl, _, rfl, nl, _, _, _, rfl, rfl, SqL.of hnl5, atI_nat evx, _, rfl, _, rfl, a, ns, 1, rfl, sx5.seq hS4, _, _, rfl, rfl, ⟨by decide, by decide⟩, _, rfl, _, _, rfl, rfl, nl, nus, names, vx, x, _, _, rfl, hnl5, pnl5, hn4, rvx, fun t us ls H6 s6 ht6 pl6 hz6 hn6 => ?_⟩
    have sx6 := sx5.trans s6.x
    have hL6 := ls_x L.ne sx6 hL4
    refine ⟨_, rfl, _, rfl, _, rfl, _, rfl, nl, _, _, _, rfl, rfl, SqL.of (s6 _ _ hnl5), atI_nat evx, _, rfl, l, pl, ps, _, vx, x, t, us, ls, rfl, hL6, hps, cPa.keep s6.ts rvx, ht6, pl6, hz6, hn6, tb5.keep s6, fun H7 sx7 tb7 => ⟨_, rfl, iteF ?_⟩⟩
    have sx47 := sx6.trans sx7
    have sx57 := s6.x.trans sx7
    refine ⟨_, rfl, _, rfl, _, rfl, _, rfl, nl, _, _, _, rfl, rfl, SqL.of (sx_l sx57 hnl5), atI_nat evx, (by show 0 ≤ sizeLine; decide), fun t8 ht8 => ?_⟩
    have n8 := same_new (o := .tup []) ht8
    refine ⟨l, pl, ps, _, vx, x, t8, [], [], rfl, ls_x L.ne (sx47.trans n8.x) hL4, hps, cPa.keep (sx57.trans n8.x).ts rvx, upd_same, .nil, by decide, by simp, tb7.keep n8, fun H9 sx9 tb9 => ⟨_, rfl, iteF ?_⟩⟩
    exact ⟨(sx47.trans n8.x).trans sx9, tb9, _, _, rfl⟩
  · rintro σ H5 ⟨sx5, tb5, x6, x7, rfl⟩
    have hL5 := ls_x L.ne sx5 hL4
    obtain ⟨dx5, hl5⟩ := hL5.ins
    refine ⟨_, rfl, l, dx5, _, rfl, hl5, lp_no (by decide +kernel), l, pl, ps, rfl, hL5, by omega, fun q3 H6 us3 s6 nq3 hq3 pq3 => ?_⟩
    have sx6 := sx5.trans s6.x
    refine ⟨_, rfl, heldL ps, heldL ps, ⟨q3, us3, rfl, SqL.of hq3, pq3⟩, ⟨q1, us1, rfl, SqL.of (sx_l sx6 hq14), pp pq14 fun _ _ z => cPr.keep sx6.ts z⟩, _, rfl, ?_⟩
    rw [decide_eq_true (show heldL ps = heldL ps from rfl)]
    refine iteT ?_
    have hL6 := ls_x L.ne sx6 hL4
    obtain ⟨dx6, hl6⟩ := hL6.ins
    refine ⟨_, rfl, l, dx6, _, rfl, hl6, lp_no (by decide +kernel), l, pl, ps, rfl, hL6, by omega, fun q5 H7 us5 s7 nq5 hq5 pq5 => ?_⟩
    have sx7 := sx6.trans s7.x
    refine ⟨_, rfl, waitL ps, waitL ps, ⟨q5, us5, rfl, SqL.of hq5, pq5⟩, ⟨q2, us2, rfl, SqL.of (sx_l sx7 hq2), pp pq2 fun _ _ z => cPr.keep sx7.ts z⟩, ?_⟩
    rw [decide_eq_true (show waitL ps = waitL ps from rfl)]
    exact q _
end
end K61

set_option maxHeartbeats 4000000
namespace K61
open PySem L2 Lo
def kmk (a b c : Addr) : Kd → Addr
  | .read => a
  | .mean => b
  | .change => c
theorem all_mk {l : PySem.W.OpenLaw} {w : World} {K : PySem.W.Frag} {h : Heap} {mg : Str → Option Value} {fa cc Pt CR fkR CM fkM CC fkC fi ft fb fv CL fzinit fzhinderer fzheldpairs fzwaitingpairs fzheld fzwaiting fzwaitingplace fzask fzfree fzbehind fA fO fT_ fN fV fQ fE fY fD fP fU fZ aS b0 b1 b2 aRk : Addr} (X : K.In h) (G : h.Ns mainGlobals mg) (hfa : mg "law" = some (.ref fa))
    {odC : Option Addr} {slC : Array (Option Value)} {vsC : Array Value} {odkR ankR odkM ankM odkC ankC odi ani odt ant odb anb odv anv odzinit anzinit odzhinderer anzhinderer odzheldpairs anzheldpairs odzwaitingpairs anzwaitingpairs odzheld anzheld odzwaiting anzwaiting odzwaitingplace anzwaitingplace odzask anzask odzfree anzfree odzbehind anzbehind odA anA odO anO odT_ anT_ odN anN odV anV odQ anQ odE anE odY anY odD anD odP anP odU anU odZ anZ oS o0 o1 o2 : Option Addr} {slkR slkM slkC sli slt slb slv slzinit slzhinderer slzheldpairs slzwaitingpairs slzheld slzwaiting slzwaitingplace slzask slzfree slzbehind slA slO slT_ slN slV slQ slE slY slD slP slU slZ sS s0 s1 s2 : Array (Option Value)} {ockR kVkR dckR pmkR cdkR ctkR ockM kVkM dckM pmkM cdkM ctkM ockC kVkC dckC pmkC cdkC ctkC oci kVi dci pmi cdi cti oct kVt dct pmt cdt ctt ocb kVb dcb pmb cdb ctb ocv kVv dcv pmv cdv ctv oczinit kVzinit dczinit pmzinit cdzinit ctzinit oczhinderer kVzhinderer dczhinderer pmzhinderer cdzhinderer ctzhinderer oczheldpairs kVzheldpairs dczheldpairs pmzheldpairs cdzheldpairs ctzheldpairs oczwaitingpairs kVzwaitingpairs dczwaitingpairs pmzwaitingpairs cdzwaitingpairs ctzwaitingpairs oczheld kVzheld dczheld pmzheld cdzheld ctzheld oczwaiting kVzwaiting dczwaiting pmzwaiting cdzwaiting ctzwaiting oczwaitingplace kVzwaitingplace dczwaitingplace pmzwaitingplace cdzwaitingplace ctzwaitingplace oczask kVzask dczask pmzask cdzask ctzask oczfree kVzfree dczfree pmzfree cdzfree ctzfree oczbehind kVzbehind dczbehind pmzbehind cdzbehind ctzbehind ocA kVA dcA pmA cdA ctA ocO kVO dcO pmO cdO ctO ocT_ kVT_ dcT_ pmT_ cdT_ ctT_ ocN kVN dcN pmN cdN ctN ocV kVV dcV pmV cdV ctV ocQ kVQ dcQ pmQ cdQ ctQ ocE kVE dcE pmE cdE ctE ocY kVY dcY pmY cdY ctY ocD kVD dcD pmD cdD ctD ocP kVP dcP pmP cdP ctP ocU kVU dcU pmU cdU ctU ocZ kVZ dcZ pmZ cdZ ctZ : Value} {t0 t1 t2 t3 t4 t5 : Tok} {vS v0 v1 v2 : Nat} {esR : Array DictEntry} {epR : Nat}
    (nR : PySem.W.nsIn K mainGlobals "Read" = some (some (.ref CR)))
    (pgR : PySem.W.plainGet K CR Str.empty = true)
    (hdR : PySem.W.hasDictIn K CR = true)
    (poR : PySem.W.plainOver K CR = true)
    (saR : PySem.W.findIn K (.ref CR) "__setattr__" = some (some (.builtin "object.__setattr__")))
    (mkR : PySem.W.makesIn K CR = true)
    (kcR : PySem.W.keepIn K (.ref CR) = true)
    (nFR : PySem.W.findIn K (.ref CR) "first" = some none)
    (nLR : PySem.W.findIn K (.ref CR) "last" = some none)
    (akR : PySem.W.findIn K (.ref CR) "kind" = some (some (.ref fkR)))
    (jkR : PySem.W.isFn K (.ref fkR) = true)
    (lkR : K.lookup fkR = some ⟨ockR, odkR, .func (PySem.W.fnOf "kind" "Read.kind" (defArgs m_Read_kind) (defBody m_Read_kind) (defScope m_Read_kind) .none kVkR dckR pmkR ankR cdkR ctkR), slkR⟩)
    (ckR : PySem.W.codeIn K cdkR "Read.kind" = true)
    (ekR : PySem.W.keepIn K (.ref fkR) = true)
    (nM : PySem.W.nsIn K mainGlobals "Mean" = some (some (.ref CM)))
    (pgM : PySem.W.plainGet K CM Str.empty = true)
    (hdM : PySem.W.hasDictIn K CM = true)
    (poM : PySem.W.plainOver K CM = true)
    (saM : PySem.W.findIn K (.ref CM) "__setattr__" = some (some (.builtin "object.__setattr__")))
    (mkM : PySem.W.makesIn K CM = true)
    (kcM : PySem.W.keepIn K (.ref CM) = true)
    (nFM : PySem.W.findIn K (.ref CM) "first" = some none)
    (nLM : PySem.W.findIn K (.ref CM) "last" = some none)
    (akM : PySem.W.findIn K (.ref CM) "kind" = some (some (.ref fkM)))
    (jkM : PySem.W.isFn K (.ref fkM) = true)
    (lkM : K.lookup fkM = some ⟨ockM, odkM, .func (PySem.W.fnOf "kind" "Mean.kind" (defArgs m_Mean_kind) (defBody m_Mean_kind) (defScope m_Mean_kind) .none kVkM dckM pmkM ankM cdkM ctkM), slkM⟩)
    (ckM : PySem.W.codeIn K cdkM "Mean.kind" = true)
    (ekM : PySem.W.keepIn K (.ref fkM) = true)
    (nC : PySem.W.nsIn K mainGlobals "Change" = some (some (.ref CC)))
    (pgC : PySem.W.plainGet K CC Str.empty = true)
    (hdC : PySem.W.hasDictIn K CC = true)
    (poC : PySem.W.plainOver K CC = true)
    (saC : PySem.W.findIn K (.ref CC) "__setattr__" = some (some (.builtin "object.__setattr__")))
    (mkC : PySem.W.makesIn K CC = true)
    (kcC : PySem.W.keepIn K (.ref CC) = true)
    (nFC : PySem.W.findIn K (.ref CC) "first" = some none)
    (nLC : PySem.W.findIn K (.ref CC) "last" = some none)
    (akC : PySem.W.findIn K (.ref CC) "kind" = some (some (.ref fkC)))
    (jkC : PySem.W.isFn K (.ref fkC) = true)
    (lkC : K.lookup fkC = some ⟨ockC, odkC, .func (PySem.W.fnOf "kind" "Change.kind" (defArgs m_Change_kind) (defBody m_Change_kind) (defScope m_Change_kind) .none kVkC dckC pmkC ankC cdkC ctkC), slkC⟩)
    (ckC : PySem.W.codeIn K cdkC "Change.kind" = true)
    (ekC : PySem.W.keepIn K (.ref fkC) = true)
    (aiR : PySem.W.findIn K (.ref CR) "__init__" = some (some (.ref fi)))
    (aiM : PySem.W.findIn K (.ref CM) "__init__" = some (some (.ref fi)))
    (aiC : PySem.W.findIn K (.ref CC) "__init__" = some (some (.ref fi)))
    (ji : PySem.W.isFn K (.ref fi) = true)
    (li : K.lookup fi = some ⟨oci, odi, .func (PySem.W.fnOf "__init__" "Lock.__init__" (defArgs m_Lock_init) (defBody m_Lock_init) (defScope m_Lock_init) .none kVi dci pmi ani cdi cti), sli⟩)
    (ci : PySem.W.codeIn K cdi "Lock.__init__" = true)
    (ei : PySem.W.keepIn K (.ref fi) = true)
    (atR : PySem.W.findIn K (.ref CR) "told" = some (some (.ref ft)))
    (atM : PySem.W.findIn K (.ref CM) "told" = some (some (.ref ft)))
    (atC : PySem.W.findIn K (.ref CC) "told" = some (some (.ref ft)))
    (jt : PySem.W.isFn K (.ref ft) = true)
    (lt : K.lookup ft = some ⟨oct, odt, .func (PySem.W.fnOf "told" "Lock.told" (defArgs m_Lock_told) (defBody m_Lock_told) (defScope m_Lock_told) .none kVt dct pmt ant cdt ctt), slt⟩)
    (ct : PySem.W.codeIn K cdt "Lock.told" = true)
    (et : PySem.W.keepIn K (.ref ft) = true)
    (abR : PySem.W.findIn K (.ref CR) "beside" = some (some (.ref fb)))
    (abM : PySem.W.findIn K (.ref CM) "beside" = some (some (.ref fb)))
    (abC : PySem.W.findIn K (.ref CC) "beside" = some (some (.ref fb)))
    (jb : PySem.W.isFn K (.ref fb) = true)
    (lb : K.lookup fb = some ⟨ocb, odb, .func (PySem.W.fnOf "beside" "Lock.beside" (defArgs m_Lock_beside) (defBody m_Lock_beside) (defScope m_Lock_beside) .none kVb dcb pmb anb cdb ctb), slb⟩)
    (cb : PySem.W.codeIn K cdb "Lock.beside" = true)
    (eb : PySem.W.keepIn K (.ref fb) = true)
    (avR : PySem.W.findIn K (.ref CR) "covers" = some (some (.ref fv)))
    (avM : PySem.W.findIn K (.ref CM) "covers" = some (some (.ref fv)))
    (avC : PySem.W.findIn K (.ref CC) "covers" = some (some (.ref fv)))
    (jv : PySem.W.isFn K (.ref fv) = true)
    (lv : K.lookup fv = some ⟨ocv, odv, .func (PySem.W.fnOf "covers" "Lock.covers" (defArgs m_Lock_covers) (defBody m_Lock_covers) (defScope m_Lock_covers) .none kVv dcv pmv anv cdv ctv), slv⟩)
    (cv : PySem.W.codeIn K cdv "Lock.covers" = true)
    (ev : PySem.W.keepIn K (.ref fv) = true)
    (nL : PySem.W.nsIn K mainGlobals "Locks" = some (some (.ref CL)))
    (pgL : PySem.W.plainGet K CL Str.empty = true)
    (hdL : PySem.W.hasDictIn K CL = true)
    (poL : PySem.W.plainOver K CL = true)
    (saL : PySem.W.findIn K (.ref CL) "__setattr__" = some (some (.builtin "object.__setattr__")))
    (mkL : PySem.W.makesIn K CL = true)
    (kcL : PySem.W.keepIn K (.ref CL) = true)
    (nP : PySem.W.findIn K (.ref CL) "pairs" = some none)
    (nKL : PySem.W.findIn K (.ref CL) "kind" = some none)
    (azinit : PySem.W.findIn K (.ref CL) "__init__" = some (some (.ref fzinit)))
    (jzinit : PySem.W.isFn K (.ref fzinit) = true)
    (lzinit : K.lookup fzinit = some ⟨oczinit, odzinit, .func (PySem.W.fnOf "__init__" "Locks.__init__" (defArgs m_Locks_init) (defBody m_Locks_init) (defScope m_Locks_init) .none kVzinit dczinit pmzinit anzinit cdzinit ctzinit), slzinit⟩)
    (czinit : PySem.W.codeIn K cdzinit "Locks.__init__" = true)
    (ezinit : PySem.W.keepIn K (.ref fzinit) = true)
    (azhinderer : PySem.W.findIn K (.ref CL) "hinderer" = some (some (.ref fzhinderer)))
    (jzhinderer : PySem.W.isFn K (.ref fzhinderer) = true)
    (lzhinderer : K.lookup fzhinderer = some ⟨oczhinderer, odzhinderer, .func (PySem.W.fnOf "hinderer" "Locks.hinderer" (defArgs m_Locks_hinderer) (defBody m_Locks_hinderer) (defScope m_Locks_hinderer) .none kVzhinderer dczhinderer pmzhinderer anzhinderer cdzhinderer ctzhinderer), slzhinderer⟩)
    (czhinderer : PySem.W.codeIn K cdzhinderer "Locks.hinderer" = true)
    (ezhinderer : PySem.W.keepIn K (.ref fzhinderer) = true)
    (azheldpairs : PySem.W.findIn K (.ref CL) "held_pairs" = some (some (.ref fzheldpairs)))
    (jzheldpairs : PySem.W.isFn K (.ref fzheldpairs) = true)
    (lzheldpairs : K.lookup fzheldpairs = some ⟨oczheldpairs, odzheldpairs, .func (PySem.W.fnOf "held_pairs" "Locks.held_pairs" (defArgs m_Locks_held_pairs) (defBody m_Locks_held_pairs) (defScope m_Locks_held_pairs) .none kVzheldpairs dczheldpairs pmzheldpairs anzheldpairs cdzheldpairs ctzheldpairs), slzheldpairs⟩)
    (czheldpairs : PySem.W.codeIn K cdzheldpairs "Locks.held_pairs" = true)
    (ezheldpairs : PySem.W.keepIn K (.ref fzheldpairs) = true)
    (azwaitingpairs : PySem.W.findIn K (.ref CL) "waiting_pairs" = some (some (.ref fzwaitingpairs)))
    (jzwaitingpairs : PySem.W.isFn K (.ref fzwaitingpairs) = true)
    (lzwaitingpairs : K.lookup fzwaitingpairs = some ⟨oczwaitingpairs, odzwaitingpairs, .func (PySem.W.fnOf "waiting_pairs" "Locks.waiting_pairs" (defArgs m_Locks_waiting_pairs) (defBody m_Locks_waiting_pairs) (defScope m_Locks_waiting_pairs) .none kVzwaitingpairs dczwaitingpairs pmzwaitingpairs anzwaitingpairs cdzwaitingpairs ctzwaitingpairs), slzwaitingpairs⟩)
    (czwaitingpairs : PySem.W.codeIn K cdzwaitingpairs "Locks.waiting_pairs" = true)
    (ezwaitingpairs : PySem.W.keepIn K (.ref fzwaitingpairs) = true)
    (azheld : PySem.W.findIn K (.ref CL) "held" = some (some (.ref fzheld)))
    (jzheld : PySem.W.isFn K (.ref fzheld) = true)
    (lzheld : K.lookup fzheld = some ⟨oczheld, odzheld, .func (PySem.W.fnOf "held" "Locks.held" (defArgs m_Locks_held) (defBody m_Locks_held) (defScope m_Locks_held) .none kVzheld dczheld pmzheld anzheld cdzheld ctzheld), slzheld⟩)
    (czheld : PySem.W.codeIn K cdzheld "Locks.held" = true)
    (ezheld : PySem.W.keepIn K (.ref fzheld) = true)
    (azwaiting : PySem.W.findIn K (.ref CL) "waiting" = some (some (.ref fzwaiting)))
    (jzwaiting : PySem.W.isFn K (.ref fzwaiting) = true)
    (lzwaiting : K.lookup fzwaiting = some ⟨oczwaiting, odzwaiting, .func (PySem.W.fnOf "waiting" "Locks.waiting" (defArgs m_Locks_waiting) (defBody m_Locks_waiting) (defScope m_Locks_waiting) .none kVzwaiting dczwaiting pmzwaiting anzwaiting cdzwaiting ctzwaiting), slzwaiting⟩)
    (czwaiting : PySem.W.codeIn K cdzwaiting "Locks.waiting" = true)
    (ezwaiting : PySem.W.keepIn K (.ref fzwaiting) = true)
    (azwaitingplace : PySem.W.findIn K (.ref CL) "waiting_place" = some (some (.ref fzwaitingplace)))
    (jzwaitingplace : PySem.W.isFn K (.ref fzwaitingplace) = true)
    (lzwaitingplace : K.lookup fzwaitingplace = some ⟨oczwaitingplace, odzwaitingplace, .func (PySem.W.fnOf "waiting_place" "Locks.waiting_place" (defArgs m_Locks_waiting_place) (defBody m_Locks_waiting_place) (defScope m_Locks_waiting_place) .none kVzwaitingplace dczwaitingplace pmzwaitingplace anzwaitingplace cdzwaitingplace ctzwaitingplace), slzwaitingplace⟩)
    (czwaitingplace : PySem.W.codeIn K cdzwaitingplace "Locks.waiting_place" = true)
    (ezwaitingplace : PySem.W.keepIn K (.ref fzwaitingplace) = true)
    (azask : PySem.W.findIn K (.ref CL) "ask" = some (some (.ref fzask)))
    (jzask : PySem.W.isFn K (.ref fzask) = true)
    (lzask : K.lookup fzask = some ⟨oczask, odzask, .func (PySem.W.fnOf "ask" "Locks.ask" (defArgs m_Locks_ask) (defBody m_Locks_ask) (defScope m_Locks_ask) .none kVzask dczask pmzask anzask cdzask ctzask), slzask⟩)
    (czask : PySem.W.codeIn K cdzask "Locks.ask" = true)
    (ezask : PySem.W.keepIn K (.ref fzask) = true)
    (azfree : PySem.W.findIn K (.ref CL) "free" = some (some (.ref fzfree)))
    (jzfree : PySem.W.isFn K (.ref fzfree) = true)
    (lzfree : K.lookup fzfree = some ⟨oczfree, odzfree, .func (PySem.W.fnOf "free" "Locks.free" (defArgs m_Locks_free) (defBody m_Locks_free) (defScope m_Locks_free) .none kVzfree dczfree pmzfree anzfree cdzfree ctzfree), slzfree⟩)
    (czfree : PySem.W.codeIn K cdzfree "Locks.free" = true)
    (ezfree : PySem.W.keepIn K (.ref fzfree) = true)
    (azbehind : PySem.W.findIn K (.ref CL) "behind" = some (some (.ref fzbehind)))
    (jzbehind : PySem.W.isFn K (.ref fzbehind) = true)
    (lzbehind : K.lookup fzbehind = some ⟨oczbehind, odzbehind, .func (PySem.W.fnOf "behind" "Locks.behind" (defArgs m_Locks_behind) (defBody m_Locks_behind) (defScope m_Locks_behind) .none kVzbehind dczbehind pmzbehind anzbehind cdzbehind ctzbehind), slzbehind⟩)
    (czbehind : PySem.W.codeIn K cdzbehind "Locks.behind" = true)
    (ezbehind : PySem.W.keepIn K (.ref fzbehind) = true)
    (aA : PySem.W.nsIn K mainGlobals "_law_cell_at" = some (some (.ref fA)))
    (lA : K.lookup fA = some ⟨ocA, odA, .func (PySem.W.fnOf "_law_cell_at" "_law_cell_at" (defArgs s__law_cell_at) (defBody s__law_cell_at) (defScope s__law_cell_at) .none kVA dcA pmA anA cdA ctA), slA⟩)
    (cA : PySem.W.codeIn K cdA "_law_cell_at" = true)
    (eA : PySem.W.keepIn K (.ref fA) = true)
    (aO : PySem.W.nsIn K mainGlobals "lock_of" = some (some (.ref fO)))
    (lO : K.lookup fO = some ⟨ocO, odO, .func (PySem.W.fnOf "lock_of" "lock_of" (defArgs s_lock_of) (defBody s_lock_of) (defScope s_lock_of) .none kVO dcO pmO anO cdO ctO), slO⟩)
    (cO : PySem.W.codeIn K cdO "lock_of" = true)
    (eO : PySem.W.keepIn K (.ref fO) = true)
    (aT_ : PySem.W.nsIn K mainGlobals "_law_told" = some (some (.ref fT_)))
    (lT_ : K.lookup fT_ = some ⟨ocT_, odT_, .func (PySem.W.fnOf "_law_told" "_law_told" (defArgs s__law_told) (defBody s__law_told) (defScope s__law_told) .none kVT_ dcT_ pmT_ anT_ cdT_ ctT_), slT_⟩)
    (cT_ : PySem.W.codeIn K cdT_ "_law_told" = true)
    (eT_ : PySem.W.keepIn K (.ref fT_) = true)
    (aN : PySem.W.nsIn K mainGlobals "_law_names" = some (some (.ref fN)))
    (lN : K.lookup fN = some ⟨ocN, odN, .func (PySem.W.fnOf "_law_names" "_law_names" (defArgs s__law_names) (defBody s__law_names) (defScope s__law_names) .none kVN dcN pmN anN cdN ctN), slN⟩)
    (cN : PySem.W.codeIn K cdN "_law_names" = true)
    (eN : PySem.W.keepIn K (.ref fN) = true)
    (aV : PySem.W.nsIn K mainGlobals "victim" = some (some (.ref fV)))
    (lV : K.lookup fV = some ⟨ocV, odV, .func (PySem.W.fnOf "victim" "victim" (defArgs s_victim) (defBody s_victim) (defScope s_victim) .none kVV dcV pmV anV cdV ctV), slV⟩)
    (cV : PySem.W.codeIn K cdV "victim" = true)
    (eV : PySem.W.keepIn K (.ref fV) = true)
    (aQ : PySem.W.nsIn K mainGlobals "chased" = some (some (.ref fQ)))
    (lQ : K.lookup fQ = some ⟨ocQ, odQ, .func (PySem.W.fnOf "chased" "chased" (defArgs s_chased) (defBody s_chased) (defScope s_chased) .none kVQ dcQ pmQ anQ cdQ ctQ), slQ⟩)
    (cQ : PySem.W.codeIn K cdQ "chased" = true)
    (eQ : PySem.W.keepIn K (.ref fQ) = true)
    (aE : PySem.W.nsIn K mainGlobals "_law_victim" = some (some (.ref fE)))
    (lE : K.lookup fE = some ⟨ocE, odE, .func (PySem.W.fnOf "_law_victim" "_law_victim" (defArgs s__law_victim) (defBody s__law_victim) (defScope s__law_victim) .none kVE dcE pmE anE cdE ctE), slE⟩)
    (cE : PySem.W.codeIn K cdE "_law_victim" = true)
    (eE : PySem.W.keepIn K (.ref fE) = true)
    (aY : PySem.W.nsIn K mainGlobals "_law_links" = some (some (.ref fY)))
    (lY : K.lookup fY = some ⟨ocY, odY, .func (PySem.W.fnOf "_law_links" "_law_links" (defArgs s__law_links) (defBody s__law_links) (defScope s__law_links) .none kVY dcY pmY anY cdY ctY), slY⟩)
    (cY : PySem.W.codeIn K cdY "_law_links" = true)
    (eY : PySem.W.keepIn K (.ref fY) = true)
    (aD : PySem.W.nsIn K mainGlobals "_law_locks" = some (some (.ref fD)))
    (lD : K.lookup fD = some ⟨ocD, odD, .func (PySem.W.fnOf "_law_locks" "_law_locks" (defArgs s__law_locks) (defBody s__law_locks) (defScope s__law_locks) .none kVD dcD pmD anD cdD ctD), slD⟩)
    (cD : PySem.W.codeIn K cdD "_law_locks" = true)
    (eD : PySem.W.keepIn K (.ref fD) = true)
    (aP : PySem.W.nsIn K mainGlobals "_law_path" = some (some (.ref fP)))
    (lP : K.lookup fP = some ⟨ocP, odP, .func (PySem.W.fnOf "_law_path" "_law_path" (defArgs s__law_path) (defBody s__law_path) (defScope s__law_path) .none kVP dcP pmP anP cdP ctP), slP⟩)
    (cP : PySem.W.codeIn K cdP "_law_path" = true)
    (eP : PySem.W.keepIn K (.ref fP) = true)
    (aU : PySem.W.nsIn K mainGlobals "_law_right" = some (some (.ref fU)))
    (lU : K.lookup fU = some ⟨ocU, odU, .func (PySem.W.fnOf "_law_right" "_law_right" (defArgs s__law_right) (defBody s__law_right) (defScope s__law_right) .none kVU dcU pmU anU cdU ctU), slU⟩)
    (cU : PySem.W.codeIn K cdU "_law_right" = true)
    (eU : PySem.W.keepIn K (.ref fU) = true)
    (aZ : PySem.W.nsIn K mainGlobals "law" = some (some (.ref fZ)))
    (lZ : K.lookup fZ = some ⟨ocZ, odZ, .func (PySem.W.fnOf "law" "law" (defArgs s_law) (defBody s_law) (defScope s_law) .none kVZ dcZ pmZ anZ cdZ ctZ), slZ⟩)
    (cZ : PySem.W.codeIn K cdZ "law" = true)
    (eZ : PySem.W.keepIn K (.ref fZ) = true)
    (y_isinstance : PySem.W.nsIn K mainGlobals "isinstance" = some none)
    (y_int : PySem.W.nsIn K mainGlobals "int" = some none)
    (y_bool : PySem.W.nsIn K mainGlobals "bool" = some none)
    (y_str : PySem.W.nsIn K mainGlobals "str" = some none)
    (y_len : PySem.W.nsIn K mainGlobals "len" = some none)
    (y_range : PySem.W.nsIn K mainGlobals "range" = some none)
    (y_tuple : PySem.W.nsIn K mainGlobals "tuple" = some none)
    (y_list : PySem.W.nsIn K mainGlobals "list" = some none)
    (y_any : PySem.W.nsIn K mainGlobals "any" = some none)
    (y_all : PySem.W.nsIn K mainGlobals "all" = some none)
    (y_max : PySem.W.nsIn K mainGlobals "max" = some none)
    (y_sorted : PySem.W.nsIn K mainGlobals "sorted" = some none)
    (nS : PySem.W.nsIn K mainGlobals "SHARING" = some (some (.ref aS)))
    (lS : K.lookup aS = some ⟨.type "tuple", oS, .seq #[.ref b0, .ref b1, .ref b2] vS, sS⟩)
    (lS0 : K.lookup b0 = some ⟨.type "tuple", o0, .seq #[.str "read" t0, .str "read" t1] v0, s0⟩)
    (lS1 : K.lookup b1 = some ⟨.type "tuple", o1, .seq #[.str "read" t2, .str "mean" t3] v1, s1⟩)
    (lS2 : K.lookup b2 = some ⟨.type "tuple", o2, .seq #[.str "mean" t4, .str "read" t5] v2, s2⟩)
    (nRk : PySem.W.nsIn K mainGlobals "RANKS" = some (some (.ref aRk)))
    (lRk : K.lookup aRk = some ⟨.type "dict", none, .dict esR epR, #[]⟩)
    (qRk : (aRk == sysModules) = false)
    (tRk : PyProof.Rows.KTD.rowsLook datL esR.toList ranksD = true)
    (hcc : cdV = .ref cc)
    (lC : K.lookup cc = some ⟨.type "code", odC, .fields vsC, slC⟩)
    (hPt : vsC[11]? = some (.ref Pt))
    (hC : PySem.W.codeHdIn K cc Pt = true)
    (hT : h.get? Pt = some (PySem.W.tabObj #[]))
    (hN : PySem.W.noTabs K = true) :
    ∃ (fd : FuncData) (cc Pt : Addr), (∀ (s : Shared) (v : Value), BindsTo s fd ⟨[v], []⟩ [("_law_script", v)]) ∧ PySem.W.codeHdIn K cc Pt = true ∧ h.get? Pt = some (PySem.W.tabObj #[]) ∧ PySem.W.noTabs K = true ∧ ∀ base : Heap, K.In base → BB mg base → FnOk l.prog w K mg base CX0 8 fa fd ["_law_script"] (spLawT K Pt) := by
  have e := hfa.symm.trans (PySem.W.mg_of X G aZ)
  cases e
  have B : TxB mg := ⟨PySem.W.mg_none_of X G y_isinstance, PySem.W.mg_none_of X G y_int, PySem.W.mg_none_of X G y_bool, PySem.W.mg_none_of X G y_str, PySem.W.mg_none_of X G y_len, PySem.W.mg_none_of X G y_range, PySem.W.mg_none_of X G y_tuple, PySem.W.mg_none_of X G y_list, PySem.W.mg_none_of X G y_any, PySem.W.mg_none_of X G y_all, PySem.W.mg_none_of X G y_max, PySem.W.mg_none_of X G y_sorted⟩
  have T : TxK K (kmk CR CM CC) := ⟨fun k => match k with | .read => ⟨pgR, hdR, poR, saR⟩ | .mean => ⟨pgM, hdM, poM, saM⟩ | .change => ⟨pgC, hdC, poC, saC⟩, fun k => match k with | .read => nFR | .mean => nFM | .change => nFC, fun k => match k with | .read => nLR | .mean => nLM | .change => nLC⟩
  have mgC : ∀ k, mg (kdN k) = some (.ref (kmk CR CM CC k)) := fun k => match k with | .read => PySem.W.mg_of X G nR | .mean => PySem.W.mg_of X G nM | .change => PySem.W.mg_of X G nC
  have S : TxS K mg := ⟨⟨aS, b0, b1, b2, PySem.W.mg_of X G nS, modT3 lS, modT2 lS0, modT2 lS1, modT2 lS2⟩⟩
  have R : TxR K mg := ⟨⟨aRk, PySem.W.mg_of X G nRk, tab_mk lRk qRk tRk⟩⟩
  have L : TxL K (kmk CR CM CC) CL := ⟨⟨pgL, hdL, poL, saL⟩, nP, fun k e => match k with | .read => (by have e' : CR = CL := e; rw [← e', akR] at nKL; cases nKL) | .mean => (by have e' : CM = CL := e; rw [← e', akM] at nKL; cases nKL) | .change => (by have e' : CC = CL := e; rw [← e', akC] at nKL; cases nKL)⟩
  have FkR := fun_mk (st := m_Read_kind) lkR ckR ekR
  have bkR := FkR.binds (ps := ["self"]) fun _ _ _ _ _ _ us hl => match us, hl with | [_], _ => rfl
  have FkM := fun_mk (st := m_Mean_kind) lkM ckM ekM
  have bkM := FkM.binds (ps := ["self"]) fun _ _ _ _ _ _ us hl => match us, hl with | [_], _ => rfl
  have FkC := fun_mk (st := m_Change_kind) lkC ckC ekC
  have bkC := FkC.binds (ps := ["self"]) fun _ _ _ _ _ _ us hl => match us, hl with | [_], _ => rfl
  have Fi := fun_mk (st := m_Lock_init) li ci ei
  have bi := Fi.binds (ps := ["self", "first", "last"]) fun _ _ _ _ _ _ us hl => match us, hl with | [_, _, _], _ => rfl
  have Ft := fun_mk (st := m_Lock_told) lt ct et
  have bt := Ft.binds (ps := ["self"]) fun _ _ _ _ _ _ us hl => match us, hl with | [_], _ => rfl
  have Fb := fun_mk (st := m_Lock_beside) lb cb eb
  have bb := Fb.binds (ps := ["self", "other"]) fun _ _ _ _ _ _ us hl => match us, hl with | [_, _], _ => rfl
  have Fv := fun_mk (st := m_Lock_covers) lv cv ev
  have bv := Fv.binds (ps := ["self", "other"]) fun _ _ _ _ _ _ us hl => match us, hl with | [_, _], _ => rfl
  have Fzinit := fun_mk (st := m_Locks_init) lzinit czinit ezinit
  have bzinit := Fzinit.binds (ps := ["self"]) fun _ _ _ _ _ _ us hl => match us, hl with | [_], _ => rfl
  have Fzhinderer := fun_mk (st := m_Locks_hinderer) lzhinderer czhinderer ezhinderer
  have bzhinderer := Fzhinderer.binds (ps := ["self", "place"]) fun _ _ _ _ _ _ us hl => match us, hl with | [_, _], _ => rfl
  have Fzheldpairs := fun_mk (st := m_Locks_held_pairs) lzheldpairs czheldpairs ezheldpairs
  have bzheldpairs := Fzheldpairs.binds (ps := ["self"]) fun _ _ _ _ _ _ us hl => match us, hl with | [_], _ => rfl
  have Fzwaitingpairs := fun_mk (st := m_Locks_waiting_pairs) lzwaitingpairs czwaitingpairs ezwaitingpairs
  have bzwaitingpairs := Fzwaitingpairs.binds (ps := ["self"]) fun _ _ _ _ _ _ us hl => match us, hl with | [_], _ => rfl
  have Fzheld := fun_mk (st := m_Locks_held) lzheld czheld ezheld
  have bzheld := Fzheld.binds (ps := ["self"]) fun _ _ _ _ _ _ us hl => match us, hl with | [_], _ => rfl
  have Fzwaiting := fun_mk (st := m_Locks_waiting) lzwaiting czwaiting ezwaiting
  have bzwaiting := Fzwaiting.binds (ps := ["self"]) fun _ _ _ _ _ _ us hl => match us, hl with | [_], _ => rfl
  have Fzwaitingplace := fun_mk (st := m_Locks_waiting_place) lzwaitingplace czwaitingplace ezwaitingplace
  have bzwaitingplace := Fzwaitingplace.binds (ps := ["self", "p"]) fun _ _ _ _ _ _ us hl => match us, hl with | [_, _], _ => rfl
  have Fzask := fun_mk (st := m_Locks_ask) lzask czask ezask
  have bzask := Fzask.binds (ps := ["self", "p", "lock"]) fun _ _ _ _ _ _ us hl => match us, hl with | [_, _, _], _ => rfl
  have Fzfree := fun_mk (st := m_Locks_free) lzfree czfree ezfree
  have bzfree := Fzfree.binds (ps := ["self", "p"]) fun _ _ _ _ _ _ us hl => match us, hl with | [_, _], _ => rfl
  have Fzbehind := fun_mk (st := m_Locks_behind) lzbehind czbehind ezbehind
  have bzbehind := Fzbehind.binds (ps := ["self", "p"]) fun _ _ _ _ _ _ us hl => match us, hl with | [_, _], _ => rfl
  have FA := fun_mk (st := s__law_cell_at) lA cA eA
  have bA := FA.binds (ps := ["_law_script", "_law_k"]) fun _ _ _ _ _ _ us hl => match us, hl with | [_, _], _ => rfl
  have mA : mg "_law_cell_at" = some (.ref fA) := PySem.W.mg_of X G aA
  have FO := fun_mk (st := s_lock_of) lO cO eO
  have bO := FO.binds (ps := ["told"]) fun _ _ _ _ _ _ us hl => match us, hl with | [_], _ => rfl
  have mO : mg "lock_of" = some (.ref fO) := PySem.W.mg_of X G aO
  have FT_ := fun_mk (st := s__law_told) lT_ cT_ eT_
  have bT_ := FT_.binds (ps := ["_law_cell"]) fun _ _ _ _ _ _ us hl => match us, hl with | [_], _ => rfl
  have mT_ : mg "_law_told" = some (.ref fT_) := PySem.W.mg_of X G aT_
  have FN := fun_mk (st := s__law_names) lN cN eN
  have bN := FN.binds (ps := ["_law_cell"]) fun _ _ _ _ _ _ us hl => match us, hl with | [_], _ => rfl
  have mN : mg "_law_names" = some (.ref fN) := PySem.W.mg_of X G aN
  have FV := fun_mk (st := s_victim) lV cV eV
  have bV := FV.binds (ps := ["path"]) fun _ _ _ _ _ _ us hl => match us, hl with | [_], _ => rfl
  have mV : mg "victim" = some (.ref fV) := PySem.W.mg_of X G aV
  have FQ := fun_mk (st := s_chased) lQ cQ eQ
  have bQ := FQ.binds (ps := ["locks", "home", "p", "path"]) fun _ _ _ _ _ _ us hl => match us, hl with | [_, _, _, _], _ => rfl
  have mQ : mg "chased" = some (.ref fQ) := PySem.W.mg_of X G aQ
  have FE := fun_mk (st := s__law_victim) lE cE eE
  have bE := FE.binds (ps := ["_law_path_here"]) fun _ _ _ _ _ _ us hl => match us, hl with | [_], _ => rfl
  have mE : mg "_law_victim" = some (.ref fE) := PySem.W.mg_of X G aE
  have FY := fun_mk (st := s__law_links) lY cY eY
  have bY := FY.binds (ps := ["_law_locks_here", "_law_home", "_law_p", "_law_path_here", "_law_found"]) fun _ _ _ _ _ _ us hl => match us, hl with | [_, _, _, _, _], _ => rfl
  have mY : mg "_law_links" = some (.ref fY) := PySem.W.mg_of X G aY
  have FD := fun_mk (st := s__law_locks) lD cD eD
  have bD := FD.binds (ps := ["_law_names_here", "_law_cells"]) fun _ _ _ _ _ _ us hl => match us, hl with | [_, _], _ => rfl
  have mD : mg "_law_locks" = some (.ref fD) := PySem.W.mg_of X G aD
  have FP := fun_mk (st := s__law_path) lP cP eP
  have bP := FP.binds (ps := ["_law_names_here", "_law_p", "_law_home", "_law_cell"]) fun _ _ _ _ _ _ us hl => match us, hl with | [_, _, _, _], _ => rfl
  have mP : mg "_law_path" = some (.ref fP) := PySem.W.mg_of X G aP
  have FU := fun_mk (st := s__law_right) lU cU eU
  have bU := FU.binds (ps := ["_law_locks_here", "_law_home", "_law_p", "_law_path_here"]) fun _ _ _ _ _ _ us hl => match us, hl with | [_, _, _, _], _ => rfl
  have mU : mg "_law_right" = some (.ref fU) := PySem.W.mg_of X G aU
  have FZ := fun_mk (st := s_law) lZ cZ eZ
  refine ⟨PySem.W.fnOf "law" "law" (defArgs s_law) (defBody s_law) (defScope s_law) .none kVZ dcZ pmZ anZ cdZ ctZ, cc, Pt, fun s v => .of_eq rfl, hC, hT, hN, fun base _ hB => ?_⟩
  have GK : ∀ k, GM l.prog w K mg base CX0 1 (kmk CR CM CC k) "kind" ["self"] (spKind k) := fun k => match k with | .read => ⟨fkR, _, ok_rk FkR, bkR, ⟨akR, jkR, ekR⟩⟩ | .mean => ⟨fkM, _, ok_mk FkM, bkM, ⟨akM, jkM, ekM⟩⟩ | .change => ⟨fkC, _, ok_ck FkC, bkC, ⟨akC, jkC, ekC⟩⟩
  have Mk : ∀ k, Mk K (kmk CR CM CC k) fi := fun k => match k with | .read => ⟨mkR, aiR, ji, kcR⟩ | .mean => ⟨mkM, aiM, ji, kcM⟩ | .change => ⟨mkC, aiC, ji, kcC⟩
  have Gt : ∀ k, GM l.prog w K mg base CX0 2 (kmk CR CM CC k) "told" ["self"] (spTold (kmk CR CM CC)) := fun k => match k with | .read => ⟨ft, _, ok_told Ft T GK, bt, ⟨atR, jt, et⟩⟩ | .mean => ⟨ft, _, ok_told Ft T GK, bt, ⟨atM, jt, et⟩⟩ | .change => ⟨ft, _, ok_told Ft T GK, bt, ⟨atC, jt, et⟩⟩
  have Gb : ∀ k, GM l.prog w K mg base CX0 2 (kmk CR CM CC k) "beside" ["self", "other"] (spBeside (kmk CR CM CC)) := fun k => match k with | .read => ⟨fb, _, ok_beside Fb T S GK, bb, ⟨abR, jb, eb⟩⟩ | .mean => ⟨fb, _, ok_beside Fb T S GK, bb, ⟨abM, jb, eb⟩⟩ | .change => ⟨fb, _, ok_beside Fb T S GK, bb, ⟨abC, jb, eb⟩⟩
  have Gv : ∀ k, GM l.prog w K mg base CX0 2 (kmk CR CM CC k) "covers" ["self", "other"] (spCovers (kmk CR CM CC)) := fun k => match k with | .read => ⟨fv, _, ok_covers Fv T R GK, bv, ⟨avR, jv, ev⟩⟩ | .mean => ⟨fv, _, ok_covers Fv T R GK, bv, ⟨avM, jv, ev⟩⟩ | .change => ⟨fv, _, ok_covers Fv T R GK, bv, ⟨avC, jv, ev⟩⟩
  have GA : GF l.prog w K mg base CX0 1 "_law_cell_at" ["_law_script", "_law_k"] (spCell K) := ⟨fA, _, ok_cell FA B, bA, eA, mA⟩
  have GI := ok_linit (P := l.prog) (w := w) (mg := mg) (base := base) Fi T
  have GO : GF l.prog w K mg base CX0 3 "lock_of" ["told"] (spLockOf (kmk CR CM CC) K) := ⟨fO, _, ok_lockof FO T mgC Mk GI bi, bO, eO, mO⟩
  have GT_ : GF l.prog w K mg base CX0 1 "_law_told" ["_law_cell"] (spT61 K) := ⟨fT_, _, ok_ltold61 FT_, bT_, eT_, mT_⟩
  have GN : GF l.prog w K mg base CX0 1 "_law_names" ["_law_cell"] (spN4 K) := ⟨fN, _, ok_lnames4 FN, bN, eN, mN⟩
  have ML : L2.Mk K CL fzinit := ⟨mkL, azinit, jzinit, kcL⟩
  have mgL : mg "Locks" = some (.ref CL) := PySem.W.mg_of X G nL
  have GLI := ok_lsinit (P := l.prog) (w := w) (mg := mg) (base := base) Fzinit L
  have Gzhinderer : GM l.prog w K mg base CX0 3 CL "hinderer" ["self", "place"] (spHind (kmk CR CM CC) CL K) := ⟨fzhinderer, _, ok_hind Fzhinderer B T L Gb, bzhinderer, ⟨azhinderer, jzhinderer, ezhinderer⟩⟩
  have Gzheldpairs : GM l.prog w K mg base CX0 4 CL "held_pairs" ["self"] (spPairs (kmk CR CM CC) CL K heldL) := ⟨fzheldpairs, _, ok_heldp Fzheldpairs B L Gzhinderer, bzheldpairs, ⟨azheldpairs, jzheldpairs, ezheldpairs⟩⟩
  have Gzwaitingpairs : GM l.prog w K mg base CX0 4 CL "waiting_pairs" ["self"] (spPairs (kmk CR CM CC) CL K waitL) := ⟨fzwaitingpairs, _, ok_waitp Fzwaitingpairs B L Gzhinderer, bzwaitingpairs, ⟨azwaitingpairs, jzwaitingpairs, ezwaitingpairs⟩⟩
  have Gzheld : GM l.prog w K mg base CX0 5 CL "held" ["self"] (spTolds (kmk CR CM CC) CL K heldL) := ⟨fzheld, _, ok_held Fzheld T L Gzheldpairs Gt, bzheld, ⟨azheld, jzheld, ezheld⟩⟩
  have Gzwaiting : GM l.prog w K mg base CX0 5 CL "waiting" ["self"] (spTolds (kmk CR CM CC) CL K waitL) := ⟨fzwaiting, _, ok_waiting Fzwaiting T L Gzwaitingpairs Gt, bzwaiting, ⟨azwaiting, jzwaiting, ezwaiting⟩⟩
  have Gzwaitingplace : GM l.prog w K mg base CX0 4 CL "waiting_place" ["self", "p"] (spWPlace (kmk CR CM CC) CL K) := ⟨fzwaitingplace, _, ok_wplace Fzwaitingplace B L Gzhinderer, bzwaitingplace, ⟨azwaitingplace, jzwaitingplace, ezwaitingplace⟩⟩
  have Gzask : GM l.prog w K mg base CX0 5 CL "ask" ["self", "p", "lock"] (spAsk (kmk CR CM CC) CL K) := ⟨fzask, _, ok_ask Fzask B T L Gv Gzhinderer Gzwaitingplace, bzask, ⟨azask, jzask, ezask⟩⟩
  have Gzfree : GM l.prog w K mg base CX0 5 CL "free" ["self", "p"] (spFree (kmk CR CM CC) CL K) := ⟨fzfree, _, ok_free Fzfree L Gzwaitingpairs, bzfree, ⟨azfree, jzfree, ezfree⟩⟩
  have Gzbehind : GM l.prog w K mg base CX0 5 CL "behind" ["self", "p"] (spBehind (kmk CR CM CC) CL K) := ⟨fzbehind, _, ok_behind Fzbehind L Gzhinderer Gzwaitingplace, bzbehind, ⟨azbehind, jzbehind, ezbehind⟩⟩
  have GBo := Gzbehind.imp (sp' := spBehindO (kmk CR CM CC) CL K) fun _ _ _ _ z => spB_of z
  have GV : GF l.prog w K mg base CX0 3 "victim" ["path"] (spVict K Pt) := ⟨fV, _, ok_victim FV B hB hcc hC, bV, eV, mV⟩
  have GQ : GF l.prog w K mg base CX0 6 "chased" ["locks", "home", "p", "path"] (spChased (kmk CR CM CC) CL K Pt) := ⟨fQ, _, ok_chased FQ L GV GBo, bQ, eQ, mQ⟩
  have GE : GF l.prog w K mg base CX0 1 "_law_victim" ["_law_path_here"] (spLVict K) := ⟨fE, _, ok_lvict FE, bE, eE, mE⟩
  have GY : GF l.prog w K mg base CX0 6 "_law_links" ["_law_locks_here", "_law_home", "_law_p", "_law_path_here", "_law_found"] (spLinks (kmk CR CM CC) CL K) := ⟨fY, _, ok_links FY B L GBo, bY, eY, mY⟩
  have GD : GF l.prog w K mg base CX0 6 "_law_locks" ["_law_names_here", "_law_cells"] (spLocks61 (kmk CR CM CC) CL K) := ⟨fD, _, ok_locks61 FD T L ML mgL GLI bzinit GO GT_ Gzask Gzwaiting Gzfree, bD, eD, mD⟩
  have GP : GF l.prog w K mg base CX0 2 "_law_path" ["_law_names_here", "_law_p", "_law_home", "_law_cell"] (spPath61 K) := ⟨fP, _, ok_path61 FP B, bP, eP, mP⟩
  have GU : GF l.prog w K mg base CX0 7 "_law_right" ["_law_locks_here", "_law_home", "_law_p", "_law_path_here"] (spRight61 (kmk CR CM CC) CL K Pt) := ⟨fU, _, ok_right61 FU B L GQ GY GE GBo, bU, eU, mU⟩
  exact ok_law FZ B L GA GN GD GP GU Gzheld Gzwaiting
theorem walk {l : PySem.W.OpenLaw} {q : Program} {loose : List Str} {XP : (Str → Option Value) → Heap → Prop} {YP : World → Heap → Prop} {d : DefRec} {K : Params → PySem.W.Frag} (hn : l.most = some 63) (hdf : d.params.defaults = [])
    (hY : ∀ (w : World) (h : Heap), YP w h → (K w.params).In h)
    (F : ∀ (w : World) (mg : Str → Option Value) (fa : Addr) (h : Heap), YP w h → (K w.params).In h → h.Ns mainGlobals mg → mg d.name = some (.ref fa) →
      ∃ (fd : FuncData) (cc Pt : Addr), (∀ (s : Shared) (u : Value), BindsTo s fd ⟨[u], []⟩ [("_law_script", u)]) ∧ PySem.W.codeHdIn (K w.params) cc Pt = true ∧ h.get? Pt = some (PySem.W.tabObj #[]) ∧ PySem.W.noTabs (K w.params) = true ∧
        ∀ base : Heap, (K w.params).In base → BB mg base → FnOk l.prog w (K w.params) mg base CX0 8 fa fd ["_law_script"] (spLawT (K w.params) Pt)) :
    PySem.W.WalkO q loose XP YP l.row.toRowW d [] (fun f vs => PySem.call f vs) :=
  L2.walk_ofT (n := 63) (k := 8) (x := "_law_script") (sp := fun w Pt => spLawT (K w.params) Pt) hn (by decide) hdf ⟨rfl, by decide, by decide⟩ hY F fun w Pt H a ns hl hS hP => ⟨a, ns, rfl, hS, hl, hP, fun _ => rfl⟩
end K61
open PySem PySem.W PyProof.Rows
set_option maxRecDepth 100000 in
set_option maxHeartbeats 0 in
theorem PySem.Challenge.cw_pactroom_k61_links_of_a_chase_holds : PySem.Challenge.rw_pactroom_k61_links_of_a_chase.Holds := by
  w_on; o_law; k_head; (case hw => w_witness2)
  k_fill
  refine K61.walk (l := PySem.Challenge.rw_pactroom_k61_links_of_a_chase) rfl rfl (fun w h Y => PySem.W.km_in_of Y) ?F
  case F =>
    intro w mg fa h Y KX G hmg
    refine' K61.all_mk KX G hmg ?nR ?pgR ?hdR ?poR ?saR ?mkR ?kcR ?nFR ?nLR ?akR ?jkR ?lkR ?ckR ?ekR ?nM ?pgM ?hdM ?poM ?saM ?mkM ?kcM ?nFM ?nLM ?akM ?jkM ?lkM ?ckM ?ekM ?nC ?pgC ?hdC ?poC ?saC ?mkC ?kcC ?nFC ?nLC ?akC ?jkC ?lkC ?ckC ?ekC ?aiR ?aiM ?aiC ?ji ?li ?ci ?ei ?atR ?atM ?atC ?jt ?lt ?ct ?et ?abR ?abM ?abC ?jb ?lb ?cb ?eb ?avR ?avM ?avC ?jv ?lv ?cv ?ev ?nL ?pgL ?hdL ?poL ?saL ?mkL ?kcL ?nP ?nKL ?azinit ?jzinit ?lzinit ?czinit ?ezinit ?azhinderer ?jzhinderer ?lzhinderer ?czhinderer ?ezhinderer ?azheldpairs ?jzheldpairs ?lzheldpairs ?czheldpairs ?ezheldpairs ?azwaitingpairs ?jzwaitingpairs ?lzwaitingpairs ?czwaitingpairs ?ezwaitingpairs ?azheld ?jzheld ?lzheld ?czheld ?ezheld ?azwaiting ?jzwaiting ?lzwaiting ?czwaiting ?ezwaiting ?azwaitingplace ?jzwaitingplace ?lzwaitingplace ?czwaitingplace ?ezwaitingplace ?azask ?jzask ?lzask ?czask ?ezask ?azfree ?jzfree ?lzfree ?czfree ?ezfree ?azbehind ?jzbehind ?lzbehind ?czbehind ?ezbehind ?aA ?lA ?cA ?eA ?aO ?lO ?cO ?eO ?aT_ ?lT_ ?cT_ ?eT_ ?aN ?lN ?cN ?eN ?aV ?lV ?cV ?eV ?aQ ?lQ ?cQ ?eQ ?aE ?lE ?cE ?eE ?aY ?lY ?cY ?eY ?aD ?lD ?cD ?eD ?aP ?lP ?cP ?eP ?aU ?lU ?cU ?eU ?aZ ?lZ ?cZ ?eZ ?y_isinstance ?y_int ?y_bool ?y_str ?y_len ?y_range ?y_tuple ?y_list ?y_any ?y_all ?y_max ?y_sorted ?nS ?lS ?lS0 ?lS1 ?lS2 ?nRk ?lRk ?qRk ?tRk ?hcc ?lC ?hPt ?hC ?hT ?hN
    (case nR => k_is)
    (case pgR => k_is)
    (case hdR => k_is)
    (case poR => k_is)
    (case saR => k_is)
    (case mkR => k_is)
    (case kcR => k_is)
    (case nFR => k_is)
    (case nLR => k_is)
    (case akR => k_is)
    (case jkR => k_is)
    (case lkR => k_is)
    (case ckR => k_is)
    (case ekR => k_is)
    (case nM => k_is)
    (case pgM => k_is)
    (case hdM => k_is)
    (case poM => k_is)
    (case saM => k_is)
    (case mkM => k_is)
    (case kcM => k_is)
    (case nFM => k_is)
    (case nLM => k_is)
    (case akM => k_is)
    (case jkM => k_is)
    (case lkM => k_is)
    (case ckM => k_is)
    (case ekM => k_is)
    (case nC => k_is)
    (case pgC => k_is)
    (case hdC => k_is)
    (case poC => k_is)
    (case saC => k_is)
    (case mkC => k_is)
    (case kcC => k_is)
    (case nFC => k_is)
    (case nLC => k_is)
    (case akC => k_is)
    (case jkC => k_is)
    (case lkC => k_is)
    (case ckC => k_is)
    (case ekC => k_is)
    (case aiR => k_is)
    (case aiM => k_is)
    (case aiC => k_is)
    (case ji => k_is)
    (case li => k_is)
    (case ci => k_is)
    (case ei => k_is)
    (case atR => k_is)
    (case atM => k_is)
    (case atC => k_is)
    (case jt => k_is)
    (case lt => k_is)
    (case ct => k_is)
    (case et => k_is)
    (case abR => k_is)
    (case abM => k_is)
    (case abC => k_is)
    (case jb => k_is)
    (case lb => k_is)
    (case cb => k_is)
    (case eb => k_is)
    (case avR => k_is)
    (case avM => k_is)
    (case avC => k_is)
    (case jv => k_is)
    (case lv => k_is)
    (case cv => k_is)
    (case ev => k_is)
    (case nL => k_is)
    (case pgL => k_is)
    (case hdL => k_is)
    (case poL => k_is)
    (case saL => k_is)
    (case mkL => k_is)
    (case kcL => k_is)
    (case nP => k_is)
    (case nKL => k_is)
    (case azinit => k_is)
    (case jzinit => k_is)
    (case lzinit => k_is)
    (case czinit => k_is)
    (case ezinit => k_is)
    (case azhinderer => k_is)
    (case jzhinderer => k_is)
    (case lzhinderer => k_is)
    (case czhinderer => k_is)
    (case ezhinderer => k_is)
    (case azheldpairs => k_is)
    (case jzheldpairs => k_is)
    (case lzheldpairs => k_is)
    (case czheldpairs => k_is)
    (case ezheldpairs => k_is)
    (case azwaitingpairs => k_is)
    (case jzwaitingpairs => k_is)
    (case lzwaitingpairs => k_is)
    (case czwaitingpairs => k_is)
    (case ezwaitingpairs => k_is)
    (case azheld => k_is)
    (case jzheld => k_is)
    (case lzheld => k_is)
    (case czheld => k_is)
    (case ezheld => k_is)
    (case azwaiting => k_is)
    (case jzwaiting => k_is)
    (case lzwaiting => k_is)
    (case czwaiting => k_is)
    (case ezwaiting => k_is)
    (case azwaitingplace => k_is)
    (case jzwaitingplace => k_is)
    (case lzwaitingplace => k_is)
    (case czwaitingplace => k_is)
    (case ezwaitingplace => k_is)
    (case azask => k_is)
    (case jzask => k_is)
    (case lzask => k_is)
    (case czask => k_is)
    (case ezask => k_is)
    (case azfree => k_is)
    (case jzfree => k_is)
    (case lzfree => k_is)
    (case czfree => k_is)
    (case ezfree => k_is)
    (case azbehind => k_is)
    (case jzbehind => k_is)
    (case lzbehind => k_is)
    (case czbehind => k_is)
    (case ezbehind => k_is)
    (case aA => k_is)
    (case lA => k_is)
    (case cA => k_is)
    (case eA => k_is)
    (case aO => k_is)
    (case lO => k_is)
    (case cO => k_is)
    (case eO => k_is)
    (case aT_ => k_is)
    (case lT_ => k_is)
    (case cT_ => k_is)
    (case eT_ => k_is)
    (case aN => k_is)
    (case lN => k_is)
    (case cN => k_is)
    (case eN => k_is)
    (case aV => k_is)
    (case lV => k_is)
    (case cV => k_is)
    (case eV => k_is)
    (case aQ => k_is)
    (case lQ => k_is)
    (case cQ => k_is)
    (case eQ => k_is)
    (case aE => k_is)
    (case lE => k_is)
    (case cE => k_is)
    (case eE => k_is)
    (case aY => k_is)
    (case lY => k_is)
    (case cY => k_is)
    (case eY => k_is)
    (case aD => k_is)
    (case lD => k_is)
    (case cD => k_is)
    (case eD => k_is)
    (case aP => k_is)
    (case lP => k_is)
    (case cP => k_is)
    (case eP => k_is)
    (case aU => k_is)
    (case lU => k_is)
    (case cU => k_is)
    (case eU => k_is)
    (case aZ => k_is)
    (case lZ => k_is)
    (case cZ => k_is)
    (case eZ => k_is)
    (case y_isinstance => k_is)
    (case y_int => k_is)
    (case y_bool => k_is)
    (case y_str => k_is)
    (case y_len => k_is)
    (case y_range => k_is)
    (case y_tuple => k_is)
    (case y_list => k_is)
    (case y_any => k_is)
    (case y_all => k_is)
    (case y_max => k_is)
    (case y_sorted => k_is)
    (case nS => k_is)
    (case lS => k_is)
    (case lS0 => k_is)
    (case lS1 => k_is)
    (case lS2 => k_is)
    (case nRk => k_is)
    (case lRk => k_is)
    (case qRk => rfl)
    (case tRk => kernel_rfl)
    (case hcc => exact rfl)
    (case lC => k_is)
    (case hPt => exact rfl)
    (case hC => kernel_rfl)
    (case hT => exact PySem.W.km_tabs_of Y _ (by k_mem))
    (case hN => kernel_rfl)
#print axioms PySem.Challenge.cw_pactroom_k61_links_of_a_chase_holds

