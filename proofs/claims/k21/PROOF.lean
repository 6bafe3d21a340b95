import PyProof.Rows.All
import Wide.All
import OpenK.AllK
import Wide.FinOn
import Lean
import PyProof.EqAt
import PyProof.EqKinds
import PyProof.TupleCall
import PySem.Challenge.RW_pactroom_k21_steps_there_and_back
set_option Elab.async false
set_option linter.all false
set_option maxRecDepth 100000
/-! THE HAND LAYER, for ints, bools, texts, own classes, LISTS and tuples (index, slices, in, append, pop ..), calls, loops. Paste it whole ahead of your own text; what your proof does not reach may be deleted. -/
namespace L2
open PySem PySem.Spec PyProof.Rows

/-- a key: an int or a str -/
abbrev Key := Sum Int Str
def keyIs : Key → Value → Bool
  | .inl k, v => Value.isInt k v
  | .inr x, v => Value.isStrOf x v
def keyH (w : World) : Key → Int
  | .inl k => hashInt k
  | .inr x => hashStr w x
theorem keyIs_shape : ∀ {k : Key} {v : Value}, keyIs k v = true → (∃ i t, k = Sum.inl i ∧ v = Value.int i t) ∨ (∃ x t, k = Sum.inr x ∧ v = Value.str x t)
  | .inl i, v, h => by
    obtain ⟨t, e⟩ := Value.isInt_shape (k := i) (v := v) h
    exact .inl ⟨i, t, rfl, e⟩
  | .inr x, v, h => by
    obtain ⟨t, e⟩ := Value.isStrOf_shape (x := x) (v := v) h
    exact .inr ⟨x, t, rfl, e⟩
theorem keyIs_int (i : Int) (t : Tok) : keyIs (.inl i) (.int i t) = true := by simp [keyIs, Value.isInt]
theorem keyIs_str (x : Str) (t : Tok) : keyIs (.inr x) (.str x t) = true := by simp [keyIs, Value.isStrOf]
theorem key_ll (a b : Int) : decide ((Sum.inl a : Key) = Sum.inl b) = (a == b) := by
  by_cases e : a = b
  · subst e; simp
  · have h : ¬ (Sum.inl a : Key) = Sum.inl b := fun q => e (Sum.inl.inj q)
    rw [decide_eq_false h]
    exact (beq_eq_false_iff_ne.mpr e).symm
theorem key_rr (a b : Str) : decide ((Sum.inr a : Key) = Sum.inr b) = decide (a = b) := by
  by_cases e : a = b
  · subst e; simp
  · have h : ¬ (Sum.inr a : Key) = Sum.inr b := fun q => e (Sum.inr.inj q)
    rw [decide_eq_false h, decide_eq_false e]
theorem key_lr (a : Int) (b : Str) : decide ((Sum.inl a : Key) = Sum.inr b) = false := decide_eq_false (fun q => nomatch q)
theorem key_rl (a : Str) (b : Int) : decide ((Sum.inr a : Key) = Sum.inl b) = false := decide_eq_false (fun q => nomatch q)

def mixKind (prog : Program) (w : World) : PySem.KeyKind prog w Key where
  is := keyIs
  hash := keyH w
  inj := fun v a b ha hb => by
    rcases keyIs_shape ha with ⟨i, t, rfl, rfl⟩ | ⟨x, t, rfl, rfl⟩
    · rcases keyIs_shape hb with ⟨j, u, rfl, e⟩ | ⟨y, u, rfl, e⟩
      · injection e with e1 _; rw [e1]
      · exact nomatch e
    · rcases keyIs_shape hb with ⟨j, u, rfl, e⟩ | ⟨y, u, rfl, e⟩
      · exact nomatch e
      · injection e with e1 _; rw [e1]
  byValue := fun k v h => by
    rcases keyIs_shape h with ⟨i, t, rfl, rfl⟩ | ⟨x, t, rfl, rfl⟩ <;> rfl
  pyHash := fun hv h => by
    rcases keyIs_shape hv with ⟨i, t, rfl, rfl⟩ | ⟨x, t, rfl, rfl⟩
    · exact wpAny_pyHash_int h
    · exact wpAny_pyHash_str h
  eqBool := fun hu hv h => by
    rcases keyIs_shape hu with ⟨i, t, rfl, rfl⟩ | ⟨x, t, rfl, rfl⟩
    · rcases keyIs_shape hv with ⟨j, u, rfl, rfl⟩ | ⟨y, u, rfl, rfl⟩
      · rw [key_ll] at h; exact wpAny_eqBool_int h
      · rw [key_lr] at h; exact SeqAt.EqAt.int_str i t y u _ _ _ _ h
    · rcases keyIs_shape hv with ⟨j, u, rfl, rfl⟩ | ⟨y, u, rfl, rfl⟩
      · rw [key_rl] at h; exact SeqAt.EqAt.str_int x t j u _ _ _ _ h
      · rw [key_rr] at h; exact wpAny_eqBool_str h
  «strs» := fun k x t v h => by
    rcases keyIs_shape h with ⟨i, u, rfl, e⟩ | ⟨y, u, rfl, e⟩
    · exact nomatch e
    · injection e with e1 _
      subst e1
      cases v <;> rfl

theorem mixKind_int (prog : Program) (w : World) (i : Int) (t : Tok) : (mixKind prog w).is (.inl i) (.int i t) = true := keyIs_int i t
theorem mixKind_str (prog : Program) (w : World) (x : Str) (t : Tok) : (mixKind prog w).is (.inr x) (.str x t) = true := keyIs_str x t
end L2

namespace L2
open PySem PySem.Spec PyProof.Rows

/-- a value, without the heap -/
inductive V where
  | non | bl (b : Bool) | int (i : Int) | str (x : Str) | byt (b : Array UInt8) | flt (b : UInt64) | ref (a : Addr) | ty (n : String)
  deriving DecidableEq

def RelV : V → Value → Prop
  | .non, u => u = Value.none
  | .bl b, u => u = Value.bool b
  | .int i, u => ∃ t, u = Value.int i t
  | .str x, u => ∃ t, u = Value.str x t
  | .byt b, u => ∃ t, u = Value.bytes b t
  | .flt b, u => ∃ t, u = Value.float b t
  | .ref a, u => u = Value.ref a
  | .ty n, u => u = Value.type n

abbrev Vals : List V → List Value → Prop := Paired RelV
theorem Vals.length {xs : List V} {us : List Value} (r : Vals xs us) : xs.length = us.length := Paired.length r
theorem Vals.get : ∀ {xs : List V} {us : List Value} {i : Nat} {x : V}, Vals xs us → xs[i]? = some x → ∃ u, us[i]? = some u ∧ RelV x u
  | _, _, _, _, .nil, e => by simp at e
  | _, _, 0, _, .cons r _, e => by simp at e; subst e; exact ⟨_, rfl, r⟩
  | _, _, i + 1, x, .cons _ t, e => by
    obtain ⟨u, h1, h2⟩ := Vals.get (i := i) (x := x) t (by simpa using e)
    exact ⟨u, by simpa using h1, h2⟩
theorem Vals.append : ∀ {xs ys : List V} {us ws : List Value}, Vals xs us → Vals ys ws → Vals (xs ++ ys) (us ++ ws)
  | _, _, _, _, .nil, s => s
  | _, _, _, _, .cons r t, s => .cons r (Vals.append t s)
theorem Vals.take : ∀ {xs : List V} {us : List Value} (n : Nat), Vals xs us → Vals (xs.take n) (us.take n)
  | _, _, 0, _ => .nil
  | _, _, _ + 1, .nil => .nil
  | _, _, n + 1, .cons r t => .cons r (Vals.take n t)
theorem Vals.drop : ∀ {xs : List V} {us : List Value} (n : Nat), Vals xs us → Vals (xs.drop n) (us.drop n)
  | _, _, 0, r => r
  | _, _, _ + 1, .nil => .nil
  | _, _, n + 1, .cons _ t => Vals.drop n t
def RelO : Option V → Option Value → Prop
  | some v, some u => RelV v u
  | none, none => True
  | _, _ => False
def KV {κ : Type} : List (κ × V) → List (κ × Value) → Prop := Paired fun (p : κ × V) (q : κ × Value) => p.1 = q.1 ∧ RelV p.2 q.2

/-- a key of a dict (00_mix): an int or a text -/
def kV : Key → V
  | .inl i => .int i
  | .inr x => .str x

/-- what stands at a tracked address -/
inductive HO where
  /-- a list -/
  | lst (xs : List V)
  /-- a tuple (never changes) -/
  | tup (xs : List V)
  /-- a dict whose keys are ints and texts; one whose keys are tuples of ints and texts (the empty one is both) -/
  | dK (kvs : List (Key × V)) | dT (kvs : List (List Key × V))
  /-- a set of ints: its members, its size -/
  | set (S : Int → Bool) (n : Nat)
  /-- an instance of the class at C, its dict at dx, its attributes -/
  | ins (C dx : Addr) (fs : List (Str × V))
  /-- the dict of the instance at x -/
  | own (x : Addr)
  /-- the dict of an exception -/
  | xd (fs : List (Str × V))
  /-- a bound method, f of x -/
  | met (f x : Addr)
  /-- a range object lo, lo + 1, .. below hi -/
  | rng (lo hi : Int)
  /-- a thing that is known to the object (the script; a dict while a loop walks it): read, never written while it is so -/
  | frz (o : Obj) (u : HO)
  /-- a code object's table -/
  | tbl (ps : Array Value)
  /-- any other thing, by what is true of its one object (a def of one's own: SetO a S n := HO.ext fun h => ..) -/
  | ext (φ : Heap → Prop)

abbrev Hp := Addr → Option HO
def upd (H : Hp) (a : Addr) (o : HO) : Hp := fun b => if b = a then some o else H b
theorem upd_same {H : Hp} {a : Addr} {o : HO} : upd H a o a = some o := by unfold upd; rw [if_pos rfl]
theorem upd_ne {H : Hp} {a b : Addr} {o : HO} (h : b ≠ a) : upd H a o b = H b := by unfold upd; rw [if_neg h]
theorem ne_of_none {H : Hp} {a b : Addr} {o : HO} (h : H a = some o) (h' : H b = none) : a ≠ b := by
  intro e; subst e; rw [h] at h'; cases h'

section
variable (P : Program) (w : World)
def ObjOk (H : Hp) (h : Heap) (a : Addr) : HO → Prop
  | .lst xs => xs.length ≤ sizeLine ∧ ∃ (its : List Value) (n : Nat), Vals xs its ∧ h.get? a = some { cls := .type "list", data := .seq its.toArray n }
  | .tup xs => xs.length ≤ sizeLine ∧ ∃ its : List Value, Vals xs its ∧ IsTup h a its.toArray
  | .dK kvs => kvs.length ≤ sizeLine ∧ (a == sysModules) = false ∧ ∃ vs, KV kvs vs ∧ h.DictOf (mixKind P w) a vs
  | .dT kvs => kvs.length ≤ sizeLine ∧ (a == sysModules) = false ∧ ∃ xs : List (List Key × Addr × Value),
      Paired (fun (p : List Key × V) (q : List Key × Addr × Value) => p.1 = q.1 ∧ H q.2.1 = some (.tup (p.1.map kV)) ∧ RelV p.2 q.2.2) kvs xs ∧
      ∃ o es ep, h.get? a = some o ∧ o.ExactDict ∧ o.data = .dict es ep ∧ es.toList = xs.map (entryOfKey (tupleKind (mixKind P w))) ∧ (xs.map (·.1)).Nodup
  | .set S n => h.SetOf (intKind P w) a S n
  | .ins C dx fs => H dx = some (.own a) ∧ fs.length ≤ 1000 ∧ dx ≠ a ∧ h.get? a = some (PySem.W.instObj C dx) ∧
      ∃ mA, h.Ns1 dx mA ∧ (∀ f, RelO (fs.lookup f) (mA f)) ∧ PySem.Within mA (fs.map (·.1))
  | .own _ => ∃ o, h.get? a = some o
  | .xd fs => ∃ mA, h.Ns1 a mA ∧ ∀ f, RelO (fs.lookup f) (mA f)
  | .rng lo hi => ∃ t u v, h.get? a = some { cls := .type "range", data := .fields #[.int lo t, .int hi u, .int 1 v] }
  | .frz o u => h.get? a = some o ∧ ObjOk H h a u
  | .tbl ps => h.get? a = some { cls := .none, data := .fields ps }
  | .met f x => h.get? a = some (PySem.W.methodObj (.ref f) (.ref x))
  | .ext φ => φ h ∧ (∃ o, h.get? a = some o) ∧ ∀ h1 h2 : Heap, φ h1 → (∀ o, h1.get? a = some o → h2.get? a = some o) → φ h2
/-- the abstract heap is held -/
def HOk (H : Hp) (h : Heap) : Prop := ∀ a o, H a = some o → ObjOk P w H h a o
end

section
variable {P : Program} {w : World} {H H' : Hp} {h h' : Heap} {a : Addr} {o : HO}
theorem ObjOk.lt (x : ObjOk P w H h a o) : a < h.objs.size := by
  cases o with
  | lst xs => obtain ⟨_, _, _, _, e⟩ := x; exact Heap.lt_size e
  | tup xs => obtain ⟨_, _, _, p⟩ := x; exact p.lt
  | dK kvs => obtain ⟨_, _, _, _, o, _, _, e, _⟩ := x; exact Heap.lt_size e
  | dT kvs => obtain ⟨_, _, _, _, o, _, _, e, _⟩ := x; exact Heap.lt_size e
  | set S n => obtain ⟨o, _, _, _, e, _⟩ := x; exact Heap.lt_size e
  | ins C dx fs => obtain ⟨_, _, _, e, _⟩ := x; exact Heap.lt_size e
  | own y => obtain ⟨_, e⟩ := x; exact Heap.lt_size e
  | xd fs => obtain ⟨_, ⟨_, _, _, e, _⟩, _⟩ := x; exact Heap.lt_size e
  | rng lo hi => obtain ⟨_, _, _, e⟩ := x; exact Heap.lt_size e
  | frz ob u => obtain ⟨e, _⟩ := x; exact Heap.lt_size e
  | tbl ps => exact Heap.lt_size (show h.get? a = some _ from x)
  | met f y => exact Heap.lt_size (show h.get? a = some _ from x)
  | ext φ => obtain ⟨_, ⟨_, e⟩, _⟩ := x; exact Heap.lt_size e
theorem Paired.mapP {α β : Type} {F G : α → β → Prop} : ∀ {l₁ : List α} {l₂ : List β}, Paired F l₁ l₂ → (∀ a b, F a b → G a b) → Paired G l₁ l₂
  | _, _, .nil, _ => .nil
  | _, _, .cons r t, f => .cons (f _ _ r) (Paired.mapP t f)
/-- what an object's description leans on: its own object, its own dict, the tuples -/
theorem ObjOk.stay (x : ObjOk P w H h a o) (k : ∀ b u, (b = a ∨ H b = some (.own a)) → h.get? b = some u → h'.get? b = some u)
    (ho : ∀ b, H b = some (.own a) → H' b = some (.own a)) (ht : ∀ b xs, H b = some (.tup xs) → H' b = some (.tup xs)) : ObjOk P w H' h' a o := by
  induction o with
  | lst xs => obtain ⟨z, its, n, r, e⟩ := x; exact ⟨z, its, n, r, k _ _ (.inl rfl) e⟩
  | tup xs => obtain ⟨z, its, r, ob, e, c⟩ := x; exact ⟨z, its, r, ob, k _ _ (.inl rfl) e, c⟩
  | dK kvs => obtain ⟨z, y, vs, r, ob, es, ep, e, c⟩ := x; exact ⟨z, y, vs, r, ob, es, ep, k _ _ (.inl rfl) e, c⟩
  | dT kvs =>
    obtain ⟨z, y, xs, r, ob, es, ep, e, c⟩ := x
    exact ⟨z, y, xs, Paired.mapP r fun p q z => ⟨z.1, ht _ _ z.2.1, z.2.2⟩, ob, es, ep, k _ _ (.inl rfl) e, c⟩
  | set S n => obtain ⟨ob, es, ep, t, e, c⟩ := x; exact ⟨ob, es, ep, t, k _ _ (.inl rfl) e, c⟩
  | ins C dx fs =>
    obtain ⟨d, z, ne, e, mA, ⟨od, es, ep, e2, c⟩, r⟩ := x
    exact ⟨ho _ d, z, ne, k _ _ (.inl rfl) e, mA, ⟨od, es, ep, k _ _ (.inr d) e2, c⟩, r⟩
  | own y => obtain ⟨ob, e⟩ := x; exact ⟨ob, k _ _ (.inl rfl) e⟩
  | xd fs => obtain ⟨mA, ⟨od, es, ep, e, c⟩, r⟩ := x; exact ⟨mA, ⟨od, es, ep, k _ _ (.inl rfl) e, c⟩, r⟩
  | rng lo hi => obtain ⟨t, u, v, e⟩ := x; exact ⟨t, u, v, k _ _ (.inl rfl) e⟩
  | frz ob u ih => obtain ⟨e, q⟩ := x; exact ⟨k _ _ (.inl rfl) e, ih q⟩
  | tbl ps =>
    have e : h.get? a = some { cls := .none, data := .fields ps } := x
    show h'.get? a = some { cls := .none, data := .fields ps }
    exact k a _ (.inl rfl) e
  | met f y =>
    have e : h.get? a = some (PySem.W.methodObj (.ref f) (.ref y)) := x
    show h'.get? a = some (PySem.W.methodObj (.ref f) (.ref y))
    exact k a _ (.inl rfl) e
  | ext φ => obtain ⟨p, ⟨o, e⟩, st⟩ := x; exact ⟨st _ _ p fun o q => k _ _ (.inl rfl) q, ⟨o, k _ _ (.inl rfl) e⟩, st⟩
theorem HOk.lt (x : HOk P w H h) (e : H a = some o) : a < h.objs.size := (x a o e).lt
theorem HOk.fresh (x : HOk P w H h) (e : h.objs.size ≤ a) : H a = none := by
  cases q : H a with
  | none => rfl
  | some u => exact absurd (Nat.lt_of_lt_of_le (x.lt q) e) (Nat.lt_irrefl _)
/-- every object of the heap is kept -/
theorem HOk.kept (x : HOk P w H h) (k : ∀ b u, h.get? b = some u → h'.get? b = some u) : HOk P w H h' := fun a o e =>
  (x a o e).stay (fun b u _ q => k b u q) (fun _ q => q) fun _ _ q => q
/-- a new object is laid and tracked -/
theorem HOk.laid (x : HOk P w H h) (k : ∀ b u, h.get? b = some u → h'.get? b = some u) (hp : h.objs.size ≤ a) (new : ObjOk P w (upd H a o) h' a o) : HOk P w (upd H a o) h' := fun b u e => by
  have hn := x.fresh hp
  by_cases hb : b = a
  · subst hb; rw [upd_same] at e; cases e; exact new
  · rw [upd_ne hb] at e
    exact (x b u e).stay (fun c v _ q => k c v q) (fun c q => by rw [upd_ne (ne_of_none q hn)]; exact q) fun c xs q => by rw [upd_ne (ne_of_none q hn)]; exact q
end

/-- what may be read as u: it is u, or a known u -/
def Rd (H : Hp) (a : Addr) (u : HO) : Prop := H a = some u ∨ ∃ o, H a = some (.frz o u)
theorem Rd.ok {P : Program} {w : World} {H : Hp} {h : Heap} {a : Addr} {u : HO} (r : Rd H a u) (x : HOk P w H h) : ObjOk P w H h a u := by
  rcases r with r | ⟨o, r⟩
  · exact x a u r
  · obtain ⟨_, q⟩ := x a _ r
    exact q
/-- what may be written -/
def Mut : Option HO → Prop
  | some (.lst _) => True
  | some (.dK _) => True
  | some (.dT _) => True
  | some (.set _ _) => True
  | some (.ins _ _ _) => True
  | some (.ext _) => True
  | _ => False
section
variable {P : Program} {w : World} {H : Hp} {h h' : Heap} {x e : Addr} {o' : HO}
/-- the object at e is changed: x itself, or the dict of the instance x -/
theorem HOk.write (ok : HOk P w H h) (mu : Mut (H x)) (he : e = x ∨ H e = some (.own x)) (k : ∀ b u, b ≠ e → h.get? b = some u → h'.get? b = some u) (heo : ∃ u, h'.get? e = some u)
    (new : ObjOk P w (upd H x o') h' x o') : HOk P w (upd H x o') h' := fun b u q => by
  have nown : ∀ c y, H c = some (.own y) → c ≠ x := fun c y r z => by subst z; rw [r] at mu; exact mu
  have ntup : ∀ c xs, H c = some (.tup xs) → c ≠ x := fun c xs r z => by subst z; rw [r] at mu; exact mu
  by_cases hb : b = x
  · subst hb; rw [upd_same] at q; cases q; exact new
  · rw [upd_ne hb] at q
    by_cases hbe : b = e
    · have q' : H b = some (.own x) := by
        rcases he with z | z
        · exact absurd (hbe.trans z) hb
        · rw [hbe]; exact z
      rw [q] at q'; cases q'
      obtain ⟨v, hv⟩ := heo
      exact ⟨v, by rw [hbe]; exact hv⟩
    · refine (ok b u q).stay (fun c v hc r => k c v ?_ r) (fun c r => by rw [upd_ne (nown c b r)]; exact r) fun c xs r => by rw [upd_ne (ntup c xs r)]; exact r
      rcases hc with rfl | hc
      · exact hbe
      · rintro rfl
        rcases he with z | z
        · exact nown c b hc z
        · rw [hc] at z; cases z; exact hb rfl
end

/-! ### kept unless tracked; of the frames at fs (the callers') the slots may change (an exception that passes writes there); of the records at ex (iterators) nothing is said -/
structure Un (fs ex : List Addr) (H H' : Hp) (h h' : Heap) : Prop where
  keep : ∀ b o, h.get? b = some o → H b = none → b ∉ fs → b ∉ ex → h'.get? b = some o
  slot : ∀ b o, h.get? b = some o → H b = none → b ∈ fs → b ∉ ex → ∃ sl, h'.get? b = some { o with slots := sl }
  free : ∀ b o, h.get? b = some o → H b = none → b ∉ ex → H' b = none
  there : ∀ b o, h.get? b = some o → b ∉ ex → ∃ o', h'.get? b = some o'
  tups : ∀ b xs, H b = some (.tup xs) → H' b = some (.tup xs)
  frzs : ∀ b o u, H b = some (.frz o u) → H' b = some (.frz o u)
  tbls : ∀ b ps, H b = some (.tbl ps) → ∃ more, H' b = some (.tbl (ps ++ more))
section
variable {fs fs' ex ex' : List Addr} {H H1 H2 : Hp} {h h1 h2 h' : Heap} {a x e : Addr} {o : HO}
theorem Un.any (u : Un fs ex H H1 h h1) {b : Addr} {ob : Obj} (q : h.get? b = some ob) (n : H b = none) (hx : b ∉ ex) : ∃ sl, h1.get? b = some { ob with slots := sl } := by
  by_cases hb : b ∈ fs
  · exact u.slot b ob q n hb hx
  · exact ⟨ob.slots, u.keep b ob q n hb hx⟩
theorem Un.kept (k : ∀ b u, h.get? b = some u → h'.get? b = some u) : Un fs ex H H h h' :=
  ⟨fun b ob q _ _ _ => k b ob q, fun b ob q _ _ _ => ⟨ob.slots, k b ob q⟩, fun _ _ _ n _ => n, fun b ob q _ => ⟨ob, k b ob q⟩, fun _ _ q => q, fun _ _ _ q => q, fun _ ps q => ⟨#[], by rw [q]; simp⟩⟩
theorem Un.refl : Un fs ex H H h h := Un.kept fun _ _ q => q
theorem Un.laid (k : ∀ b u, h.get? b = some u → h'.get? b = some u) (hp : h.objs.size ≤ a) (hn : H a = none) : Un fs ex H (upd H a o) h h' where
  keep := fun b u q _ _ _ => k b u q
  slot := fun b u q _ _ _ => ⟨u.slots, k b u q⟩
  free := fun b u q n _ => by rw [upd_ne (Nat.ne_of_lt (Nat.lt_of_lt_of_le (Heap.lt_size q) hp))]; exact n
  there := fun b u q _ => ⟨u, k b u q⟩
  tups := fun b xs q => by rw [upd_ne (ne_of_none q hn)]; exact q
  frzs := fun b u xs q => by rw [upd_ne (ne_of_none q hn)]; exact q
  tbls := fun b ps q => ⟨#[], by rw [upd_ne (ne_of_none q hn), q]; simp⟩
theorem Un.write (mu : Mut (H x)) (he : e = x ∨ H e = some (.own x)) (k : ∀ b u, b ≠ e → h.get? b = some u → h'.get? b = some u) (heo : ∃ u, h'.get? e = some u) : Un fs ex H (upd H x o) h h' := by
  have hx : ∀ b, H b = none → b ≠ x := fun b n z => by subst z; rw [n] at mu; exact mu
  have hb : ∀ b, H b = none → b ≠ e := fun b n z => by
    subst z
    rcases he with r | r
    · exact hx b n r
    · rw [n] at r; cases r
  have hm : ∀ b u, H b = some u → ¬ Mut (some u) → b ≠ x := fun b u q nm z => by subst z; rw [q] at mu; exact nm mu
  refine ⟨fun b u q n _ _ => k b u (hb b n) q, fun b u q n _ _ => ⟨u.slots, k b u (hb b n) q⟩, fun b u q n _ => by rw [upd_ne (hx b n)]; exact n, fun b u q _ => ?_,
    fun b xs q => by rw [upd_ne (hm b _ q fun z => z)]; exact q, fun b u xs q => by rw [upd_ne (hm b _ q fun z => z)]; exact q, fun b ps q => ⟨#[], by rw [upd_ne (hm b _ q fun z => z), q]; simp⟩⟩
  by_cases hbe : b = e
  · subst hbe; exact heo
  · exact ⟨u, k b u hbe q⟩
end

/-! ### the heap without what is tracked -/
def trk (h : Heap) (H : Hp) : List Addr := (List.range h.objs.size).filter fun a => (H a).isSome
def hidT (h : Heap) (H : Hp) : Heap := PySem.W.hideAll h (trk h H)
theorem hidT_size (h : Heap) (H : Hp) : (hidT h H).objs.size = h.objs.size := PySem.W.hideAll_size _ _
theorem hidT_get {h : Heap} {H : Hp} {b : Addr} {o : Obj} (e : h.get? b = some o) (n : H b = none) : (hidT h H).get? b = some o :=
  PySem.W.hideAll_get _ e fun hm => by
    have q : (H b).isSome = true := (List.mem_filter.mp hm).2
    rw [n] at q; simp at q
theorem of_hidT {h : Heap} {H : Hp} {b : Addr} {o : Obj} (e : (hidT h H).get? b = some o) : h.get? b = some o ∧ H b = none := by
  have e' : h.get? b = some o := PySem.W.of_hideAll (trk h H) e
  refine ⟨e', ?_⟩
  cases q : H b with
  | none => rfl
  | some x =>
    have hm : b ∈ trk h H := List.mem_filter.mpr ⟨List.mem_range.mpr (Heap.lt_size e'), by simp [q]⟩
    have z : (hidT h H).get? b = none := PySem.W.hideAll_none (trk h H) hm
    rw [z] at e; cases e

/-! ### OpenK's ledger, filled with every new object but one -/
def allNews (g h : Heap) (L : Addr) : List (Addr × Obj) := (List.range h.objs.size).filterMap fun a => if a = L ∨ (g.get? a).isSome = true then none else (h.get? a).map fun o => (a, o)
def rest (g h : Heap) (L d : Addr) : List (Addr × Obj) := (allNews g h L).filter fun p => decide (p.1 ≠ d)
end L2

namespace L2
open PySem PySem.Spec PyProof.Rows

/-- the module's facts, over the base: the heap at the law's entry without what is tracked there -/
structure Mod (K : PySem.W.Frag) (mg : Str → Option Value) (base : Heap) : Prop where
  kin : K.In base
  glob : base.Ns mainGlobals mg
  blt : ∃ mb, base.Ns builtinsNs mb ∧ ∀ x : Str, x ≠ "__name__" → mb x = bootBuiltins x
  nolimit : base.NoLimit

/-- the context: a def's body (or a comprehension's block) running. base: fixed through the whole law; s₀, H₀: the entry; outer: the frames whose slots others may change (a def's callers); stack: all frames that run;
   ex: iterators that were made ahead of the entry and are walked here (a comprehension's); fn: the names whose cells were made at the entry (a def: all; a comprehension's block: its own); calm: not within an except suite; pn: pins that every state bears; xe: what is wanted of an exception that leaves the code -/
structure Cx where
  prog : Program
  w : World
  K : PySem.W.Frag
  mg : Str → Option Value
  base : Heap
  A : Around
  N : List Str
  s₀ : Shared
  H₀ : Hp
  env : Env
  outer : List Env
  stack : List Env
  ex : List Addr
  fn : Str → Bool
  calm : Bool
  pn : List (Addr × Obj)
  xe : Value → Shared → Prop
/-- the callers' frames -/
def frs (l : List Env) : List Addr := l.filterMap (·.frame)
abbrev Cx.fs (X : Cx) : List Addr := frs X.outer

def Vis (sc : Scope) (x : Str) : Prop := sc.names.lookup x = some .local ∨ sc.names.lookup x = some .cell ∨ sc.names.lookup x = some .free
def Loc (sc : Scope) (x : Str) : Prop := sc.names.lookup x = some .local ∨ sc.names.lookup x = some .cell
def Look (env : Env) (h : Heap) (m : Str → Option Value) (x : Str) (u : Value) : Prop :=
  (env.kindOf x = some .local ∧ m x = some u) ∨ ((env.kindOf x = some .cell ∨ env.kindOf x = some .free) ∧ ∃ c, env.cells.lookup x = some c ∧ h.IsCell c (some u))

structure Cx.Ok (X : Cx) : Prop where
  mod : Mod X.K X.mg X.base
  kind : X.env.scope.kind = .function
  glob : X.env.globals = mainGlobals
  blt : X.env.builtins = builtinsNs
  above : X.s₀.heap.objs.size ≤ X.env.locals
  inj : ∀ x y c, X.env.cells.lookup x = some c → X.env.cells.lookup y = some c → x = y
  has : ∀ x, (X.env.kindOf x = some .cell ∨ X.env.kindOf x = some .free) → ∃ c, X.env.cells.lookup x = some c
  cab : ∀ x c, X.fn x = true → X.env.cells.lookup x = some c → X.s₀.heap.objs.size ≤ c
  hd : X.calm = true → X.A.handled = none
  frames : X.A.frames = some X.stack
  stk : X.stack = X.outer ∨ (X.stack = X.env :: X.outer ∧ X.env.frame = some X.env.locals)
  exf : ∀ b ∈ X.ex, b ≠ X.env.locals ∧ ∀ x c, X.env.cells.lookup x = some c → c ≠ b
  bs : ∀ b o, X.base.get? b = some o → X.s₀.heap.get? b = some o ∧ X.H₀ b = none
  bsz : X.base.objs.size ≤ X.s₀.heap.objs.size
  noex : ∀ b o, X.base.get? b = some o → b ∉ X.ex
  exfs : ∀ b ∈ X.ex, b ∉ X.fs
  funs : X.s₀.heap.FunFrames X.base X.outer
  frf : ∀ b ∈ X.fs, X.H₀ b = none

structure Inv (X : Cx) (pins : List (Addr × Obj)) (σ : List (Option V)) (H : Hp) (s : Shared) : Prop where
  ok : X.Ok
  os : s.os = X.s₀.os
  bare : AllBare s.gens
  base : Un X.fs X.ex X.H₀ H X.s₀.heap s.heap
  loc : ∃ m, s.heap.Ns X.env.locals m ∧ ∀ (i : Nat) (x : Str) (v : V), X.N[i]? = some x → σ[i]? = some (some v) → Vis X.env.scope x → ∃ u, RelV v u ∧ Look X.env s.heap m x u
  cell : ∀ x c, X.env.cells.lookup x = some c → ∃ v, s.heap.IsCell c v
  free : H X.env.locals = none
  freeC : ∀ x c, X.env.cells.lookup x = some c → H c = none
  pin : ∀ p ∈ X.pn ++ pins, s.heap.get? p.1 = some p.2 ∧ H p.1 = none ∧ p.1 ≠ X.env.locals ∧ p.1 ∉ X.fs ∧ ∀ v, p.2.data ≠ .cell v
  hok : HOk X.prog X.w H s.heap
  len : σ.length = X.N.length

section
variable {X : Cx} {pins : List (Addr × Obj)} {σ : List (Option V)} {H H' : Hp} {s : Shared} {h' : Heap}

theorem Cx.Ok.nofr (ok : X.Ok) {b : Addr} {o : Obj} (e : X.base.get? b = some o) : b ∉ X.fs := fun hb => by
  have := (ok.funs.mem hb).1
  rw [e] at this; cases this
theorem Inv.bs (I : Inv X pins σ H s) : ∀ b o, X.base.get? b = some o → s.heap.get? b = some o ∧ H b = none := fun b o e =>
  ⟨I.base.keep b o (I.ok.bs b o e).1 (I.ok.bs b o e).2 (I.ok.nofr e) (I.ok.noex b o e), I.base.free b o (I.ok.bs b o e).1 (I.ok.bs b o e).2 (I.ok.noex b o e)⟩
theorem Inv.bk (I : Inv X pins σ H s) : ∀ b o, X.base.get? b = some o → s.heap.get? b = some o := fun b o e => (I.bs b o e).1
theorem Inv.mod (I : Inv X pins σ H s) : Mod X.K X.mg X.base := I.ok.mod
theorem Inv.kIn (I : Inv X pins σ H s) : X.K.In s.heap := I.ok.mod.kin.keeps I.bk
theorem Inv.lt (I : Inv X pins σ H s) : X.env.locals < s.heap.objs.size := let ⟨_, hn, _⟩ := I.loc; hn.lt
theorem Inv.sz (I : Inv X pins σ H s) : X.s₀.heap.objs.size ≤ s.heap.objs.size := Nat.le_trans I.ok.above (Nat.le_of_lt I.lt)
theorem Inv.nofs (I : Inv X pins σ H s) {a : Addr} (h : s.heap.objs.size ≤ a) : a ∉ X.fs := fun hb => by
  obtain ⟨_, o, ho, _⟩ := I.ok.funs.mem hb
  exact absurd (Nat.lt_of_lt_of_le (Heap.lt_size ho) (Nat.le_trans I.sz h)) (Nat.lt_irrefl _)
theorem Inv.cne (I : Inv X pins σ H s) : ∀ x c, X.env.cells.lookup x = some c → c ≠ X.env.locals := fun x c e z => by
  obtain ⟨v, o, ho, hd⟩ := I.cell x c e
  obtain ⟨m, ⟨o', es, ep, ho', hd', _⟩, _⟩ := I.loc
  rw [z, ho'] at ho; cases ho; rw [hd'] at hd; cases hd
theorem Inv.funs (I : Inv X pins σ H s) : s.heap.FunFrames X.base X.outer := by
  have all : ∀ (l : List Env), (∀ b ∈ frs l, b ∈ X.fs) → X.s₀.heap.FunFrames X.base l → s.heap.FunFrames X.base l := by
    intro l
    induction l with
    | nil => intro _ _; trivial
    | cons env r ih =>
      intro hs hl
      obtain ⟨hk, ⟨L, o, hf, hn, ho, hd⟩, hr⟩ := hl
      have hL : L ∈ X.fs := hs L (by unfold frs; rw [List.filterMap_cons, hf]; exact List.mem_cons_self)
      obtain ⟨sl, e⟩ := I.base.slot L o ho (I.ok.frf L hL) hL fun z => I.ok.exfs L z hL
      exact ⟨hk, ⟨L, _, hf, hn, e, hd⟩, ih (fun b hb => hs b (by unfold frs; rw [List.filterMap_cons, hf]; exact List.mem_cons_of_mem _ hb)) hr⟩
  exact all X.outer (fun _ hb => hb) I.ok.funs

/-- the frames that run, for a call -/
theorem Inv.stack (I : Inv X pins σ H s) : s.heap.FunFrames X.base X.stack := by
  rcases I.ok.stk with e | ⟨e, hf⟩
  · rw [e]; exact I.funs
  · rw [e]
    obtain ⟨m, hn, _⟩ := I.loc
    refine .cons (by rw [I.ok.kind]; decide) hf hn ?_ I.funs
    exact Heap.get?_none_of_le (Nat.le_trans I.ok.bsz I.ok.above)
theorem Inv.stkSub (I : Inv X pins σ H s) : ∀ b ∈ frs X.stack, b ∈ X.env.locals :: X.fs := fun b hb => by
  rcases I.ok.stk with e | ⟨e, hf⟩
  · rw [e] at hb; exact List.mem_cons_of_mem _ hb
  · rw [e] at hb
    unfold frs at hb
    rw [List.filterMap_cons, hf] at hb
    exact hb
theorem Inv.stkFree (I : Inv X pins σ H s) : ∀ b ∈ frs X.stack, H b = none := fun b hb => by
  rcases List.mem_cons.mp (I.stkSub b hb) with e | hb
  · rw [e]; exact I.free
  · obtain ⟨_, o, ho, _⟩ := I.ok.funs.mem hb
    exact I.base.free b o ho (I.ok.frf b hb) fun z => I.ok.exfs b z hb

/-- THE STEP: the untracked objects but the frame and the records at ch are kept (the callers' frames up to slots), the frame's map is kept, the new abstract heap is held -/
theorem Inv.step {g' : Array GenState} {t' : Nat} {d' : Drawn} {ch : List Addr} (I : Inv X pins σ H s)
    (hch : ∀ b ∈ ch, (b ∈ X.ex ∨ X.s₀.heap.objs.size ≤ b) ∧ b ≠ X.env.locals ∧ (∀ x c, X.env.cells.lookup x = some c → c ≠ b) ∧ ∀ p ∈ X.pn ++ pins, p.1 ≠ b)
    (keep : ∀ b o, b ≠ X.env.locals → b ∉ X.fs → b ∉ ch → s.heap.get? b = some o → H b = none → h'.get? b = some o)
    (slot : ∀ b o, b ≠ X.env.locals → b ∈ X.fs → b ∉ ch → s.heap.get? b = some o → H b = none → ∃ sl, h'.get? b = some { o with slots := sl }) (free : ∀ b o, b ∉ ch → s.heap.get? b = some o → H b = none → H' b = none)
    (there : ∀ b o, b ∉ ch → s.heap.get? b = some o → ∃ o', h'.get? b = some o')
    (tups : ∀ b xs, H b = some (.tup xs) → H' b = some (.tup xs)) (frzs : ∀ b o u, H b = some (.frz o u) → H' b = some (.frz o u)) (tbls : ∀ b ps, H b = some (.tbl ps) → ∃ more, H' b = some (.tbl (ps ++ more)))
    (ns : ∀ m, s.heap.Ns X.env.locals m → h'.Ns X.env.locals m) (hok : HOk X.prog X.w H' h') (hg : AllBare g') :
    Inv X pins σ H' { s with heap := h', gens := g', drawn := d', toks := t' } := by
  have neL : ∀ b o, X.s₀.heap.get? b = some o → b ≠ X.env.locals := fun b o e => Nat.ne_of_lt (Nat.lt_of_lt_of_le (Heap.lt_size e) I.ok.above)
  have neC : ∀ b o, X.s₀.heap.get? b = some o → b ∉ X.ex → b ∉ ch := fun b o e hx hb => by
    rcases (hch b hb).1 with z | z
    · exact hx z
    · exact absurd (Nat.lt_of_lt_of_le (Heap.lt_size e) z) (Nat.lt_irrefl _)
  have cellK : ∀ x c, X.env.cells.lookup x = some c → ∀ v, s.heap.IsCell c v → h'.IsCell c v := fun x c e v ⟨o, ho, hd⟩ => by
    have nch : c ∉ ch := fun z => (hch c z).2.2.1 x c e rfl
    by_cases hc : c ∈ X.fs
    · obtain ⟨sl, q⟩ := slot c o (I.cne x c e) hc nch ho (I.freeC x c e)
      exact ⟨_, q, hd⟩
    · exact ⟨o, keep c o (I.cne x c e) hc nch ho (I.freeC x c e), hd⟩
  refine ⟨I.ok, I.os, hg, ⟨fun b o e n hb hx => ?_, fun b o e n hb hx => ?_, fun b o e n hx => ?_, fun b o e hx => ?_, fun b xs e => tups b xs (I.base.tups b xs e), fun b o xs e => frzs b o xs (I.base.frzs b o xs e), fun b ps e => ?_⟩, ?_, fun x c e => ?_, ?_, fun x c e => ?_, fun p hp => ?_, hok, I.len⟩
  · exact keep b o (neL b o e) hb (neC b o e hx) (I.base.keep b o e n hb hx) (I.base.free b o e n hx)
  · obtain ⟨sl, e1⟩ := I.base.slot b o e n hb hx
    obtain ⟨sl', e2⟩ := slot b _ (neL b o e) hb (neC b o e hx) e1 (I.base.free b o e n hx)
    exact ⟨sl', e2⟩
  · obtain ⟨o', e1⟩ := I.base.there b o e hx
    exact free b o' (neC b o e hx) e1 (I.base.free b o e n hx)
  · obtain ⟨o', e1⟩ := I.base.there b o e hx
    exact there b o' (neC b o e hx) e1
  · obtain ⟨m1, e1⟩ := I.base.tbls b ps e
    obtain ⟨m2, e2⟩ := tbls b _ e1
    exact ⟨m1 ++ m2, by rw [e2, Array.append_assoc]⟩
  · obtain ⟨m, hn, hl⟩ := I.loc
    refine ⟨m, ns m hn, fun i x v e1 e2 e3 => ?_⟩
    obtain ⟨u, r, l⟩ := hl i x v e1 e2 e3
    refine ⟨u, r, ?_⟩
    rcases l with l | ⟨k, c, e, z⟩
    · exact .inl l
    · exact .inr ⟨k, c, e, cellK x c e _ z⟩
  · obtain ⟨v, z⟩ := I.cell x c e
    exact ⟨v, cellK x c e v z⟩
  · obtain ⟨m, ⟨o, _, _, ho, _⟩, _⟩ := I.loc
    exact free _ o (fun z => (hch _ z).2.1 rfl) ho I.free
  · obtain ⟨v, o, ho, hd⟩ := I.cell x c e
    exact free c o (fun z => (hch c z).2.2.1 x c e rfl) ho (I.freeC x c e)
  · obtain ⟨e, n, ne, nf, d⟩ := I.pin p hp
    have nch : p.1 ∉ ch := fun z => (hch p.1 z).2.2.2 p hp rfl
    exact ⟨keep p.1 p.2 ne nf nch e n, free p.1 p.2 nch e n, ne, nf, d⟩
/-- .. where the frame's own object is kept too -/
theorem Inv.un {t' : Nat} (I : Inv X pins σ H s) (u : Un X.fs [] H H' s.heap h') (hok : HOk X.prog X.w H' h') : Inv X pins σ H' { s with heap := h', toks := t' } := by
  obtain ⟨m, ⟨o, es, ep, ho, r⟩, _⟩ := id I.loc
  obtain ⟨sl, hL⟩ := u.any ho I.free (by simp)
  exact I.step (g' := s.gens) (d' := s.drawn) (ch := []) (fun _ z => nomatch z) (fun b o _ hb _ e n => u.keep b o e n hb (by simp)) (fun b o _ hb _ e n => u.slot b o e n hb (by simp)) (fun b o _ e n => u.free b o e n (by simp)) (fun b o _ e => u.there b o e (by simp)) u.tups u.frzs u.tbls (fun m' hm => by
    obtain ⟨o', es', ep', ho', r'⟩ := hm
    rw [ho] at ho'; cases ho'
    exact ⟨_, es', ep', hL, r'⟩) hok I.bare
/-- behind a call (or a comprehension's block): the slots of this frame may have changed too, the records at ch may have turned -/
theorem Inv.call {g' : Array GenState} {t' : Nat} {d' : Drawn} {ch : List Addr} (I : Inv X pins σ H s) (u : Un (frs X.stack) ch H H' s.heap h') (hok : HOk X.prog X.w H' h') (hg : AllBare g')
    (hch : ∀ b ∈ ch, (b ∈ X.ex ∨ X.s₀.heap.objs.size ≤ b) ∧ b ≠ X.env.locals ∧ (∀ x c, X.env.cells.lookup x = some c → c ≠ b) ∧ ∀ p ∈ X.pn ++ pins, p.1 ≠ b) :
    Inv X pins σ H' { s with heap := h', gens := g', drawn := d', toks := t' } := by
  obtain ⟨m, ⟨o, es, ep, ho, r⟩, _⟩ := id I.loc
  obtain ⟨sl, hL⟩ := u.any ho I.free fun z => (hch _ z).2.1 rfl
  exact I.step (ch := ch) hch (fun b o hL hb hc e n => u.keep b o e n (fun z => (List.mem_cons.mp (I.stkSub b z)).elim hL hb) hc) (fun b o _ _ hc e n => u.any e n hc) (fun b o hc e n => u.free b o e n hc) (fun b o hc e => u.there b o e hc) u.tups u.frzs u.tbls (fun m' hm => by
    obtain ⟨o', es', ep', ho', r'⟩ := hm
    rw [ho] at ho'; cases ho'
    exact ⟨_, es', ep', hL, r'⟩) hok hg
/-- an untracked record of ours (an iterator) has turned -/
theorem Inv.turned {t' : Nat} {it : Addr} (I : Inv X pins σ H s) (k : ∀ b o, b ≠ it → s.heap.get? b = some o → h'.get? b = some o) (hn : H it = none) (hL : it ≠ X.env.locals)
    (h1 : it ∈ X.ex ∨ X.s₀.heap.objs.size ≤ it) (h2 : ∀ x c, X.env.cells.lookup x = some c → c ≠ it) (h3 : ∀ p ∈ X.pn ++ pins, p.1 ≠ it) : Inv X pins σ H { s with heap := h', toks := t' } := by
  have nit : ∀ b u, H b = some u → b ≠ it := fun b u e z => by rw [z, hn] at e; cases e
  refine I.step (g' := s.gens) (d' := s.drawn) (ch := [it]) (fun b hb => ?_) (fun b o _ _ hc e _ => k b o (fun z => hc (by simp [z])) e) (fun b o _ _ hc e _ => ⟨o.slots, k b o (fun z => hc (by simp [z])) e⟩) (fun _ _ _ _ n => n)
    (fun b o hc e => ⟨o, k b o (fun z => hc (by simp [z])) e⟩) (fun _ _ e => e) (fun _ _ _ e => e) (fun b ps e => ⟨#[], by rw [e]; simp⟩) (fun m hm => ?_) (fun b u e => ?_) I.bare
  · have e : b = it := by simpa using hb
    subst e
    exact ⟨h1, hL, h2, h3⟩
  · obtain ⟨o, es, ep, ho, r⟩ := hm
    exact ⟨o, es, ep, k _ o (Ne.symm hL) ho, r⟩
  · refine (I.hok b u e).stay (fun c v hc q => k c v ?_ q) (fun _ q => q) fun _ _ q => q
    rcases hc with z | z
    · rw [z]; exact nit b u e
    · exact nit c _ z
theorem Inv.tok (I : Inv X pins σ H s) (t : Nat) : Inv X pins σ H { s with toks := t } := I.un (h' := s.heap) (t' := t) Un.refl I.hok
/-- all objects kept -/
theorem Inv.kept {t' : Nat} (I : Inv X pins σ H s) (k : ∀ b u, s.heap.get? b = some u → h'.get? b = some u) : Inv X pins σ H { s with heap := h', toks := t' } := I.un (Un.kept k) (I.hok.kept k)
/-- a new object laid and tracked -/
theorem Inv.laid {a : Addr} {o : HO} {t' : Nat} (I : Inv X pins σ H s) (k : ∀ b u, s.heap.get? b = some u → h'.get? b = some u) (hp : s.heap.objs.size ≤ a) (new : ObjOk X.prog X.w (upd H a o) h' a o) :
    Inv X pins σ (upd H a o) { s with heap := h', toks := t' } := I.un (Un.laid k hp (I.hok.fresh hp)) (I.hok.laid k hp new)
/-- an object written -/
theorem Inv.write {x e : Addr} {o : HO} {t' : Nat} (I : Inv X pins σ H s) (mu : Mut (H x)) (he : e = x ∨ H e = some (.own x)) (k : ∀ b u, b ≠ e → s.heap.get? b = some u → h'.get? b = some u) (heo : ∃ u, h'.get? e = some u)
    (new : ObjOk X.prog X.w (upd H x o) h' x o) : Inv X pins σ (upd H x o) { s with heap := h', toks := t' } := I.un (Un.write mu he k heo) (I.hok.write mu he k heo new)
/-- forgetting slots, pins -/
theorem Inv.weak {σ' : List (Option V)} (I : Inv X pins σ H s) (hl : σ'.length = σ.length) (w : ∀ (i : Nat) v, σ'[i]? = some (some v) → σ[i]? = some (some v)) : Inv X pins σ' H s :=
  ⟨I.ok, I.os, I.bare, I.base, let ⟨m, hn, hl'⟩ := I.loc; ⟨m, hn, fun i x v e1 e2 e3 => hl' i x v e1 (w i v e2) e3⟩, I.cell, I.free, I.freeC, I.pin, I.hok, hl.trans I.len⟩
theorem Inv.pins_of {pins' : List (Addr × Obj)} (I : Inv X pins σ H s) (h : ∀ p ∈ pins', s.heap.get? p.1 = some p.2 ∧ H p.1 = none ∧ p.1 ≠ X.env.locals ∧ p.1 ∉ X.fs ∧ ∀ v, p.2.data ≠ .cell v) : Inv X pins' σ H s :=
  ⟨I.ok, I.os, I.bare, I.base, I.loc, I.cell, I.free, I.freeC, fun p hp => (List.mem_append.mp hp).elim (fun z => I.pin p (List.mem_append_left _ z)) (h p), I.hok, I.len⟩

theorem nodup_ix {N : List Str} (hN : N.Nodup) {i j : Nat} {x : Str} (a : N[i]? = some x) (b : N[j]? = some x) : i = j := by
  obtain ⟨h1, e1⟩ := List.getElem?_eq_some_iff.mp a
  obtain ⟨h2, e2⟩ := List.getElem?_eq_some_iff.mp b
  exact (List.getElem_inj hN).mp (e1.trans e2.symm)

/-- a name is stored; what changed -/
theorem store_ok2 {M : Model} {A : Around} {E : Value → Shared → Prop} {i : Nat} {x : Str} {v : V} {u : Value} {Q : Unit → Shared → Prop} (I : Inv X pins σ H s) (hN : X.N.Nodup) (hi : X.N[i]? = some x) (hx : Loc X.env.scope x) (r : RelV v u)
    (h : ∀ s', Inv X pins (σ.set i (some v)) H s' → (∃ a, Heap.SameBut a s.heap s'.heap ∧ (a = X.env.locals ∨ X.env.cells.lookup x = some a)) → Q () s') (hf : X.fn x = true ∨ X.env.scope.names.lookup x = some .local := by first | exact .inl rfl | exact .inr rfl | assumption) : wpAny M A (storeName X.env x u) Q E s := by
  obtain ⟨m, hn, hl⟩ := id I.loc
  have hcls : (X.env.scope.kind == .class || (X.env.scope.kind == .module && X.env.locals != X.env.globals)) = false := by rw [I.ok.kind]; rfl
  have hiσ : i < σ.length := by rw [I.len]; exact (List.getElem?_eq_some_iff.mp hi).1
  have cne := I.cne
  have tracked : ∀ {a : Addr} {h' : Heap}, (∃ o, s.heap.get? a = some o ∧ H a = none) → Heap.SameBut a s.heap h' → HOk X.prog X.w H h' := fun {a h'} ha hs b ob e => by
    obtain ⟨_, _, hfree⟩ := ha
    refine (I.hok b ob e).stay (fun c w' hc q => (hs.2 c ?_).trans q) (fun _ q => q) fun _ _ q => q
    rintro rfl
    rcases hc with rfl | hc
    · rw [hfree] at e; cases e
    · rw [hfree] at hc; cases hc
  rcases hx with hk | hk
  · refine wpAny_storeName_local hk hn (fun h' hn' hs => ?_) hcls
    obtain ⟨oL, _, _, hoL, _⟩ := id hn
    refine h _ ⟨I.ok, I.os, I.bare, ⟨fun b o e n hb hx => ?_, fun b o e n hb hx => ?_, I.base.free, fun b o e hx => ?_, I.base.tups, I.base.frzs, I.base.tbls⟩, ⟨_, hn', fun j y v' e1 e2 e3 => ?_⟩, fun y c e => ?_, I.free, I.freeC, fun p hp => ?_, tracked ⟨oL, hoL, I.free⟩ hs, by simpa using I.len⟩ ⟨_, hs, .inl rfl⟩
    · exact (hs.2 b (Nat.ne_of_lt (Nat.lt_of_lt_of_le (Heap.lt_size e) I.ok.above))).trans (I.base.keep b o e n hb hx)
    · obtain ⟨sl, e1⟩ := I.base.slot b o e n hb hx
      exact ⟨sl, (hs.2 b (Nat.ne_of_lt (Nat.lt_of_lt_of_le (Heap.lt_size e) I.ok.above))).trans e1⟩
    · obtain ⟨o', e1⟩ := I.base.there b o e hx
      exact ⟨o', (hs.2 b (Nat.ne_of_lt (Nat.lt_of_lt_of_le (Heap.lt_size e) I.ok.above))).trans e1⟩
    · by_cases hj : j = i
      · subst hj
        rw [hi] at e1; cases e1
        rw [List.getElem?_set_self hiσ] at e2
        cases e2
        exact ⟨u, r, .inl ⟨hk, by simp⟩⟩
      · rw [List.getElem?_set_ne (Ne.symm hj)] at e2
        obtain ⟨u', r', q⟩ := hl j y v' e1 e2 e3
        refine ⟨u', r', ?_⟩
        rcases q with ⟨k, e⟩ | ⟨k, c, e, z⟩
        · refine .inl ⟨k, ?_⟩
          have : y ≠ x := fun e => hj (nodup_ix hN e1 (e ▸ hi))
          simp [this, e]
        · exact .inr ⟨k, c, e, z.sameBut hs (cne y c e)⟩
    · obtain ⟨w', z⟩ := I.cell y c e
      exact ⟨w', z.sameBut hs (cne y c e)⟩
    · obtain ⟨e, n, ne, nf, d⟩ := I.pin p hp
      exact ⟨(hs.2 p.1 ne).trans e, n, ne, nf, d⟩
  · have hfn : X.fn x = true := by
      rcases hf with z | z
      · exact z
      · rw [z] at hk; cases hk
    obtain ⟨c, hc⟩ := I.ok.has x (.inl hk)
    obtain ⟨w', z⟩ := I.cell x c hc
    refine wpAny_storeName_cell I.ok.kind hk hc z (fun h' hc' hs => ?_)
    obtain ⟨oc, hoc, hocd⟩ := id z
    refine h { s with heap := h' } ⟨I.ok, I.os, I.bare, ⟨fun b o e n hb hx => ?_, fun b o e n hb hx => ?_, I.base.free, fun b o e hx => ?_, I.base.tups, I.base.frzs, I.base.tbls⟩, ⟨m, hn.sameBut hs (Ne.symm (cne x c hc)), fun j y v' e1 e2 e3 => ?_⟩, fun y c' e => ?_, I.free, I.freeC, fun p hp => ?_, tracked ⟨oc, hoc, I.freeC x c hc⟩ hs, by simpa using I.len⟩ ⟨c, hs, .inr hc⟩
    · exact (hs.2 b (Nat.ne_of_lt (Nat.lt_of_lt_of_le (Heap.lt_size e) (I.ok.cab x c hfn hc)))).trans (I.base.keep b o e n hb hx)
    · obtain ⟨sl, e1⟩ := I.base.slot b o e n hb hx
      exact ⟨sl, (hs.2 b (Nat.ne_of_lt (Nat.lt_of_lt_of_le (Heap.lt_size e) (I.ok.cab x c hfn hc)))).trans e1⟩
    · obtain ⟨o', e1⟩ := I.base.there b o e hx
      exact ⟨o', (hs.2 b (Nat.ne_of_lt (Nat.lt_of_lt_of_le (Heap.lt_size e) (I.ok.cab x c hfn hc)))).trans e1⟩
    · by_cases hj : j = i
      · subst hj
        rw [hi] at e1; cases e1
        rw [List.getElem?_set_self hiσ] at e2
        cases e2
        exact ⟨u, r, .inr ⟨.inl hk, c, hc, hc'⟩⟩
      · rw [List.getElem?_set_ne (Ne.symm hj)] at e2
        obtain ⟨u', r', q⟩ := hl j y v' e1 e2 e3
        refine ⟨u', r', ?_⟩
        rcases q with q | ⟨k, c', e, z'⟩
        · exact .inl q
        · refine .inr ⟨k, c', e, z'.sameBut hs ?_⟩
          rintro rfl
          exact hj (nodup_ix hN e1 (I.ok.inj _ _ _ e hc ▸ hi))
    · by_cases hcc : c' = c
      · subst hcc; exact ⟨_, hc'⟩
      · obtain ⟨w2, z2⟩ := I.cell y c' e
        exact ⟨w2, z2.sameBut hs hcc⟩
    · obtain ⟨e, n, ne, nf, d⟩ := I.pin p hp
      refine ⟨(hs.2 p.1 ?_).trans e, n, ne, nf, d⟩
      intro q
      rw [q, hoc] at e
      have q' : oc = p.2 := Option.some.inj e
      exact d w' (by rw [← q']; exact hocd)
theorem store_ok {M : Model} {A : Around} {E : Value → Shared → Prop} {i : Nat} {x : Str} {v : V} {u : Value} {Q : Unit → Shared → Prop} (I : Inv X pins σ H s) (hN : X.N.Nodup) (hi : X.N[i]? = some x) (hx : Loc X.env.scope x) (r : RelV v u)
    (h : ∀ s', Inv X pins (σ.set i (some v)) H s' → Q () s') (hf : X.fn x = true ∨ X.env.scope.names.lookup x = some .local := by first | exact .inl rfl | exact .inr rfl | assumption) : wpAny M A (storeName X.env x u) Q E s :=
  store_ok2 I hN hi hx r (fun s' I' _ => h s' I') hf
/-- behind a call or a block, the state as it is -/
theorem Inv.call' {s' : Shared} {ch : List Addr} (I : Inv X pins σ H s) (ho : s'.os = s.os) (u : Un (frs X.stack) ch H H' s.heap s'.heap) (hok : HOk X.prog X.w H' s'.heap) (hg : AllBare s'.gens)
    (hch : ∀ b ∈ ch, (b ∈ X.ex ∨ X.s₀.heap.objs.size ≤ b) ∧ b ≠ X.env.locals ∧ (∀ x c, X.env.cells.lookup x = some c → c ≠ b) ∧ ∀ p ∈ X.pn ++ pins, p.1 ≠ b) : Inv X pins σ H' s' := by
  obtain ⟨h', g', d', t', o'⟩ := s'
  have e : o' = s.os := ho
  subst e
  exact I.call (g' := g') (t' := t') (d' := d') u hok hg hch
end

/-! ### the judgements -/
/-- an exception: its class, its own dict's address (where it has one), the abstract heap behind it -/
abbrev XK := Value → Option Addr → Hp → Prop
abbrev St := List (Option V)
abbrev VK := V → Hp → Prop
/-- an expression's reading; a test's; an argument list's -/
abbrev TE := St → Hp → VK → Prop
abbrev TT := St → Hp → (Bool → Hp → Prop) → Prop
abbrev TA := St → Hp → (List V → Hp → Prop) → Prop
/-- what is wanted behind a statement -/
structure Ends where
  nx : St → Hp → Prop
  rt : VK
  bk : St → Hp → Prop := fun _ _ => False
  ct : St → Hp → Prop := fun _ _ => False
abbrev TS := Ends → St → Hp → Prop

def EP (X : Cx) (pins : List (Addr × Obj)) (σ : St) (Q : VK) (u : Value) (s' : Shared) : Prop := ∃ v H', Inv X pins σ H' s' ∧ RelV v u ∧ Q v H'
def TP (X : Cx) (pins : List (Addr × Obj)) (σ : St) (Q : Bool → Hp → Prop) (b : Bool) (s' : Shared) : Prop := ∃ H', Inv X pins σ H' s' ∧ Q b H'
def AP (X : Cx) (pins : List (Addr × Obj)) (σ : St) (Q : List V → Hp → Prop) (us : List Value) (s' : Shared) : Prop := ∃ vs H', Inv X pins σ H' s' ∧ Vals vs us ∧ Q vs H'
def SP (X : Cx) (pins : List (Addr × Obj)) (D : Ends) (f : Flow) (s' : Shared) : Prop :=
  match f with
  | .next => ∃ σ' H', Inv X pins σ' H' s' ∧ D.nx σ' H'
  | .brk => ∃ σ' H', Inv X pins σ' H' s' ∧ D.bk σ' H'
  | .cont => ∃ σ' H', Inv X pins σ' H' s' ∧ D.ct σ' H'
  | .ret u => ∃ v σ' H', Inv X pins σ' H' s' ∧ RelV v u ∧ D.rt v H'

def PE (X : Cx) (e : Expr) (t : TE) : Prop :=
  ∀ (pins : List (Addr × Obj)) (s : Shared) (σ : St) (H : Hp) (Q : VK), Inv X pins σ H s → t σ H Q → wpAny (model X.prog X.w) X.A (eval e X.env) (EP X pins σ Q) X.xe s
def PT (X : Cx) (e : Expr) (t : TT) : Prop :=
  ∀ (pins : List (Addr × Obj)) (s : Shared) (σ : St) (H : Hp) (Q : Bool → Hp → Prop), Inv X pins σ H s → t σ H Q → wpAny (model X.prog X.w) X.A (isTrue e X.env (eval e X.env)) (TP X pins σ Q) X.xe s
/-- a test whatever its 'whole' is (and, or) -/
def PW (X : Cx) (e : Expr) (t : TT) : Prop :=
  ∀ (whole : Sem Value) (pins : List (Addr × Obj)) (s : Shared) (σ : St) (H : Hp) (Q : Bool → Hp → Prop), Inv X pins σ H s → t σ H Q → wpAny (model X.prog X.w) X.A (isTrue e X.env whole) (TP X pins σ Q) X.xe s
theorem PW.pt {X : Cx} {e : Expr} {t : TT} (h : PW X e t) : PT X e t := h _
/-- an argument list (no star), from the left -/
def PA (X : Cx) (es : List Expr) (t : TA) : Prop :=
  ∀ (pos : Pos) (pins : List (Addr × Obj)) (s : Shared) (σ : St) (H : Hp) (Q : List V → Hp → Prop), Inv X pins σ H s → t σ H Q → wpAny (model X.prog X.w) X.A (spliced (backTo pos (starEach es X.env))) (AP X pins σ Q) X.xe s
def PS (X : Cx) (st : Stmt) (t : TS) : Prop :=
  ∀ (pins : List (Addr × Obj)) (s : Shared) (σ : St) (H : Hp) (D : Ends), Inv X pins σ H s → t D σ H → wpAny (model X.prog X.w) X.A (exec st X.env) (SP X pins D) X.xe s
def PSs (X : Cx) (st : List Stmt) (t : TS) : Prop :=
  ∀ (pins : List (Addr × Obj)) (s : Shared) (σ : St) (H : Hp) (D : Ends), Inv X pins σ H s → t D σ H → wpAny (model X.prog X.w) X.A (execs st X.env) (SP X pins D) X.xe s
/-- weaken the end -/
theorem thn {α : Type} {t : Sem α} {Q Q' : α → Shared → Prop} {M : Model} {A : Around} {E : Value → Shared → Prop} {s : Shared} (h : wpAny M A t Q E s) (hQ : ∀ a s, Q a s → Q' a s) : wpAny M A t Q' E s := wpAny_mono h hQ fun _ _ x => x
end L2

namespace L2
open PySem PySem.Spec PyProof.Rows
section
variable {X : Cx}

/-! ### names and constants -/
def tVar (i : Nat) : TE := fun σ H Q => ∃ v, σ[i]? = some (some v) ∧ Q v H
def tC (v : V) : TE := fun _ H Q => Q v H
theorem pe_var {i : Nat} {x : Str} {pos : Pos} (hN : X.N[i]? = some x) (hv : Vis X.env.scope x) (hd : (x == ("__debug__" : Str)) = false := by decide) (hcd : (x == ("__classdict__" : Str)) = false := by decide) : PE X (.Name x pos) (tVar i) := by
  intro pins s σ H Q I h
  obtain ⟨v, e, h⟩ := h
  obtain ⟨m, hn, hl⟩ := I.loc
  obtain ⟨u, r, l⟩ := hl i x v hN e hv
  have fin : EP X pins σ Q u s := ⟨v, H, I, r, h⟩
  rcases l with ⟨hk, hm⟩ | ⟨hk, c, hc, hcell⟩
  · exact wpAny_Name (wpAny_loadName_local I.ok.kind hk hn hm fin) hd
  · rcases hk with hk | hk
    · exact wpAny_Name (wpAny_loadName_cell I.ok.kind hk hc hcell fin) hd
    · exact wpAny_Name (wpAny_loadName_free I.ok.kind hk hc hcell fin hcd) hd
theorem pe_int {i j pos} : PE X (.Constant (.int i) j pos) (tC (.int i)) := fun _ _ _ H _ I h => wpAny_Constant_int ⟨.int i, H, I.tok _, ⟨_, rfl⟩, h⟩
theorem pe_bl {b j pos} : PE X (.Constant (.bool b) j pos) (tC (.bl b)) := fun _ _ _ H _ I h => Constant_bool ⟨.bl b, H, I, rfl, h⟩
theorem pe_non {j pos} : PE X (.Constant .none j pos) (tC .non) := fun _ _ _ H _ I h => Constant_none ⟨.non, H, I, rfl, h⟩
theorem pe_str {x j pos} : PE X (.Constant (.str x) j pos) (tC (.str x)) := fun _ _ _ H _ I h => Calls.Constant_str ⟨.str x, H, I.tok _, ⟨_, rfl⟩, h⟩

/-- a global name of the def -/
def Gl (X : Cx) (x : Str) : Prop := X.env.kindOf x = some .globalImplicit
theorem ld_glob {E : Value → Shared → Prop} {pins : List (Addr × Obj)} {s : Shared} {σ : St} {H : Hp} {x : Str} {u : Value} {pos : Pos} {Q : Value → Shared → Prop} (I : Inv X pins σ H s) (hg : Gl X x) (hm : X.mg x = some u) (h : Q u s)
    (hd : (x == ("__debug__" : Str)) = false := by decide) : wpAny (model X.prog X.w) X.A (eval (.Name x pos) X.env) Q E s :=
  Calls.Name_function_global I.ok.kind hg (Calls.loadGlobal_global (by rw [I.ok.glob]; exact I.mod.glob.keeps I.bk) hm h) hd
theorem ld_blt {E : Value → Shared → Prop} {pins : List (Addr × Obj)} {s : Shared} {σ : St} {H : Hp} {x : Str} {u : Value} {pos : Pos} {Q : Value → Shared → Prop} (I : Inv X pins σ H s) (hg : Gl X x) (hm : X.mg x = none) (hv : bootBuiltins x = some u) (h : Q u s)
    (hn : x ≠ "__name__" := by decide) (hd : (x == ("__debug__" : Str)) = false := by decide) : wpAny (model X.prog X.w) X.A (eval (.Name x pos) X.env) Q E s := by
  obtain ⟨mb, h1, h2⟩ := I.mod.blt
  exact Calls.Name_function_global I.ok.kind hg (Calls.loadGlobal_builtin (by rw [I.ok.glob]; exact I.mod.glob.keeps I.bk) hm (by rw [I.ok.blt]; exact h1.keeps I.bk) ((h2 x hn).trans hv) h) hd
/-- a module's constant, a class, a function, as a value -/
theorem pe_glob {x : Str} {v : V} {u : Value} {pos : Pos} (hg : Gl X x) (hm : X.mg x = some u) (r : RelV v u) (hd : (x == ("__debug__" : Str)) = false := by decide) : PE X (.Name x pos) (tC v) :=
  fun _ _ _ H _ I h => ld_glob I hg hm ⟨v, H, I, r, h⟩ hd
theorem pe_bltn {x : Str} {v : V} {u : Value} {pos : Pos} (hg : Gl X x) (hm : X.mg x = none) (hv : bootBuiltins x = some u) (r : RelV v u) (hn : x ≠ "__name__" := by decide) (hd : (x == ("__debug__" : Str)) = false := by decide) : PE X (.Name x pos) (tC v) :=
  fun _ _ _ H _ I h => ld_blt I hg hm hv ⟨v, H, I, r, h⟩ hn hd

/-! ### arithmetic -/
/-- two ints -/
def t2I (ta tb : TE) (k : Int → Int → Hp → Prop) : St → Hp → Prop := fun σ H => ta σ H fun x H1 => tb σ H1 fun y H2 => ∃ i j, x = .int i ∧ y = .int j ∧ k i j H2
def tAdd (ta tb : TE) : TE := fun σ H Q => t2I ta tb (fun i j H2 => Q (.int (i + j)) H2) σ H
def tSub (ta tb : TE) : TE := fun σ H Q => t2I ta tb (fun i j H2 => Q (.int (i - j)) H2) σ H
/-- the left factor below 2^64 -/
def tMul (ta tb : TE) : TE := fun σ H Q => t2I ta tb (fun i j H2 => (-(2 ^ 64) < i ∧ i < 2 ^ 64) ∧ Q (.int (i * j)) H2) σ H
variable {a b : Expr} {ta tb : TE} {pos : Pos}
/-! ### comparisons -/
def PC (X : Cx) (op : CmpOp) (a b : Expr) (t : TE) : Prop :=
  ∀ (pins : List (Addr × Obj)) (s : Shared) (σ : St) (H : Hp) (Q : VK), Inv X pins σ H s → t σ H Q →
    wpAny (model X.prog X.w) X.A (eval a X.env) (fun v s₁ => wpAny (model X.prog X.w) X.A (eval b X.env) (fun u s₂ => wpAny (model X.prog X.w) X.A (compareOp op v u) (EP X pins σ Q) X.xe s₂) X.xe s₁) X.xe s
def tCmp (p : Int → Int → Bool) (ta tb : TE) : TE := fun σ H Q => t2I ta tb (fun i j H2 => Q (.bl (p i j)) H2) σ H
abbrev tLt : TE → TE → TE := tCmp fun i j => decide (i < j)
abbrev tLe : TE → TE → TE := tCmp fun i j => decide (i ≤ j)
abbrev tGt : TE → TE → TE := tCmp fun i j => decide (j < i)
abbrev tGe : TE → TE → TE := tCmp fun i j => decide (j ≤ i)
abbrev tEqI : TE → TE → TE := tCmp fun i j => decide (i = j)
abbrev tNeI : TE → TE → TE := tCmp fun i j => !decide (i = j)
/-- is None -/
def tIsN (ta : TE) : TE := fun σ H Q => ta σ H fun x H1 => Q (.bl (decide (x = .non))) H1
def tNotN (ta : TE) : TE := fun σ H Q => ta σ H fun x H1 => Q (.bl (!decide (x = .non))) H1
/-- a comparison as a value, as a test -/
def tB (t : TE) : TT := fun σ H Q => t σ H fun x H1 => ∃ c, x = .bl c ∧ Q c H1
/-- an expression whose value is a bool, as a test -/
theorem pt_val {e : Expr} {t : TE} (h : PE X e t) (he : ∀ whole, isTrue e X.env whole = (do let v ← whole; standAt e.pos; holding [v] (truthy v)) := by intro _; rfl) : PT X e (tB t) := by
  intro pins s σ H Q I hw
  refine isTrue_plain (thn (h pins s σ H _ I hw) fun v s1 ⟨x, H1, I1, r1, q1⟩ => ?_) (he _)
  obtain ⟨d, rfl, q⟩ := q1
  cases r1
  exact wpAny_truthy_bool ⟨H1, I1, q⟩

/-! ### and, or, not -/
variable {tA tB' : TT} {rest : List Expr}
def tAnd (t u : TT) : TT := fun σ H Q => t σ H fun c H1 => if c = true then u σ H1 Q else Q false H1
def tOr (t u : TT) : TT := fun σ H Q => t σ H fun c H1 => if c = true then Q true H1 else u σ H1 Q
def tNot (t : TT) : TT := fun σ H Q => t σ H fun c H1 => Q (!c) H1
theorem pw_and1 (ha : PT X a tA) : PW X (.BoolOp .And [a] pos) tA := by
  intro wh pins s σ H Q I h
  refine isTrue_and (thn (ha pins s σ H Q I h) fun c s1 e => ?_)
  cases c with
  | true => exact isTrue_and_nil e
  | false => exact e
theorem pw_or1 (ha : PT X a tA) : PW X (.BoolOp .Or [a] pos) tA := by
  intro wh pins s σ H Q I h
  refine isTrue_or (thn (ha pins s σ H Q I h) fun c s1 e => ?_)
  cases c with
  | false => exact isTrue_or_nil e
  | true => exact e
theorem pw_and (ha : PT X a tA) (hb : PW X (.BoolOp .And (b :: rest) pos) tB') : PW X (.BoolOp .And (a :: b :: rest) pos) (tAnd tA tB') := by
  intro wh pins s σ H Q I h
  refine isTrue_and (thn (ha pins s σ H _ I h) fun c s1 ⟨H1, I1, q1⟩ => ?_)
  cases c with
  | true => exact hb wh pins s1 σ H1 Q I1 q1
  | false => exact ⟨H1, I1, q1⟩
theorem pw_or (ha : PT X a tA) (hb : PW X (.BoolOp .Or (b :: rest) pos) tB') : PW X (.BoolOp .Or (a :: b :: rest) pos) (tOr tA tB') := by
  intro wh pins s σ H Q I h
  refine isTrue_or (thn (ha pins s σ H _ I h) fun c s1 ⟨H1, I1, q1⟩ => ?_)
  cases c with
  | true => exact ⟨H1, I1, q1⟩
  | false => exact hb wh pins s1 σ H1 Q I1 q1
theorem pt_not (ha : PT X a tA) : PT X (.UnaryOp .Not a pos) (tNot tA) := by
  intro pins s σ H Q I h
  exact isTrue_not (ha pins s σ H (fun c H1 => Q (!c) H1) I h)
/-- .. as values (bools) -/
def tAndV (ta tb : TE) : TE := fun σ H Q => ta σ H fun x H1 => ∃ c, x = .bl c ∧ if c = true then tb σ H1 Q else Q (.bl false) H1
def tOrV (ta tb : TE) : TE := fun σ H Q => ta σ H fun x H1 => ∃ c, x = .bl c ∧ if c = true then Q (.bl true) H1 else tb σ H1 Q
def tNotV (ta : TE) : TE := fun σ H Q => ta σ H fun x H1 => ∃ c, x = .bl c ∧ Q (.bl (!c)) H1
theorem pe_one {op} {t : TE} (h : PE X a t) : PE X (.BoolOp op [a] pos) t := fun pins s σ H Q I hw => BoolOp_one (h pins s σ H Q I hw)
theorem pe_and (ha : PE X a ta) (hb : PE X (.BoolOp .And (b :: rest) pos) tb) : PE X (.BoolOp .And (a :: b :: rest) pos) (tAndV ta tb) := by
  intro pins s σ H Q I h
  refine BoolOp_and (thn (ha pins s σ H _ I h) fun v s1 ⟨x, H1, I1, r1, q1⟩ => ?_)
  obtain ⟨c, rfl, q1⟩ := q1
  cases r1
  refine wpAny_truthy_bool ?_
  cases c with
  | true => exact hb pins s1 σ H1 Q I1 q1
  | false => exact ⟨.bl false, H1, I1, rfl, q1⟩
theorem pe_not (ha : PE X a ta) : PE X (.UnaryOp .Not a pos) (tNotV ta) := by
  intro pins s σ H Q I h
  refine UnaryOp_ (thn (ha pins s σ H _ I h) fun v s1 ⟨x, H1, I1, r1, q1⟩ => ?_)
  obtain ⟨c, rfl, q1⟩ := q1
  cases r1
  exact not_of (wpAny_truthy_bool ⟨.bl (!c), H1, I1, rfl, q1⟩)
/-- a if t else b -/
def tIf (t : TT) (ta tb : TE) : TE := fun σ H Q => t σ H fun c H1 => if c = true then ta σ H1 Q else tb σ H1 Q
end
end L2

namespace L2
open PySem PySem.Spec PyProof.Rows

/-! ### a list, a tuple that is read: tracked, frozen, or an object of the module -/
def SqL (K : PySem.W.Frag) (H : Hp) (a : Addr) (xs : List V) : Prop :=
  Rd H a (.lst xs) ∨
    ∃ (o : Obj) (its : Array Value) (n : Nat), K.lookup a = some o ∧ o.cls = .type "list" ∧ o.dict = none ∧ o.data = .seq its n ∧ its.size ≤ sizeLine ∧ Vals xs its.toList
def SqT (K : PySem.W.Frag) (H : Hp) (a : Addr) (xs : List V) : Prop :=
  Rd H a (.tup xs) ∨
    ∃ (o : Obj) (its : Array Value) (n : Nat), K.lookup a = some o ∧ o.cls = .type "tuple" ∧ o.data = .seq its n ∧ its.size ≤ sizeLine ∧ Vals xs its.toList
def absV : Value → Option V
  | .none => some .non
  | .bool b => some (.bl b)
  | .int i _ => some (.int i)
  | .str x _ => some (.str x)
  | .bytes b _ => some (.byt b)
  | .float b _ => some (.flt b)
  | .ref a => some (.ref a)
  | .type n => some (.ty n)
  | _ => none
theorem RelV.abs {x : V} {u : Value} (r : RelV x u) : absV u = some x := by
  cases x with
  | non => cases r; rfl
  | bl _ => cases r; rfl
  | int _ => obtain ⟨t, rfl⟩ := r; rfl
  | str _ => obtain ⟨t, rfl⟩ := r; rfl
  | byt _ => obtain ⟨t, rfl⟩ := r; rfl
  | flt _ => obtain ⟨t, rfl⟩ := r; rfl
  | ref _ => cases r; rfl
  | ty _ => cases r; rfl
theorem RelV.inj {x y : V} {u : Value} (r : RelV x u) (q : RelV y u) : x = y := Option.some.inj (r.abs.symm.trans q.abs)
theorem Vals.inj : ∀ {xs ys : List V} {us : List Value}, Vals xs us → Vals ys us → xs = ys
  | _, _, _, .nil, .nil => rfl
  | _, _, _, .cons r t, .cons r' t' => by rw [r.inj r', Vals.inj t t']
section
variable {X : Cx} {pins : List (Addr × Obj)} {σ : St} {H : Hp} {s : Shared} {a : Addr} {xs ys : List V}
theorem SqL.of {K : PySem.W.Frag} (h : H a = some (.lst xs)) : SqL K H a xs := .inl (.inl h)
theorem SqT.of {K : PySem.W.Frag} (h : H a = some (.tup xs)) : SqT K H a xs := .inl (.inl h)
theorem Inv.list (I : Inv X pins σ H s) (h : SqL X.K H a xs) : ∃ its : List Value, Vals xs its ∧ PlainL s.heap a its.toArray ∧ xs.length ≤ sizeLine := by
  rcases h with h | ⟨o, its, n, hk, hc, hd, hs, hz, r⟩
  · obtain ⟨z, its, n, r, e⟩ := h.ok I.hok
    exact ⟨its, r, ⟨_, n, e, rfl, rfl, rfl⟩, z⟩
  · refine ⟨its.toList, r, ⟨o, n, I.kIn a o hk, hc, hd, by simpa using hs⟩, ?_⟩
    have e := r.length
    simp only [Array.length_toList] at e
    omega
theorem Inv.tuple (I : Inv X pins σ H s) (h : SqT X.K H a xs) : ∃ its : List Value, Vals xs its ∧ IsTup s.heap a its.toArray ∧ xs.length ≤ sizeLine := by
  rcases h with h | ⟨o, its, n, hk, hc, hs, hz, r⟩
  · obtain ⟨z, its, r, p⟩ := h.ok I.hok
    exact ⟨its, r, p, z⟩
  · refine ⟨its.toList, r, ⟨o, I.kIn a o hk, hc, n, by simpa using hs⟩, ?_⟩
    have e := r.length
    simp only [Array.length_toList] at e
    omega
theorem Inv.list_inj (I : Inv X pins σ H s) (h : SqL X.K H a xs) (h' : SqL X.K H a ys) : xs = ys := by
  obtain ⟨its, r, ⟨o, n, e, _, _, d⟩, _⟩ := I.list h
  obtain ⟨its', r', ⟨o', n', e', _, _, d'⟩, _⟩ := I.list h'
  rw [e] at e'; cases e'
  rw [d] at d'
  injection d' with d1 _
  have : its = its' := by simpa using congrArg Array.toList d1
  subst this
  exact r.inj r'
theorem Inv.tuple_inj (I : Inv X pins σ H s) (h : SqT X.K H a xs) (h' : SqT X.K H a ys) : xs = ys := by
  obtain ⟨its, r, ⟨o, e, _, n, d⟩, _⟩ := I.tuple h
  obtain ⟨its', r', ⟨o', e', _, n', d'⟩, _⟩ := I.tuple h'
  rw [e] at e'; cases e'
  rw [d] at d'
  injection d' with d1 _
  have : its = its' := by simpa using congrArg Array.toList d1
  subst this
  exact r.inj r'
end

/-! ### another wish about exceptions -/
abbrev Cx.wish (X : Cx) (E : Value → Shared → Prop) : Cx := { X with xe := E }
/-- no exception leaves -/
abbrev Cx.nox (X : Cx) : Cx := X.wish fun _ _ => False
theorem Cx.Ok.wish {X : Cx} (ok : X.Ok) (E : Value → Shared → Prop) : (X.wish E).Ok :=
  ⟨ok.mod, ok.kind, ok.glob, ok.blt, ok.above, ok.inj, ok.has, ok.cab, ok.hd, ok.frames, ok.stk, ok.exf, ok.bs, ok.bsz, ok.noex, ok.exfs, ok.funs, ok.frf⟩
theorem Cx.Ok.unwish {X : Cx} {E : Value → Shared → Prop} (ok : (X.wish E).Ok) : X.Ok :=
  ⟨ok.mod, ok.kind, ok.glob, ok.blt, ok.above, ok.inj, ok.has, ok.cab, ok.hd, ok.frames, ok.stk, ok.exf, ok.bs, ok.bsz, ok.noex, ok.exfs, ok.funs, ok.frf⟩
section
variable {X : Cx} {pins : List (Addr × Obj)} {σ : St} {H : Hp} {s : Shared} {E : Value → Shared → Prop}
theorem Inv.wish (I : Inv X pins σ H s) (E : Value → Shared → Prop) : Inv (X.wish E) pins σ H s := ⟨I.ok.wish E, I.os, I.bare, I.base, I.loc, I.cell, I.free, I.freeC, I.pin, I.hok, I.len⟩
theorem Inv.unwish (I : Inv (X.wish E) pins σ H s) : Inv X pins σ H s := ⟨I.ok.unwish, I.os, I.bare, I.base, I.loc, I.cell, I.free, I.freeC, I.pin, I.hok, I.len⟩
theorem SP.unwish {D : Ends} {f : Flow} {s' : Shared} (h : SP (X.wish E) pins D f s') : SP X pins D f s' := by
  cases f with
  | next => obtain ⟨σ', H', I, q⟩ := h; exact ⟨σ', H', I.unwish, q⟩
  | brk => obtain ⟨σ', H', I, q⟩ := h; exact ⟨σ', H', I.unwish, q⟩
  | cont => obtain ⟨σ', H', I, q⟩ := h; exact ⟨σ', H', I.unwish, q⟩
  | ret u => obtain ⟨v, σ', H', I, r, q⟩ := h; exact ⟨v, σ', H', I.unwish, r, q⟩
theorem PSs.nox {st : List Stmt} {t : TS} (h : PSs X.nox st t) : PSs X st t := fun pins s σ H D I hw =>
  wpAny_mono (h pins s σ H D (I.wish _) hw) (fun _ _ q => q.unwish) fun _ _ z => False.elim z
end

/-! ### blocks and small statements -/
section
variable {X : Cx} {st : Stmt} {rest : List Stmt} {t u : TS} {e : Expr} {te : TE} {pos : Pos}
def tNext : TS := fun D σ H => D.nx σ H
def tSeq (t u : TS) : TS := fun D σ H => t { D with nx := u D } σ H
theorem pss_nil : PSs X [] tNext := fun _ _ σ H _ I h => wpAny_execs_nil ⟨σ, H, I, h⟩
theorem pss_cons (h1 : PS X st t) (h2 : PSs X rest u) : PSs X (st :: rest) (tSeq t u) := by
  intro pins s σ H D I h
  refine wpAny_execs_cons (thn (h1 pins s σ H { D with nx := u D } I h) fun f s1 q => ?_)
  cases f with
  | next =>
    obtain ⟨σ', H', I', q⟩ := q
    exact h2 pins s1 σ' H' D I' q
  | ret v => exact q
  | brk => exact q
  | cont => exact q
theorem pss_one (h1 : PS X st t) : PSs X [st] t := by
  intro pins s σ H D I h
  refine wpAny_execs_cons (thn (h1 pins s σ H D I h) fun f s1 q => ?_)
  cases f with
  | next => exact wpAny_execs_nil q
  | ret v => exact q
  | brk => exact q
  | cont => exact q
def tBreak : TS := fun D σ H => D.bk σ H
def tCont : TS := fun D σ H => D.ct σ H
/-- in a def's body nothing is shown -/
theorem Inv.quiet {pins : List (Addr × Obj)} {σ : St} {H : Hp} {s : Shared} (I : Inv X pins σ H s) : interactive X.env = false := by simp [interactive, I.ok.kind]
/-- an expression whose value is dropped -/
def tDrop (te : TE) : TS := fun D σ H => te σ H fun _ H1 => D.nx σ H1
theorem ps_expr (he : PE X e te) (hs : swapsWith e none pos.line X.env = pure false := by rfl) : PS X (.Expr e pos) (tDrop te) := by
  intro pins s σ H D I h
  exact wpAny_Expr_any (thn (he pins s σ H _ I h) fun v s1 ⟨x, H1, I1, r1, q1⟩ => ⟨σ, H1, I1, q1⟩) I.quiet hs
def tRet (te : TE) : TS := fun D σ H => te σ H D.rt
theorem ps_ret (he : PE X e te) : PS X (.Return (some e) pos) (tRet te) := by
  intro pins s σ H D I h
  exact wpAny_Return_some (thn (he pins s σ H _ I h) fun v s1 ⟨x, H1, I1, r1, q1⟩ => ⟨x, σ, H1, I1, r1, q1⟩)
def tRetN : TS := fun D _ H => D.rt .non H
def tIfS (c : TT) (t u : TS) : TS := fun D σ H => c σ H fun b H1 => if b = true then t D σ H1 else u D σ H1
theorem ps_if {c : Expr} {a b : List Stmt} {tc : TT} (hc : PT X c tc) (ha : PSs X a t) (hb : PSs X b u) : PS X (.If c a b pos) (tIfS tc t u) := by
  intro pins s σ H D I h
  refine wpAny_If (thn (hc pins s σ H _ I h) fun d s1 ⟨H1, I1, q1⟩ => ?_)
  cases d with
  | true => exact ha pins s1 σ H1 D I1 q1
  | false => exact hb pins s1 σ H1 D I1 q1
/-- code that the proof never comes to -/
def tNever : TS := fun _ _ _ => False
theorem pss_never {sts : List Stmt} : PSs X sts tNever := fun _ _ _ _ _ _ h => h.elim
end

/-! ### targets -/
abbrev TG := V → St → Hp → (St → Hp → Prop) → Prop
abbrev TGs := List V → St → Hp → (St → Hp → Prop) → Prop
def PG (X : Cx) (target : Expr) (t : TG) : Prop :=
  ∀ (pins : List (Addr × Obj)) (s : Shared) (σ : St) (H : Hp) (v : V) (u : Value) (Q : St → Hp → Prop), Inv X pins σ H s → RelV v u → t v σ H Q →
    wpAny (model X.prog X.w) X.A (assign target X.env u) (fun _ s' => ∃ σ' H', Inv X pins σ' H' s' ∧ Q σ' H') X.xe s
/-- several targets, one after another -/
def PGs (X : Cx) (ts : List Expr) (t : TGs) : Prop :=
  ∀ (pins : List (Addr × Obj)) (s : Shared) (σ : St) (H : Hp) (vs : List V) (us : List Value) (Q : St → Hp → Prop), Inv X pins σ H s → Vals vs us → t vs σ H Q →
    wpAny (model X.prog X.w) X.A (assignInOrder ((assignEach ts X.env).map (·.2)) us) (fun _ s' => ∃ σ' H', Inv X pins σ' H' s' ∧ Q σ' H') X.xe s
/-- o[i] = v, by values -/
abbrev TSet := V → V → V → Hp → (Hp → Prop) → Prop
def PSet (X : Cx) (t : TSet) : Prop :=
  ∀ (pins : List (Addr × Obj)) (s : Shared) (σ : St) (H : Hp) (o i v : V) (ov iv u : Value) (Q : Hp → Prop), Inv X pins σ H s → RelV o ov → RelV i iv → RelV v u → t o i v H Q →
    wpAny (model X.prog X.w) X.A (setItem ov iv u) (fun _ s' => ∃ H', Inv X pins σ H' s' ∧ Q H') X.xe s
/-- a op= b, by values -/
abbrev TIp := V → V → Hp → VK → Prop
def PIp (X : Cx) (op : Operator) (t : TIp) : Prop :=
  ∀ (pins : List (Addr × Obj)) (s : Shared) (σ : St) (H : Hp) (x y : V) (v u : Value) (Q : VK), Inv X pins σ H s → RelV x v → RelV y u → t x y H Q →
    wpAny (model X.prog X.w) X.A (inplaceOp op v u) (EP X pins σ Q) X.xe s
section
variable {X : Cx} {pos : Pos}
def gName (i : Nat) : TG := fun v σ H Q => Q (σ.set i (some v)) H
theorem pg_name {i : Nat} {x : Str} (hN : X.N.Nodup) (hi : X.N[i]? = some x) (hx : Loc X.env.scope x) (hf : X.fn x = true ∨ X.env.scope.names.lookup x = some .local := by first | exact .inl rfl | exact .inr rfl | assumption) : PG X (.Name x pos) (gName i) := by
  intro pins s σ H v u Q I r h
  exact wpAny_assign_Name (store_ok I hN hi hx r (fun s' I' => ⟨_, H, I', h⟩) hf)
def gNil : TGs := fun vs σ H Q => vs = [] ∧ Q σ H
def gCons (t : TG) (u : TGs) : TGs := fun vs σ H Q => ∃ v r, vs = v :: r ∧ t v σ H fun σ' H' => u r σ' H' Q
/-- (a, b, ..) = a tuple of that length -/
def gTup (K : PySem.W.Frag) (n : Nat) (t : TGs) : TG := fun v σ H Q => ∃ a xs, v = .ref a ∧ SqT K H a xs ∧ xs.length = n ∧ t xs σ H Q
/-- o[i] = .. -/
def gSub (to ti : TE) (t : TSet) : TG := fun v σ H Q => to σ H fun o H1 => ti σ H1 fun i H2 => t o i v H2 fun H3 => Q σ H3
/-- target = value -/
def tAsg (te : TE) (g : TG) : TS := fun D σ H => te σ H fun x H1 => g x σ H1 D.nx
/-- name = value -/
theorem ps_set {i : Nat} {x : Str} {e : Expr} {te : TE} {pos' : Pos} (hN : X.N.Nodup) (hi : X.N[i]? = some x) (hx : Loc X.env.scope x) (he : PE X e te) (hs : swapsWith e (some (.Name x pos')) pos.line X.env = pure false := by rfl) (hf : X.fn x = true ∨ X.env.scope.names.lookup x = some .local := by first | exact .inl rfl | exact .inr rfl | assumption) :
    PS X (.Assign [.Name x pos'] e pos) (tAsg te (gName i)) := by
  intro pins s σ H D I h
  refine wpAny_Assign_Name (thn (he pins s σ H _ I h) fun v s1 ⟨y, H1, I1, r1, q1⟩ => ?_) hs
  exact store_ok I1 hN hi hx r1 (fun s2 I2 => ⟨_, H1, I2, q1⟩) hf
/-- a, b = x, y with plain local names: stored from the right; the pair itself is not tracked (the opening rows as in PyProof/Rows/TupAssign.lean:23) -/
def tPar (i j : Nat) (ta : TA) : TS := fun D σ H => ta σ H fun vs H1 => ∃ v w, vs = [v, w] ∧ D.nx ((σ.set i (some v)).set j (some w)) H1
/-- name op= e -/
def tAug (i : Nat) (te : TE) (ti : TIp) : TS := fun D σ H => ∃ x, σ[i]? = some (some x) ∧ te σ H fun y H1 => ti x y H1 fun z H2 => D.nx (σ.set i (some z)) H2
/-- o[i] op= e -/
def tAugS (to ti te : TE) (tget : V → V → Hp → VK → Prop) (tip : TIp) (tset : TSet) : TS := fun D σ H => to σ H fun o H1 => ti σ H1 fun i H2 => tget o i H2 fun x H3 => te σ H3 fun y H4 => tip x y H4 fun z H5 => tset o i z H5 fun H6 => D.nx σ H6
/-- o[i], by values -/
def PGet (X : Cx) (t : V → V → Hp → VK → Prop) : Prop :=
  ∀ (pins : List (Addr × Obj)) (s : Shared) (σ : St) (H : Hp) (o i : V) (ov iv : Value) (Q : VK), Inv X pins σ H s → RelV o ov → RelV i iv → t o i H Q →
    wpAny (model X.prog X.w) X.A (getItem ov iv) (EP X pins σ Q) X.xe s
/-- ints -/
def ipI (f : Int → Int → Int) : TIp := fun x y H Q => ∃ i j, x = .int i ∧ y = .int j ∧ Q (.int (f i j)) H
end

/-! ### while -/
section
variable {X : Cx} {pos : Pos}
/-- the invariant W with its measure -/
def tWhile (c : TT) (tb : TS) : TS := fun D σ H => ∃ W : Nat → St → Hp → Prop, (∃ m, W m σ H) ∧ ∀ m σ H, W m σ H →
  c σ H fun b H1 => if b = true then ∃ N : St → Hp → Prop, (∀ σ' H', N σ' H' → ∃ m', m' < m ∧ W m' σ' H') ∧ tb { D with nx := N, ct := N, bk := D.nx } σ H1 else D.nx σ H1
theorem ps_while {c : Expr} {body : List Stmt} {tc : TT} {tb : TS} (hp : PassesOwn (model X.prog X.w) X.A X.env X.xe) (hc : PT X c tc) (hb : PSs X body tb) : PS X (.While c body [] pos) (tWhile tc tb) := by
  intro pins s σ H D I h
  obtain ⟨W, ⟨m0, w0⟩, turn⟩ := h
  refine wpAny_While (codeAny_whileLoop (fun n s' => ∃ σ' H', Inv X pins σ' H' s' ∧ W n σ' H') ?_ m0 ⟨σ, H, I, w0⟩)
  rintro n s1 ⟨σ1, H1, I1, w1⟩
  refine wpAny_passesOwn hp (thn (hc pins s1 σ1 H1 _ I1 (turn n σ1 H1 w1)) fun b s2 ⟨H2, I2, q2⟩ => ?_)
  cases b with
  | true =>
    obtain ⟨N, hN, q2⟩ := q2
    rw [if_pos rfl]
    refine wpAny_passesOwn hp (thn (hb pins s2 σ1 H2 _ I2 q2) fun f s3 q3 => ?_)
    cases f with
    | next =>
      obtain ⟨σ3, H3, I3, n3⟩ := q3
      obtain ⟨m', hm, w3⟩ := hN σ3 H3 n3
      exact ⟨m', hm, σ3, H3, I3, w3⟩
    | cont =>
      obtain ⟨σ3, H3, I3, n3⟩ := q3
      obtain ⟨m', hm, w3⟩ := hN σ3 H3 n3
      exact ⟨m', hm, σ3, H3, I3, w3⟩
    | brk => exact q3
    | ret v => exact q3
  | false =>
    rw [if_neg Bool.false_ne_true]
    exact wpAny_execs_nil ⟨σ1, H2, I2, q2⟩
end

/-! ### what a loop or a comprehension walks -/
/-- at turn i: it yields x (the heap may grow), or it stops -/
structure It where
  go : Nat → Hp → Prop
  yld : Nat → Hp → V → Hp → Prop
  stop : Nat → Hp → Prop
/-- the iterator's own objects may turn: they are not the frame's, not pinned, younger than the entry (or a comprehension's own) -/
def FpOk (X : Cx) (pins : List (Addr × Obj)) (H : Hp) (b : Addr) : Prop :=
  H b = none ∧ b ≠ X.env.locals ∧ b ∉ X.fs ∧ (b ∈ X.ex ∨ X.s₀.heap.objs.size ≤ b) ∧ (∀ x c, X.env.cells.lookup x = some c → c ≠ b) ∧ ∀ p ∈ X.pn ++ pins, p.1 ≠ b
theorem Inv.fpOk {X : Cx} {pins : List (Addr × Obj)} {σ : St} {H H' : Hp} {s : Shared} {b : Addr} (I : Inv X pins σ H s) (hb : s.heap.objs.size ≤ b) (hn : H' b = none) : FpOk X pins H' b := by
  refine ⟨hn, Nat.ne_of_gt (Nat.lt_of_lt_of_le I.lt hb), I.nofs hb, .inr (Nat.le_trans I.sz hb), fun x c e z => ?_, fun p hp z => ?_⟩
  · obtain ⟨v, q⟩ := I.cell x c e
    exact absurd (Nat.lt_of_lt_of_le q.lt (by rw [z]; exact hb)) (Nat.lt_irrefl _)
  · exact absurd (Nat.lt_of_lt_of_le (Heap.lt_size (I.pin p hp).1) (by rw [z]; exact hb)) (Nat.lt_irrefl _)
structure Turn (P : Program) (w : World) (K : PySem.W.Frag) (tg : Expr) (J : It) (fp : List Addr) (it : Addr) (tn : Nat → Heap → Prop) : Prop where
  mem : it ∈ fp
  obj : ∀ i h, tn i h → ∀ b ∈ fp, ∃ o, h.get? b = some o ∧ ∀ v, o.data ≠ .cell v
  keep : ∀ i h h', tn i h → (∀ b ∈ fp, ∀ o, h.get? b = some o → h'.get? b = some o) → tn i h'
  item : ∀ (X : Cx), X.prog = P → X.w = w → X.K = K → X.calm = true → ∀ (i : Nat) (pins : List (Addr × Obj)) (s : Shared) (σ : St) (H : Hp) (E : Value → Shared → Prop), Inv X pins σ H s → (∀ b ∈ fp, FpOk X pins H b) → tn i s.heap → J.go i H →
    wpAny (model P w) X.A (pyNext (.ref it)) (fun r s1 => ∃ u, r = some u ∧
      wpAny (model P w) X.A (letOwnedTupleGo tg (.ref it) u) (fun _ s2 => ∃ x H', Inv X pins σ H' s2 ∧ RelV x u ∧ J.yld i H x H' ∧ tn (i + 1) s2.heap ∧ ∀ b ∈ fp, H' b = none) E s1) E s
  done : ∀ (X : Cx), X.prog = P → X.w = w → X.K = K → X.calm = true → ∀ (i : Nat) (pins : List (Addr × Obj)) (s : Shared) (σ : St) (H : Hp) (E : Value → Shared → Prop), Inv X pins σ H s → (∀ b ∈ fp, FpOk X pins H b) → tn i s.heap → J.stop i H →
    wpAny (model P w) X.A (pyNext (.ref it)) (fun r s1 => r = none ∧ Inv X pins σ H s1) E s
  self : ∀ (A : Around) (i : Nat) (s : Shared) (Q : Value → Shared → Prop) (E : Value → Shared → Prop), tn i s.heap → Q (.ref it) s → wpAny (model P w) A (pyIter (.ref it)) Q E s
abbrev TI := St → Hp → (It → Hp → Prop) → Prop
/-- an iterator has come -/
def PIE (X : Cx) (pins : List (Addr × Obj)) (σ : St) (tg : Expr) (R : It → Hp → Prop) (itv : Value) (s2 : Shared) : Prop :=
  ∃ (it : Addr) (fp : List Addr) (tn : Nat → Heap → Prop) (J : It) (H' : Hp), itv = .ref it ∧ Inv X pins σ H' s2 ∧ Turn X.prog X.w X.K tg J fp it tn ∧ tn 0 s2.heap ∧ (∀ b ∈ fp, FpOk X pins H' b) ∧ R J H'
def PI (X : Cx) (tg iter : Expr) (wi : TI) : Prop :=
  ∀ (pins : List (Addr × Obj)) (s : Shared) (σ : St) (H : Hp) (R : It → Hp → Prop), Inv X pins σ H s → wi σ H R →
    wpAny (model X.prog X.w) X.A (eval iter X.env) (fun v s1 => wpAny (model X.prog X.w) X.A (pyIter v) (PIE X pins σ tg R) X.xe s1) X.xe s

/-- the step ahead of the store is nothing for an iterator that keeps no tuple -/
theorem go_of {M : Model} {A : Around} {E : Value → Shared → Prop} {s : Shared} {tg : Expr} {it : Addr} {u : Value} {o : Obj} {n : String} {vs : Array Value} {Q : Unit → Shared → Prop} (ho : s.heap.get? it = some o) (hc : o.cls = .type n) (hd : o.data = .fields vs)
    (hn : ["enumerate", "zip", "dict_itemiterator", "dict_reverseitemiterator", "odict_iterator", "itertools.zip_longest", "itertools.pairwise"].contains n = false) (hQ : Q () s) : wpAny M A (letOwnedTupleGo tg (.ref it) u) Q E s := by
  unfold letOwnedTupleGo
  cases tg <;> first
    | exact wpAny_pure hQ
    | (cases u <;> first
        | exact wpAny_pure hQ
        | (refine wpAny_bind (wpAny_load ho ?_)
           rw [hc, hd]
           show wpAny M A (if (["enumerate", "zip", "dict_itemiterator", "dict_reverseitemiterator", "odict_iterator", "itertools.zip_longest", "itertools.pairwise"].contains n && vs[0]? == some (rawInt _)) = true then _ else _) Q E s
           rw [if_neg (by intro h; rw [hn, Bool.false_and] at h; cases h)]
           exact wpAny_pure hQ))

/-- the list at a, as it stands at each turn (a loop may append to it) -/
def Itl (K : PySem.W.Frag) (a : Addr) : It :=
  ⟨fun i H => ∃ xs x, SqL K H a xs ∧ xs[i]? = some x, fun i H x H' => H' = H ∧ ∀ xs, SqL K H a xs → xs[i]? = some x, fun i H => ∃ xs, SqL K H a xs ∧ xs.length ≤ i⟩
def Itt (K : PySem.W.Frag) (a : Addr) : It :=
  ⟨fun i H => ∃ xs x, SqT K H a xs ∧ xs[i]? = some x, fun i H x H' => H' = H ∧ ∀ xs, SqT K H a xs → xs[i]? = some x, fun i H => ∃ xs, SqT K H a xs ∧ xs.length ≤ i⟩
/-- lo, lo + 1, .. (n of them) -/
def Itr (lo : Int) (n : Nat) : It := ⟨fun i _ => i < n, fun i H x H' => H' = H ∧ x = .int (lo + i), fun i _ => n ≤ i⟩
theorem turn_list {P : Program} {w : World} {K : PySem.W.Frag} {tg : Expr} (a it : Addr) : Turn P w K tg (Itl K a) [it] it (fun i h => h.IsListIter it a i) where
  mem := by simp
  obj := fun i h st b hb => by
    have e : b = it := by simpa using hb
    subst e
    obtain ⟨o, e, c, d⟩ := st
    exact ⟨o, e, fun v z => by rw [d] at z; cases z⟩
  keep := fun i h h' st k => st.at fun o e => k it (by simp) o e
  item := by
    intro X hP hw hK hc i pins s σ H E I hf st hg
    subst hP hw hK
    obtain ⟨xs, x, hq, hx⟩ := hg
    obtain ⟨its, rv, p, hz⟩ := I.list hq
    obtain ⟨u, hu, ru⟩ := rv.get hx
    obtain ⟨f0, f1, f2, f3, f4, f5⟩ := hf it (by simp)
    refine wpAny_pyNext_list_item st p.isList (x := u) (by simpa using hu) fun h' st' sb => ?_
    have I1 : Inv X pins σ H { s with heap := h' } := I.turned (t' := s.toks) (fun b o hb e => (sb.2 b hb).trans e) f0 f1 f3 f4 f5
    obtain ⟨o, e, c, d⟩ := id st'
    exact ⟨u, rfl, go_of (s := { s with heap := h' }) e c d (by decide) ⟨x, H, I1, ru, ⟨rfl, fun ys hy => by rw [I.list_inj hy hq]; exact hx⟩, st', fun b hb => (hf b hb).1⟩⟩
  done := by
    intro X hP hw hK hc i pins s σ H E I hf st hg
    subst hP hw hK
    obtain ⟨xs, hq, hx⟩ := hg
    obtain ⟨its, rv, p, hz⟩ := I.list hq
    obtain ⟨f0, f1, f2, f3, f4, f5⟩ := hf it (by simp)
    have hl := rv.length
    exact wpAny_pyNext_list_end (I.ok.hd hc) st p.isList (by simp; omega) fun h' eb => ⟨rfl, I.turned (t' := s.toks) (fun b o hb e => eb b o hb e) f0 f1 f3 f4 f5⟩
  self := fun _ _ _ _ _ st h => wpAny_pyIter_listiter st h
theorem turn_tuple {P : Program} {w : World} {K : PySem.W.Frag} {tg : Expr} (a it : Addr) : Turn P w K tg (Itt K a) [it] it (fun i h => h.IsTupleIter it a i) where
  mem := by simp
  obj := fun i h st b hb => by
    have e : b = it := by simpa using hb
    subst e
    obtain ⟨o, e, c, d⟩ := st
    exact ⟨o, e, fun v z => by rw [d] at z; cases z⟩
  keep := fun i h h' st k => st.at fun o e => k it (by simp) o e
  item := by
    intro X hP hw hK hc i pins s σ H E I hf st hg
    subst hP hw hK
    obtain ⟨xs, x, hq, hx⟩ := hg
    obtain ⟨its, rv, p, hz⟩ := I.tuple hq
    obtain ⟨u, hu, ru⟩ := rv.get hx
    obtain ⟨f0, f1, f2, f3, f4, f5⟩ := hf it (by simp)
    refine wpAny_pyNext_tuple_item st (show s.heap.IsTuple a its.toArray from p) (x := u) (by simpa using hu) fun h' st' sb => ?_
    have I1 : Inv X pins σ H { s with heap := h' } := I.turned (t' := s.toks) (fun b o hb e => (sb.2 b hb).trans e) f0 f1 f3 f4 f5
    obtain ⟨o, e, c, d⟩ := id st'
    exact ⟨u, rfl, go_of (s := { s with heap := h' }) e c d (by decide) ⟨x, H, I1, ru, ⟨rfl, fun ys hy => by rw [I.tuple_inj hy hq]; exact hx⟩, st', fun b hb => (hf b hb).1⟩⟩
  done := by
    intro X hP hw hK hc i pins s σ H E I hf st hg
    subst hP hw hK
    obtain ⟨xs, hq, hx⟩ := hg
    obtain ⟨its, rv, p, hz⟩ := I.tuple hq
    obtain ⟨f0, f1, f2, f3, f4, f5⟩ := hf it (by simp)
    have hl := rv.length
    exact wpAny_pyNext_tuple_end (I.ok.hd hc) st (show s.heap.IsTuple a its.toArray from p) (by simp; omega) fun h' eb => ⟨rfl, I.turned (t' := s.toks) (fun b o hb e => eb b o hb e) f0 f1 f3 f4 f5⟩
  self := fun _ _ _ _ _ st h => wpAny_pyIter_tupleiter st h
theorem turn_range {P : Program} {w : World} {K : PySem.W.Frag} {tg : Expr} (it : Addr) (lo : Int) (n : Nat) : Turn P w K tg (Itr lo n) [it] it (fun i h => IsRangeIter h it (lo + (i : Nat) * 1) ((n : Int) - (i : Nat)) 1) where
  mem := by simp
  obj := fun i h st b hb => by
    have e : b = it := by simpa using hb
    subst e
    exact ⟨_, st, fun v z => by
      have z' : Data.fields _ = Data.cell v := z
      cases z'⟩
  keep := fun i h h' st k => k it (by simp) _ st
  item := by
    intro X hP hw hK hc i pins s σ H E I hf st hg
    subst hP hw hK
    obtain ⟨f0, f1, f2, f3, f4, f5⟩ := hf it (by simp)
    have W := Walks.range (prog := X.prog) (w := X.w) (I.ok.hd hc) it lo 1 n
    refine W.item i s _ _ hg st fun v h' tk hv st' kk => ?_
    obtain ⟨t, rfl⟩ := hv
    have I1 : Inv X pins σ H { s with heap := h', toks := tk } := I.turned (fun b o hb e => kk b o (by simpa using hb) e) f0 f1 f3 f4 f5
    refine ⟨_, rfl, go_of (s := { s with heap := h', toks := tk }) (n := "range_iterator") st' rfl rfl (by decide) ⟨.int (lo + i), H, I1, ⟨t, ?_⟩, ⟨rfl, rfl⟩, st', fun b hb => (hf b hb).1⟩⟩
    rw [Int.mul_one]
  done := by
    intro X hP hw hK hc i pins s σ H E I hf st hg
    subst hP hw hK
    obtain ⟨f0, f1, f2, f3, f4, f5⟩ := hf it (by simp)
    exact wpAny_pyNext_range_end (I.ok.hd hc) st (by have : n ≤ i := hg; omega) fun h' eb => ⟨rfl, I.turned (t' := s.toks) (fun b o hb e => eb b o hb e) f0 f1 f3 f4 f5⟩
  self := fun _ _ _ _ _ st h => wpAny_pyIter_rangeiter st h
end L2

namespace L2
open PySem PySem.Spec PyProof.Rows
section
variable {X : Cx} {tg : Expr}
def iList (K : PySem.W.Frag) (tl : TE) : TI := fun σ H R => tl σ H fun x H1 => ∃ a, x = .ref a ∧ (∃ xs, SqL K H1 a xs) ∧ R (Itl K a) H1
def iTup (K : PySem.W.Frag) (tl : TE) : TI := fun σ H R => tl σ H fun x H1 => ∃ a, x = .ref a ∧ (∃ xs, SqT K H1 a xs) ∧ R (Itt K a) H1
theorem pi_list {l : Expr} {tl : TE} (hl : PE X l tl) : PI X tg l (iList X.K tl) := by
  intro pins s σ H R I h
  refine thn (hl pins s σ H _ I h) fun v s1 ⟨x, H1, I1, r1, q1⟩ => ?_
  obtain ⟨a, e, ⟨xs, hq⟩, q⟩ := q1
  subst e
  cases r1
  obtain ⟨its, rv, p, hz⟩ := I1.list hq
  refine wpAny_pyIter_list p.isList ?_
  refine ⟨s1.heap.objs.size, [s1.heap.objs.size], _, _, H1, rfl, I1.kept (t' := s1.toks) fun b o e => Heap.get?_push_of_some _ e, turn_list a _, ⟨_, Heap.get?_push_size _ rfl, rfl, rfl⟩, fun b hb => ?_, q⟩
  have e : b = s1.heap.objs.size := by simpa using hb
  subst e
  exact I1.fpOk (Nat.le_refl _) (I1.hok.fresh (Nat.le_refl _))
theorem pi_tup {l : Expr} {tl : TE} (hl : PE X l tl) : PI X tg l (iTup X.K tl) := by
  intro pins s σ H R I h
  refine thn (hl pins s σ H _ I h) fun v s1 ⟨x, H1, I1, r1, q1⟩ => ?_
  obtain ⟨a, e, ⟨xs, hq⟩, q⟩ := q1
  subst e
  cases r1
  obtain ⟨its, rv, p, hz⟩ := I1.tuple hq
  refine wpAny_pyIter_tuple (show s1.heap.IsTuple a its.toArray from p) ?_
  refine ⟨s1.heap.objs.size, [s1.heap.objs.size], _, _, H1, rfl, I1.kept (t' := s1.toks) fun b o e => Heap.get?_push_of_some _ e, turn_tuple a _, ⟨_, Heap.get?_push_size _ rfl, rfl, rfl⟩, fun b hb => ?_, q⟩
  have e : b = s1.heap.objs.size := by simpa using hb
  subst e
  exact I1.fpOk (Nat.le_refl _) (I1.hok.fresh (Nat.le_refl _))
/-- a range object just made, walked -/
theorem range_it {pins : List (Addr × Obj)} {σ : St} {H : Hp} {s : Shared} {R : It → Hp → Prop} {E : Value → Shared → Prop} {lo hi : Int} {t u v : Tok} {tk : Nat} (I : Inv X pins σ H s) (h1 : -(2 ^ 62) ≤ lo) (h2 : lo < 2 ^ 62) (h3 : -(2 ^ 62) ≤ hi) (h4 : hi < 2 ^ 62)
    (q : R (Itr lo (hi - lo).toNat) H) : wpAny (model X.prog X.w) X.A (pyIter (.ref s.heap.objs.size)) (PIE X pins σ tg R) E { s with heap := s.heap.push { cls := .type "range", data := .fields #[.int lo t, .int hi u, .int 1 v] }, toks := tk } := by
  refine wpAny_pyIter_range (IsRange.new ..) (small_one h1 h2 h3 h4) ?_
  have I1 : Inv X pins σ H { s with heap := s.heap.push { cls := .type "range", data := .fields #[.int lo t, .int hi u, .int 1 v] }, toks := tk } := I.kept fun b o e => Heap.get?_push_of_some _ e
  refine ⟨(s.heap.push { cls := .type "range", data := .fields #[.int lo t, .int hi u, .int 1 v] }).objs.size, [(s.heap.push { cls := .type "range", data := .fields #[.int lo t, .int hi u, .int 1 v] }).objs.size], _, _, H, rfl,
    I1.kept (t' := tk) fun b o e => Heap.get?_push_of_some _ e, turn_range _ lo (hi - lo).toNat, ?_, fun b hb => ?_, q⟩
  · have e1 : lo + ((0 : Nat) : Int) * 1 = lo := by simp
    have e2 : (((hi - lo).toNat : Nat) : Int) - ((0 : Nat) : Int) = Builtin.Range.rangeSize lo hi 1 := by rw [rangeSize_one]; split <;> omega
    show IsRangeIter _ _ (lo + ((0 : Nat) : Int) * 1) ((((hi - lo).toNat : Nat) : Int) - ((0 : Nat) : Int)) 1
    rw [e1, e2]
    exact Heap.get?_push_size _ rfl
  · have e : b = (s.heap.push { cls := .type "range", data := .fields #[.int lo t, .int hi u, .int 1 v] }).objs.size := by simpa using hb
    subst e
    exact I1.fpOk (Nat.le_refl _) (I1.hok.fresh (Nat.le_refl _))
def iRng1 (ta : TA) : TI := fun σ H R => ta σ H fun vs H1 => ∃ j : Int, vs = [.int j] ∧ -(2 ^ 62) ≤ j ∧ j < 2 ^ 62 ∧ R (Itr 0 j.toNat) H1
def iRng2 (ta : TA) : TI := fun σ H R => ta σ H fun vs H1 => ∃ i j : Int, vs = [.int i, .int j] ∧ (-(2 ^ 62) ≤ i ∧ i < 2 ^ 62 ∧ -(2 ^ 62) ≤ j ∧ j < 2 ^ 62) ∧ R (Itr i (j - i).toNat) H1
theorem pi_range1 {a : Expr} {ta : TA} {p pos : Pos} (hg : Gl X "range") (hm : X.mg "range" = none) (ha : PA X [a] ta) (hs : starEach [a] X.env = [(false, eval a X.env)] := by rfl) : PI X tg (.Call (.Name "range" p) [a] [] pos) (iRng1 ta) := by
  intro pins s σ H R I h
  refine Call_ (ld_blt I hg hm boot_range (PyProof.Rows.callWith_type1 (thn (ha pos pins s σ H _ I h) fun us s1 ⟨vs, H1, I1, r1, q1⟩ => ?_) hs rfl))
  obtain ⟨j, e, q1, q2, q⟩ := q1
  subst e
  cases r1 with
  | cons r rr =>
    cases rr
    obtain ⟨t, rfl⟩ := r
    exact call_range_1 (range_it I1 (by omega) (by omega) q1 q2 (by simpa using q))
/-! ### for -/
/-- W: the invariant by the turn and a measure; N: what the body is to reach -/
def tFor (wi : TI) (g : TG) (tb : TS) : TS := fun D σ H => wi σ H fun J H1 => ∃ W : Nat → Nat → St → Hp → Prop, (∃ m, W 0 m σ H1) ∧ ∀ i m σ H, W i m σ H →
  (J.stop i H ∧ D.nx σ H) ∨ (J.go i H ∧ ∃ N : St → Hp → Prop, (∀ σ' H', N σ' H' → ∃ m', m' < m ∧ W (i + 1) m' σ' H') ∧ ∀ x H', J.yld i H x H' → g x σ H' fun σ2 H2 => tb { D with nx := N, ct := N, bk := D.nx } σ2 H2)
/-- the records at fp as they stand -/
def pinsAt (fp : List Addr) (h : Heap) : List (Addr × Obj) := fp.filterMap fun b => (h.get? b).map fun o => (b, o)
theorem mem_pinsAt {fp : List Addr} {h : Heap} {b : Addr} {o : Obj} (hb : b ∈ fp) (e : h.get? b = some o) : (b, o) ∈ pinsAt fp h := List.mem_filterMap.mpr ⟨b, hb, by rw [e]; rfl⟩
theorem of_pinsAt {fp : List Addr} {h : Heap} {p : Addr × Obj} (hp : p ∈ pinsAt fp h) : p.1 ∈ fp ∧ h.get? p.1 = some p.2 := by
  obtain ⟨b, hb, e⟩ := List.mem_filterMap.mp hp
  cases q : h.get? b with
  | none => rw [q] at e; cases e
  | some o =>
    rw [q] at e
    have e' : (b, o) = p := Option.some.inj e
    subst e'
    exact ⟨hb, q⟩
theorem Inv.pinned {pins : List (Addr × Obj)} {σ : St} {H : Hp} {s : Shared} {fp : List Addr} (I : Inv X pins σ H s) (hf : ∀ b ∈ fp, FpOk X pins H b) (ho : ∀ b ∈ fp, ∃ o, s.heap.get? b = some o ∧ ∀ v, o.data ≠ .cell v) : Inv X (pins ++ pinsAt fp s.heap) σ H s :=
  I.pins_of fun p hp => (List.mem_append.mp hp).elim (fun z => I.pin p (List.mem_append_right _ z)) fun z => by
    obtain ⟨hb, e⟩ := of_pinsAt z
    obtain ⟨f0, f1, f2, _⟩ := hf p.1 hb
    obtain ⟨o, e', d⟩ := ho p.1 hb
    rw [e] at e'; cases e'
    exact ⟨e, f0, f1, f2, d⟩
theorem Inv.unpinned {pins pl : List (Addr × Obj)} {σ : St} {H : Hp} {s : Shared} (I : Inv X (pins ++ pl) σ H s) : Inv X pins σ H s := I.pins_of fun p hp => I.pin p (List.mem_append_right _ (List.mem_append_left _ hp))
theorem ps_for {iter : Expr} {body : List Stmt} {wi : TI} {g : TG} {tb : TS} {pos : Pos} (hp : PassesOwn (model X.prog X.w) X.A X.env X.xe) (hc : X.calm = true) (hi : PI X tg iter wi) (hg : PG X tg g) (hb : PSs X body tb)
    (hs : ∀ x, foldedSetIterable iter X.env x = pure x := by intro _; rfl) : PS X (.For tg iter body [] pos) (tFor wi g tb) := by
  intro pins s σ H D I h
  refine wpAny_For (thn (hi pins s σ H _ I h) fun v s1 h1 => thn h1 fun itv s2 h2 => ?_) hs
  obtain ⟨it, fp, tn, J, H2, e, I2, T, st2, f2, W, ⟨m0, w0⟩, turn⟩ := h2
  subst e
  -- what stays true of the iterator's objects through the loop
  have stat : ∀ {H' : Hp}, (∀ b ∈ fp, H' b = none) → ∀ b ∈ fp, FpOk X pins H' b := fun hn b hb => ⟨hn b hb, (f2 b hb).2⟩
  refine codeAny_forLoop_any (fun n s' => ∃ i σ' H', Inv X pins σ' H' s' ∧ tn i s'.heap ∧ (∀ b ∈ fp, H' b = none) ∧ W i n σ' H') ?_ m0 ⟨0, σ, H2, I2, st2, fun b hb => (f2 b hb).1, w0⟩
  rintro n s3 ⟨i, σ3, H3, I3, st3, fr3, w3⟩
  rcases turn i n σ3 H3 w3 with ⟨stop, qn⟩ | ⟨go, N, hN, step⟩
  · refine wpAny_passesOwn hp (thn (T.done X rfl rfl rfl hc i pins s3 σ3 H3 X.xe I3 (stat fr3) st3 stop) fun r s4 ⟨hr, I4⟩ => ?_)
    subst hr
    exact wpAny_execs_nil ⟨σ3, H3, I4, qn⟩
  · refine wpAny_passesOwn hp (thn (T.item X rfl rfl rfl hc i pins s3 σ3 H3 X.xe I3 (stat fr3) st3 go) fun r s4 ⟨u, hr, h4⟩ => ?_)
    subst hr
    refine wpAny_passesOwn hp (thn h4 fun _ s5 ⟨x, H5, I5, r5, y5, st5, fr5⟩ => ?_)
    have I5' := I5.pinned (stat fr5) (T.obj _ _ st5)
    refine wpAny_passesOwn hp (thn (hg _ s5 σ3 H5 x u _ I5' r5 (step x H5 y5)) fun _ s6 ⟨σ6, H6, I6, q6⟩ => ?_)
    refine wpAny_passesOwn hp (thn (hb _ s6 σ6 H6 _ I6 q6) fun f s7 q7 => ?_)
    have again : ∀ {σ7 : St} {H7 : Hp}, Inv X (pins ++ pinsAt fp s5.heap) σ7 H7 s7 → N σ7 H7 → ∃ m, m < n ∧ ∃ i σ' H', Inv X pins σ' H' s7 ∧ tn i s7.heap ∧ (∀ b ∈ fp, H' b = none) ∧ W i m σ' H' := fun {σ7 H7} I7 n7 => by
      obtain ⟨m', hm, w7⟩ := hN σ7 H7 n7
      refine ⟨m', hm, i + 1, σ7, H7, I7.unpinned, T.keep _ _ _ st5 fun b hb o e => (I7.pin (b, o) (List.mem_append_right _ (List.mem_append_right _ (mem_pinsAt hb e)))).1, fun b hb => ?_, w7⟩
      obtain ⟨o, e, d⟩ := T.obj _ _ st5 b hb
      exact (I7.pin (b, o) (List.mem_append_right _ (List.mem_append_right _ (mem_pinsAt hb e)))).2.1
    cases f with
    | next => obtain ⟨σ7, H7, I7, n7⟩ := q7; exact again I7 n7
    | cont => obtain ⟨σ7, H7, I7, n7⟩ := q7; exact again I7 n7
    | brk => obtain ⟨σ7, H7, I7, q7⟩ := q7; exact ⟨σ7, H7, I7.unpinned, q7⟩
    | ret v => obtain ⟨x7, σ7, H7, I7, r7, q7⟩ := q7; exact ⟨x7, σ7, H7, I7.unpinned, r7, q7⟩
end

/-! ### the forms one uses -/
/-- over a list that the body leaves as it is -/
theorem for_list {K : PySem.W.Frag} {a : Addr} {xs : List V} {g : TG} {tb : TS} {D : Ends} {σ : St} {H : Hp} (Pv : Nat → St → Hp → Prop) (h0 : Pv 0 σ H) (hl : ∀ i σ H, i ≤ xs.length → Pv i σ H → SqL K H a xs)
    (hs : ∀ i x σ H, xs[i]? = some x → Pv i σ H → g x σ H fun σ2 H2 => tb { D with nx := Pv (i + 1), ct := Pv (i + 1), bk := D.nx } σ2 H2) (hd : ∀ σ H, Pv xs.length σ H → D.nx σ H) :
    ∃ W : Nat → Nat → St → Hp → Prop, (∃ m, W 0 m σ H) ∧ ∀ i m σ H, W i m σ H →
      ((Itl K a).stop i H ∧ D.nx σ H) ∨ ((Itl K a).go i H ∧ ∃ N : St → Hp → Prop, (∀ σ' H', N σ' H' → ∃ m', m' < m ∧ W (i + 1) m' σ' H') ∧ ∀ x H', (Itl K a).yld i H x H' → g x σ H' fun σ2 H2 => tb { D with nx := N, ct := N, bk := D.nx } σ2 H2) := by
  refine ⟨fun i m σ H => m = xs.length - i ∧ i ≤ xs.length ∧ Pv i σ H, ⟨xs.length, by simp, Nat.zero_le _, h0⟩, ?_⟩
  rintro i m σ H ⟨rfl, hi, p⟩
  have q := hl i σ H hi p
  by_cases hlt : i < xs.length
  · refine .inr ⟨⟨xs, xs[i], q, by simp [hlt]⟩, Pv (i + 1), fun σ' H' p' => ⟨xs.length - (i + 1), by omega, rfl, hlt, p'⟩, fun x H' y => ?_⟩
    obtain ⟨e, y⟩ := y
    subst e
    exact hs i x σ _ (y xs q) p
  · have e : i = xs.length := by omega
    subst e
    exact .inl ⟨⟨xs, q, Nat.le_refl _⟩, hd σ H p⟩
theorem for_range {lo : Int} {n : Nat} {g : TG} {tb : TS} {D : Ends} {σ : St} {H : Hp} (Pv : Nat → St → Hp → Prop) (h0 : Pv 0 σ H)
    (hs : ∀ i σ H, i < n → Pv i σ H → g (.int (lo + i)) σ H fun σ2 H2 => tb { D with nx := Pv (i + 1), ct := Pv (i + 1), bk := D.nx } σ2 H2) (hd : ∀ σ H, Pv n σ H → D.nx σ H) :
    ∃ W : Nat → Nat → St → Hp → Prop, (∃ m, W 0 m σ H) ∧ ∀ i m σ H, W i m σ H →
      ((Itr lo n).stop i H ∧ D.nx σ H) ∨ ((Itr lo n).go i H ∧ ∃ N : St → Hp → Prop, (∀ σ' H', N σ' H' → ∃ m', m' < m ∧ W (i + 1) m' σ' H') ∧ ∀ x H', (Itr lo n).yld i H x H' → g x σ H' fun σ2 H2 => tb { D with nx := N, ct := N, bk := D.nx } σ2 H2) := by
  refine ⟨fun i m σ H => m = n - i ∧ i ≤ n ∧ Pv i σ H, ⟨n, by simp, Nat.zero_le _, h0⟩, ?_⟩
  rintro i m σ H ⟨rfl, hi, p⟩
  by_cases hlt : i < n
  · refine .inr ⟨hlt, Pv (i + 1), fun σ' H' p' => ⟨n - (i + 1), by omega, rfl, hlt, p'⟩, fun x H' y => ?_⟩
    obtain ⟨e, y⟩ := y
    subst e y
    exact hs i σ _ hlt p
  · have e : i = n := by omega
    subst e
    exact .inl ⟨Nat.le_refl _, hd σ H p⟩
end L2

namespace L2
open PySem PySem.Spec PyProof.Rows

abbrev R2 := V → V → Hp → VK → Prop
/-- a two-place operation on values: f is binaryOp op, inplaceOp op or compareOp op -/
def OpR (X : Cx) (f : Value → Value → Sem Value) (r : R2) : Prop :=
  ∀ (pins : List (Addr × Obj)) (s : Shared) (σ : St) (H : Hp) (x y : V) (v u : Value) (Q : VK), Inv X pins σ H s → RelV x v → RelV y u → r x y H Q →
    wpAny (model X.prog X.w) X.A (f v u) (EP X pins σ Q) X.xe s
/-- a one-place operation -/
def UnR (X : Cx) (f : Value → Sem Value) (r : V → Hp → VK → Prop) : Prop :=
  ∀ (pins : List (Addr × Obj)) (s : Shared) (σ : St) (H : Hp) (x : V) (v : Value) (Q : VK), Inv X pins σ H s → RelV x v → r x H Q →
    wpAny (model X.prog X.w) X.A (f v) (EP X pins σ Q) X.xe s
/-- a call of a value that is known (a builtin, a type) with values -/
def CallR (X : Cx) (f : Value) (r : List V → Hp → VK → Prop) : Prop :=
  ∀ (pins : List (Addr × Obj)) (s : Shared) (σ : St) (H : Hp) (xs : List V) (us : List Value) (Q : VK), Inv X pins σ H s → Vals xs us → r xs H Q →
    wpAny (model X.prog X.w) X.A (call f us) (EP X pins σ Q) X.xe s
/-- a value's truth -/
def TruR (X : Cx) (r : V → Hp → (Bool → Hp → Prop) → Prop) : Prop :=
  ∀ (pins : List (Addr × Obj)) (s : Shared) (σ : St) (H : Hp) (x : V) (v : Value) (Q : Bool → Hp → Prop), Inv X pins σ H s → RelV x v → r x H Q →
    wpAny (model X.prog X.w) X.A (truthy v) (TP X pins σ Q) X.xe s

def tOp (r : R2) (ta tb : TE) : TE := fun σ H Q => ta σ H fun x H1 => tb σ H1 fun y H2 => r x y H2 Q
def tUn (r : V → Hp → VK → Prop) (ta : TE) : TE := fun σ H Q => ta σ H fun x H1 => r x H1 Q
/-- ints in, under C, and a value out -/
def rI (C : Int → Int → Prop) (g : Int → Int → V) : R2 := fun x y H Q => ∃ i j, x = .int i ∧ y = .int j ∧ C i j ∧ Q (g i j) H
def rI0 (g : Int → Int → V) : R2 := fun x y H Q => ∃ i j, x = .int i ∧ y = .int j ∧ Q (g i j) H
def rU (g : Int → V) : V → Hp → VK → Prop := fun x H Q => ∃ i, x = .int i ∧ Q (g i) H

section
variable {X : Cx} {a b c : Expr} {ta tb tc : TE} {pos : Pos}

theorem binT (ha : PE X a ta) (hb : PE X b tb) {pins : List (Addr × Obj)} {s : Shared} {σ : St} {H : Hp} {R : V → V → Hp → Prop} (I : Inv X pins σ H s)
    (h : ta σ H fun x H1 => tb σ H1 fun y H2 => R x y H2) {Q : Value → Shared → Prop} {f : Value → Value → Sem Value}
    (hf : ∀ v u s2 x y H2, Inv X pins σ H2 s2 → RelV x v → RelV y u → R x y H2 → wpAny (model X.prog X.w) X.A (f v u) Q X.xe s2) :
    wpAny (model X.prog X.w) X.A (eval a X.env) (fun v s₁ => wpAny (model X.prog X.w) X.A (eval b X.env) (fun u s₂ => wpAny (model X.prog X.w) X.A (f v u) Q X.xe s₂) X.xe s₁) X.xe s := by
  refine thn (ha pins s σ H _ I h) fun v s1 ⟨x, H1, I1, r1, q1⟩ => ?_
  refine thn (hb pins s1 σ H1 _ I1 q1) fun u s2 ⟨y, H2, I2, r2, q2⟩ => ?_
  exact hf v u s2 x y H2 I2 r1 r2 q2

theorem pe_op {op : Operator} {r : R2} (ho : OpR X (binaryOp op) r) (ha : PE X a ta) (hb : PE X b tb) : PE X (.BinOp a op b pos) (tOp r ta tb) := by
  intro pins s σ H Q I h
  exact wpAny_BinOp (binT ha hb I h fun v u s2 x y H2 I2 rx ry q => ho pins s2 σ H2 x y v u Q I2 rx ry q)
theorem pe_un {op : UnaryOp} {r : V → Hp → VK → Prop} (ho : UnR X (unaryOp op) r) (ha : PE X a ta) : PE X (.UnaryOp op a pos) (tUn r ta) := by
  intro pins s σ H Q I h
  exact UnaryOp_ (thn (ha pins s σ H _ I h) fun v s1 ⟨x, H1, I1, r1, q1⟩ => ho pins s1 σ H1 x v Q I1 r1 q1)
/-! ### ints -/
theorem opI {f : Value → Value → Sem Value} {C : Int → Int → Prop} {g : Int → Int → Int}
    (rule : ∀ (i j : Int) (t u : Tok) (s : Shared) (Q : Value → Shared → Prop) (E : Value → Shared → Prop), C i j → Q (.int (g i j) s.toks) { s with toks := s.toks + 1 } → wpAny (model X.prog X.w) X.A (f (.int i t) (.int j u)) Q E s) :
    OpR X f (rI C fun i j => .int (g i j)) := by
  intro pins s σ H x y v u Q I rx ry h
  obtain ⟨i, j, rfl, rfl, hc, q⟩ := h
  obtain ⟨t, rfl⟩ := rx
  obtain ⟨t', rfl⟩ := ry
  exact rule i j t t' s _ _ hc ⟨.int (g i j), H, I.tok _, ⟨_, rfl⟩, q⟩
theorem opI0 {f : Value → Value → Sem Value} {g : Int → Int → Int}
    (rule : ∀ (i j : Int) (t u : Tok) (s : Shared) (Q : Value → Shared → Prop) (E : Value → Shared → Prop), Q (.int (g i j) s.toks) { s with toks := s.toks + 1 } → wpAny (model X.prog X.w) X.A (f (.int i t) (.int j u)) Q E s) :
    OpR X f (rI0 fun i j => .int (g i j)) := by
  intro pins s σ H x y v u Q I rx ry h
  obtain ⟨i, j, rfl, rfl, q⟩ := h
  obtain ⟨t, rfl⟩ := rx
  obtain ⟨t', rfl⟩ := ry
  exact rule i j t t' s _ _ ⟨.int (g i j), H, I.tok _, ⟨_, rfl⟩, q⟩
theorem opB0 {f : Value → Value → Sem Value} {g : Int → Int → Bool}
    (rule : ∀ (i j : Int) (t u : Tok) (s : Shared) (Q : Value → Shared → Prop) (E : Value → Shared → Prop), Q (.bool (g i j)) s → wpAny (model X.prog X.w) X.A (f (.int i t) (.int j u)) Q E s) :
    OpR X f (rI0 fun i j => .bl (g i j)) := by
  intro pins s σ H x y v u Q I rx ry h
  obtain ⟨i, j, rfl, rfl, q⟩ := h
  obtain ⟨t, rfl⟩ := rx
  obtain ⟨t', rfl⟩ := ry
  exact rule i j t t' s _ _ ⟨.bl (g i j), H, I, rfl, q⟩

def CDiv (i j : Int) : Prop := 0 < j ∧ j < 1073741824
def CDivN (i j : Int) : Prop := j ≠ 0 ∧ j.natAbs < 1073741824
def CPow (i j : Int) : Prop := 0 ≤ j ∧ j ≤ 1000000 ∧ i.natAbs < 2 ^ 64
def CMul (i j : Int) : Prop := (-(2 ^ 64) < i ∧ i < 2 ^ 64) ∨ (-(2 ^ 64) < j ∧ j < 2 ^ 64)
theorem CMul.ok {i j : Int} (h : CMul i j) : IntMulOk i j := by
  rcases h with ⟨h1, h2⟩ | ⟨h1, h2⟩
  · exact .of_left (intBits_le_64 h1 h2)
  · exact .of_right (intBits_le_64 h1 h2)
theorem op_add : OpR X (binaryOp .Add) (rI0 fun i j => .int (i + j)) := opI0 fun _ _ _ _ _ _ _ q => add_int q
theorem op_sub : OpR X (binaryOp .Sub) (rI0 fun i j => .int (i - j)) := opI0 fun _ _ _ _ _ _ _ q => sub_int q
theorem op_mul : OpR X (binaryOp .Mult) (rI CMul fun i j => .int (i * j)) := opI fun _ _ _ _ _ _ _ hc q => mul_int q hc.ok
/-- // by a positive divisor -/
theorem op_fdiv : OpR X (binaryOp .FloorDiv) (rI CDiv fun i j => .int (i / j)) := opI fun i j _ _ _ _ _ hc q => by
  have h1 : (0 : Int) < j := hc.1
  have h2 : j < 1073741824 := hc.2
  exact floordiv_int (by omega) (by rw [Int.fdiv_eq_ediv_of_nonneg i (by omega)]; exact q) (.inl (PyProof.noPylong_small (by omega)))
/-- % by a positive divisor of any size -/
theorem op_mod : OpR X (binaryOp .Mod) (rI (fun _ j => 0 < j) fun i j => .int (i % j)) := opI fun i j _ _ _ _ _ hc q => by
  have h1 : (0 : Int) < j := hc
  exact mod_int' (by omega) (by rw [Int.fmod_eq_emod_of_nonneg i (by omega)]; exact q)
theorem op_pow : OpR X (binaryOp .Pow) (rI CPow fun i j => .int (i ^ j.toNat)) := opI fun _ _ _ _ _ _ _ hc q => pow_int_small hc.1 hc.2.1 hc.2.2 q
theorem unI {f : Value → Sem Value} {g : Int → Int}
    (rule : ∀ (i : Int) (t : Tok) (s : Shared) (Q : Value → Shared → Prop) (E : Value → Shared → Prop), Q (.int (g i) s.toks) { s with toks := s.toks + 1 } → wpAny (model X.prog X.w) X.A (f (.int i t)) Q E s) :
    UnR X f (rU fun i => .int (g i)) := by
  intro pins s σ H x v Q I rx h
  obtain ⟨i, rfl, q⟩ := h
  obtain ⟨t, rfl⟩ := rx
  exact rule i t s _ _ ⟨.int (g i), H, I.tok _, ⟨_, rfl⟩, q⟩
theorem un_neg : UnR X (unaryOp .USub) (rU fun i => .int (-i)) := unI fun _ _ _ _ _ q => neg_int q
/-! ### bools among ints: n += (a < b) -/
end

/-! ### comparisons -/
/-- the scalars that == tells apart as data does -/
def scal : V → V → Bool
  | .non, .non => true | .non, .int _ => true | .int _, .non => true | .non, .bl _ => true | .bl _, .non => true | .non, .str _ => true | .str _, .non => true
  | .int _, .int _ => true | .bl _, .bl _ => true | .str _, .str _ => true | .byt _, .byt _ => true
  | .int _, .str _ => true | .str _, .int _ => true | .bl _, .str _ => true | .str _, .bl _ => true
  | _, _ => false
def rEq : R2 := fun x y H Q => scal x y = true ∧ Q (.bl (decide (x = y))) H
def rNe : R2 := fun x y H Q => scal x y = true ∧ Q (.bl (!decide (x = y))) H

theorem dec_int {i j : Int} : decide (V.int i = V.int j) = (i == j) := by
  rw [Bool.eq_iff_iff]
  simp
theorem dec_bl {i j : Bool} : decide (V.bl i = V.bl j) = (i == j) := by
  rw [Bool.eq_iff_iff]
  simp
theorem dec_str {i j : Str} : decide (V.str i = V.str j) = (i == j) := by
  rw [Bool.eq_iff_iff]
  simp
theorem dec_byt {i j : Array UInt8} : decide (V.byt i = V.byt j) = (i.toList == j.toList) := by
  rw [Bool.eq_iff_iff]
  cases i
  cases j
  simp

section
variable {X : Cx} {a b c : Expr} {ta tb tc : TE} {pos : Pos}
theorem fin_bl {pins : List (Addr × Obj)} {σ : St} {H : Hp} {s : Shared} {Q : VK} {k k' : Bool} (I : Inv X pins σ H s) (q : Q (.bl k) H) (e : k = k') : EP X pins σ Q (.bool k') s := by
  subst e
  exact ⟨.bl k, H, I, rfl, q⟩
theorem op_eq : OpR X (compareOp .Eq) rEq := by
  intro pins s σ H x y v u Q I rx ry h
  obtain ⟨hs, q⟩ := h
  cases x with
  | non =>
    cases rx
    cases y with
    | non => cases ry; exact PySem.EqNone.eq_none_none (fin_bl I q (by simp))
    | bl j => cases ry; exact PySem.EqNone.eq_none_bool (fin_bl I q (by simp))
    | int j => obtain ⟨t', rfl⟩ := ry; exact PySem.EqNone.eq_none_int (fin_bl I q (by simp))
    | str j => obtain ⟨t', rfl⟩ := ry; exact PySem.EqNone.eq_none_str (fin_bl I q (by simp))
    | _ => exact absurd (show false = true from hs) Bool.false_ne_true
  | bl i =>
    cases rx
    cases y with
    | non => cases ry; exact PySem.EqNone.eq_bool_none (fin_bl I q (by simp))
    | bl j => cases ry; exact eq_bool (fin_bl I q dec_bl)
    | str j => obtain ⟨t', rfl⟩ := ry; exact PySem.EqMixed.eq_bool_str (fin_bl I q (by simp))
    | _ => exact absurd (show false = true from hs) Bool.false_ne_true
  | int i =>
    obtain ⟨t, rfl⟩ := rx
    cases y with
    | non => cases ry; exact PySem.EqNone.eq_int_none (fin_bl I q (by simp))
    | int j => obtain ⟨t', rfl⟩ := ry; exact eq_int (fin_bl I q dec_int)
    | str j => obtain ⟨t', rfl⟩ := ry; exact PySem.EqMixed.eq_int_str (fin_bl I q (by simp))
    | _ => exact absurd (show false = true from hs) Bool.false_ne_true
  | str i =>
    obtain ⟨t, rfl⟩ := rx
    cases y with
    | non => cases ry; exact PySem.EqNone.eq_str_none (fin_bl I q (by simp))
    | bl j => cases ry; exact PySem.EqMixed.eq_str_bool (fin_bl I q (by simp))
    | int j => obtain ⟨t', rfl⟩ := ry; exact PySem.EqMixed.eq_str_int (fin_bl I q (by simp))
    | str j => obtain ⟨t', rfl⟩ := ry; exact eq_str (fin_bl I q dec_str)
    | _ => exact absurd (show false = true from hs) Bool.false_ne_true
  | byt i =>
    obtain ⟨t, rfl⟩ := rx
    cases y with
    | byt j => obtain ⟨t', rfl⟩ := ry; exact PySem.W.eq_bytes (fin_bl I q dec_byt)
    | _ => exact absurd (show false = true from hs) Bool.false_ne_true
  | _ => cases y <;> exact absurd (show false = true from hs) Bool.false_ne_true
theorem op_ne : OpR X (compareOp .NotEq) rNe := by
  intro pins s σ H x y v u Q I rx ry h
  obtain ⟨hs, q⟩ := h
  cases x with
  | non =>
    cases rx
    cases y with
    | non => cases ry; exact PySem.EqNone.ne_none_none (fin_bl I q (by simp))
    | bl j => cases ry; exact PySem.EqNone.ne_none_bool (fin_bl I q (by simp))
    | int j => obtain ⟨t', rfl⟩ := ry; exact PySem.EqNone.ne_none_int (fin_bl I q (by simp))
    | str j => obtain ⟨t', rfl⟩ := ry; exact PySem.EqNone.ne_none_str (fin_bl I q (by simp))
    | _ => exact absurd (show false = true from hs) Bool.false_ne_true
  | bl i =>
    cases rx
    cases y with
    | non => cases ry; exact PySem.EqNone.ne_bool_none (fin_bl I q (by simp))
    | bl j => cases ry; exact ne_bool (fin_bl I q (congrArg not dec_bl))
    | str j => obtain ⟨t', rfl⟩ := ry; exact PySem.EqMixed.ne_bool_str (fin_bl I q (by simp))
    | _ => exact absurd (show false = true from hs) Bool.false_ne_true
  | int i =>
    obtain ⟨t, rfl⟩ := rx
    cases y with
    | non => cases ry; exact PySem.EqNone.ne_int_none (fin_bl I q (by simp))
    | int j => obtain ⟨t', rfl⟩ := ry; exact ne_int (fin_bl I q (congrArg not dec_int))
    | str j => obtain ⟨t', rfl⟩ := ry; exact PySem.EqMixed.ne_int_str (fin_bl I q (by simp))
    | _ => exact absurd (show false = true from hs) Bool.false_ne_true
  | str i =>
    obtain ⟨t, rfl⟩ := rx
    cases y with
    | non => cases ry; exact PySem.EqNone.ne_str_none (fin_bl I q (by simp))
    | bl j => cases ry; exact PySem.EqMixed.ne_str_bool (fin_bl I q (by simp))
    | int j => obtain ⟨t', rfl⟩ := ry; exact PySem.EqMixed.ne_str_int (fin_bl I q (by simp))
    | str j => obtain ⟨t', rfl⟩ := ry; exact ne_str (fin_bl I q (congrArg not dec_str))
    | _ => exact absurd (show false = true from hs) Bool.false_ne_true
  | byt i =>
    obtain ⟨t, rfl⟩ := rx
    cases y with
    | byt j => obtain ⟨t', rfl⟩ := ry; exact PySem.W.ne_bytes (fin_bl I q (congrArg not dec_byt))
    | _ => exact absurd (show false = true from hs) Bool.false_ne_true
  | _ => cases y <;> exact absurd (show false = true from hs) Bool.false_ne_true

theorem op_lt : OpR X (compareOp .Lt) (rI0 fun i j => .bl (decide (i < j))) := opB0 fun _ _ _ _ _ _ _ q => lt_int q
theorem op_le : OpR X (compareOp .LtE) (rI0 fun i j => .bl (decide (i ≤ j))) := opB0 fun _ _ _ _ _ _ _ q => le_int q
theorem op_gt : OpR X (compareOp .Gt) (rI0 fun i j => .bl (decide (j < i))) := opB0 fun _ _ _ _ _ _ _ q => gt_int q
/-- is None, is not None: the right side a value none -/
theorem op_isN : OpR X (compareOp .Is) (fun x y H Q => y = .non ∧ Q (.bl (decide (x = .non))) H) := by
  intro pins s σ H x y v u Q I rx ry h
  obtain ⟨rfl, q⟩ := h
  cases ry
  refine is_none_gen (fin_bl I q ?_)
  cases x <;> first
    | (cases rx; rfl)
    | (obtain ⟨t, rfl⟩ := rx; rfl)
/-- is, is not of two objects that are tracked lists or instances -/
def isObj : HO → Bool
  | .lst _ => true
  | .ins _ _ _ => true
  | _ => false
theorem nomark (b : Expr) {op : CmpOp} (h : op ≠ .In := by decide) (h2 : op ≠ .NotIn := by decide) : behindInMarks op b = false := by
  have e1 : (op == CmpOp.In) = false := by cases op <;> first | rfl | exact absurd rfl h
  have e2 : (op == CmpOp.NotIn) = false := by cases op <;> first | rfl | exact absurd rfl h2
  cases b <;> simp [behindInMarks, e1, e2]
/-- a comparison as a value; hm: nomark b, or (for in, not in) by with_unfolding_all rfl -/
theorem pe_cmpR {op : CmpOp} {r : R2} (ho : OpR X (compareOp op) r) (ha : PE X a ta) (hb : PE X b tb) (hm : behindInMarks op b = false) : PE X (.Compare a [op] [b] pos) (tOp r ta tb) := by
  intro pins s σ H Q I h
  exact wpAny_Compare1 (binT ha hb I h fun v u s2 x y H2 I2 rx ry q => ho pins s2 σ H2 x y v u Q I2 rx ry q) hm
/-- a reading of a value as a test -/
def tTest (t : TE) : TT := fun σ H Q => t σ H fun x H' => ∃ k, x = .bl k ∧ Q k H'
theorem pt_cmpR {op : CmpOp} {r : R2} (ho : OpR X (compareOp op) r) (ha : PE X a ta) (hb : PE X b tb) (hm : behindInMarks op b = false) : PT X (.Compare a [op] [b] pos) (tTest (tOp r ta tb)) := by
  intro pins s σ H Q I h
  refine wpAny_isTrue_Compare1 (thn (ha pins s σ H _ I h) fun v s1 ⟨x, H1, I1, r1, q1⟩ => thn (hb pins s1 σ H1 _ I1 q1) fun u s2 ⟨y, H2, I2, r2, q2⟩ =>
    thn (ho pins s2 σ H2 x y v u _ I2 r1 r2 q2) fun c s3 ⟨z, H3, I3, r3, k, e, q3⟩ => ?_) hm
  subst e
  cases r3
  exact wpAny_truthy_bool ⟨H3, I3, q3⟩
/-- a op1 b op2 c -/
def tChain (r r' : R2) (ta tb tc : TE) : TE := fun σ H Q => ta σ H fun x H1 => tb σ H1 fun y H2 => r x y H2 fun z H3 => ∃ k, z = .bl k ∧
  (if k = true then tc σ H3 fun w' H4 => r' y w' H4 Q else Q (.bl false) H3)
theorem pe_chain {op op' : CmpOp} {r r' : R2} (ho : OpR X (compareOp op) r) (ho' : OpR X (compareOp op') r') (ha : PE X a ta) (hb : PE X b tb) (hc : PE X c tc)
    (hm : lastMarks [op, op'] [b, c] = false := by with_unfolding_all rfl) : PE X (.Compare a [op, op'] [b, c] pos) (tChain r r' ta tb tc) := by
  intro pins s σ H Q I h
  refine Compare_chain (thn (ha pins s σ H _ I h) fun v s1 ⟨x, H1, I1, r1, q1⟩ => chain_link (thn (hb pins s1 σ H1 _ I1 q1) fun u s2 ⟨y, H2, I2, r2, q2⟩ =>
    thn (ho pins s2 σ H2 x y v u _ I2 r1 r2 q2) fun d s3 ⟨z, H3, I3, r3, k, e, q3⟩ => ?_)) hm
  subst e
  cases r3
  refine wpAny_truthy_bool ?_
  cases k with
  | false => exact ite_ff ⟨.bl false, H3, I3, rfl, q3⟩
  | true => exact ite_tt (chain_last (thn (hc pins s3 σ H3 _ I3 q3) fun w' s4 ⟨z', H4, I4, r4, q4⟩ => ho' pins s4 σ H4 y z' u w' Q I4 r2 r4 q4))
/-! ### truth -/
/-- a value's truth by the abstract heap -/
def TruV (K : PySem.W.Frag) (x : V) (H : Hp) (k : Bool) : Prop :=
  match x with
  | .non => k = false
  | .bl b => k = b
  | .int i => k = (i != 0)
  | .str y => y.length ≤ sizeLine ∧ k = ((y.length : Int) != 0)
  | .byt y => y.size ≤ sizeLine ∧ k = ((y.size : Int) != 0)
  | .ref p => (∃ xs, SqL K H p xs ∧ k = !xs.isEmpty) ∨ (∃ xs, SqT K H p xs ∧ k = !xs.isEmpty) ∨ ∃ kvs, H p = some (.dK kvs) ∧ k = !kvs.isEmpty
  | _ => False
theorem line63 : (sizeLine : Nat) < 2 ^ 63 := by rw [sizeLine_eq]; decide
/-! ### strs and bytes -/
theorem op_add_str : OpR X (binaryOp .Add) (fun x y H Q => ∃ i j, x = .str i ∧ y = .str j ∧ i.length + j.length ≤ sizeLine ∧ Q (.str (i ++ j)) H) := by
  intro pins s σ H x y v u Q I rx ry h
  obtain ⟨i, j, rfl, rfl, hz, q⟩ := h
  obtain ⟨t, rfl⟩ := rx
  obtain ⟨t', rfl⟩ := ry
  exact add_str (fun t' tk => ⟨.str (i ++ j), H, I.tok _, ⟨_, rfl⟩, q⟩) hz
def PlainIxT (b : Expr) : Prop := ∀ o i, subscripted b false o i = operate [o, i] (getItem o i)
/-! ### scalar builtins, by CallR -/
theorem vals1 {x : V} {us : List Value} (r : Vals [x] us) : ∃ u, us = [u] ∧ RelV x u := by
  cases r with
  | cons r1 r2 => cases r2; exact ⟨_, rfl, r1⟩
theorem vals2 {x y : V} {us : List Value} (r : Vals [x, y] us) : ∃ u w', us = [u, w'] ∧ RelV x u ∧ RelV y w' := by
  cases r with
  | cons r1 r2 =>
    cases r2 with
    | cons r3 r4 => cases r4; exact ⟨_, _, rfl, r1, r3⟩
theorem call_max2 (hc : X.calm = true) : CallR X (.builtin "max") (fun xs H Q => ∃ i j, xs = [.int i, .int j] ∧ Q (.int (if j > i then j else i)) H) := by
  intro pins s σ H xs us Q I r h
  obtain ⟨i, j, rfl, q⟩ := h
  obtain ⟨u, w', rfl, ⟨t, rfl⟩, ⟨t', rfl⟩⟩ := vals2 r
  refine max_two_ints (I.ok.hd hc) fun h' tk k => ⟨_, H, I.kept k, ?_, q⟩
  by_cases hj : j > i
  · rw [if_pos hj, if_pos hj]; exact ⟨_, rfl⟩
  · rw [if_neg hj, if_neg hj]; exact ⟨_, rfl⟩
theorem call_min2 (hc : X.calm = true) : CallR X (.builtin "min") (fun xs H Q => ∃ i j, xs = [.int i, .int j] ∧ Q (.int (if j < i then j else i)) H) := by
  intro pins s σ H xs us Q I r h
  obtain ⟨i, j, rfl, q⟩ := h
  obtain ⟨u, w', rfl, ⟨t, rfl⟩, ⟨t', rfl⟩⟩ := vals2 r
  refine min_two_ints (I.ok.hd hc) fun h' tk k => ⟨_, H, I.kept k, ?_, q⟩
  by_cases hj : j < i
  · rw [if_pos hj, if_pos hj]; exact ⟨_, rfl⟩
  · rw [if_neg hj, if_neg hj]; exact ⟨_, rfl⟩
theorem call_str_int : CallR X (.type "str") (fun xs H Q => ∃ i, xs = [.int i] ∧ i.natAbs.log2 < 1920 ∧ Q (.str (toString i)) H) := by
  intro pins s σ H xs us Q I r h
  obtain ⟨i, rfl, hz, q⟩ := h
  obtain ⟨u, rfl, t, rfl⟩ := vals1 r
  exact PySem.P.str_of_int hz ⟨.str _, H, I.tok _, ⟨_, rfl⟩, q⟩
theorem call_ord : CallR X (.builtin "ord") (fun xs H Q => ∃ x, xs = [.str x] ∧ x.length = 1 ∧ Q (.int (x.cps.getD 0 0 : Nat)) H) := by
  intro pins s σ H xs us Q I r h
  obtain ⟨x, rfl, hz, q⟩ := h
  obtain ⟨u, rfl, t, rfl⟩ := vals1 r
  exact ord_of_one hz ⟨.int _, H, I.tok _, ⟨_, rfl⟩, q⟩
/-- len of a str, a bytes, a list, a tuple -/
def LenV (K : PySem.W.Frag) (x : V) (H : Hp) (n : Nat) : Prop :=
  match x with
  | .str y => y.length ≤ sizeLine ∧ n = y.length
  | .byt y => y.size ≤ sizeLine ∧ n = y.size
  | .ref p => (∃ xs, SqL K H p xs ∧ n = xs.length) ∨ ∃ xs, SqT K H p xs ∧ n = xs.length
  | _ => False
end
end L2

namespace L2
open PySem PySem.Spec PyProof.Rows

/-! ### an instance, its attributes a map -/
structure ObjM (h : Heap) (x dx C : Addr) (mA : Str → Option Value) : Prop where
  obj : h.get? x = some (PySem.W.instObj C dx)
  ns : h.Ns1 dx mA
  ne : dx ≠ x

theorem lookIn_ns {h : Heap} {dx : Addr} {mA : Str → Option Value} (n : h.Ns1 dx mA) : ∃ od, h.get? dx = some od ∧ ∀ name, PySem.W.lookIn name od = some (mA name) := by
  obtain ⟨o, es, ep, ho, hd, hk, _, hm⟩ := n
  refine ⟨o, ho, fun name => ?_⟩
  have e := hm name
  unfold nsFind findBy at e
  rw [← Array.find?_toList] at e
  unfold PySem.W.lookIn
  rw [hd]
  dsimp only
  split
  · rename_i y q
    rw [q] at e
    exact congrArg some e
  · rename_i q
    rw [q] at e
    have a : es.toList.any (·.refKey) = false := by
      rw [List.any_eq_false]
      intro y hy
      obtain ⟨z, t, hkey⟩ := hk y (Array.mem_toList_iff.mp hy)
      simp [DictEntry.refKey, hkey]
    have a' : ¬ es.toList.any (·.refKey) = true := by rw [a]; exact Bool.false_ne_true
    rw [if_neg a']
    exact congrArg some e

theorem ObjM.look {h : Heap} {x dx C : Addr} {mA : Str → Option Value} (I : ObjM h x dx C mA) : ∃ od, PySem.W.InstAt h x (PySem.W.instObj C dx) C (some od) ∧ ∀ name, PySem.W.lookIn name od = some (mA name) :=
  let ⟨od, ho, hl⟩ := lookIn_ns I.ns
  ⟨od, ⟨I.obj, rfl, rfl, ho⟩, hl⟩

section
variable {prog : Program} {w : World} {A : Around} {E : Value → Shared → Prop} {s : Shared} {K : PySem.W.Frag} {x dx C f : Addr} {mA : Str → Option Value} {name : Str} {v : Value}

theorem get_map {expr : Bool} {Q : Value → Shared → Prop} (X : K.In s.heap) (I : ObjM s.heap x dx C mA) (hg : PySem.W.plainGet K C name = true) (hh : PySem.W.hasDictIn K C = true)
    (ha : PySem.W.findIn K (.ref C) name = some none) (hv : mA name = some v) (hv' : PySem.W.handedIn v = true) (h : Q v { s with toks := s.toks + 1 }) :
    wpAny (model prog w) A (getAttr (.ref x) name expr) Q E s := by
  obtain ⟨od, J, hl⟩ := I.look
  exact PySem.W.get_value X J (PySem.W.plainGet_of hg).1 (PySem.W.findObj_own hh ha rfl (by rw [hl, hv])) hv' h

theorem get_meth {pl : Sem Bool} {Q : Value × List Value → Shared → Prop} (X : K.In s.heap) (I : ObjM s.heap x dx C mA) (hg : PySem.W.plainGet K C name = true)
    (hf : PySem.W.findIn K (.ref C) name = some (some (.ref f))) (ht : PySem.W.isFn K (.ref f) = true) (hv : mA name = none) (h : Q (.ref f, [.ref x]) s) :
    wpAny (model prog w) A (getMethod (.ref x) name pl) Q E s := by
  obtain ⟨od, J, hl⟩ := I.look
  exact PySem.W.method_fn X J (PySem.W.plainGet_of hg).1 (PySem.W.plainGet_of hg).2 hf (beq_iff_eq.mp ht) (by show (PySem.W.lookIn name od).map (·.isSome) = some false; rw [hl, hv]; rfl) h

theorem set_map {ns : List Str} {Q : Unit → Shared → Prop} (X : K.In s.heap) (I : ObjM s.heap x dx C mA)
    (hs : PySem.W.findIn K (.ref C) "__setattr__" = some (some (.builtin "object.__setattr__"))) (hp : PySem.W.plainOver K C = true) (ht : PySem.W.takerIn K C name = some none) (hh : PySem.W.hasDictIn K C = true)
    (hw : PySem.Within mA ns) (hsz : ns.length ≤ sizeLine)
    (h : ∀ h', ObjM h' x dx C (fun y => if y = name then some v else mA y) → Heap.SameBut dx s.heap h' → Q () { s with heap := h', toks := s.toks + 2 }) :
    wpAny (model prog w) A (setAttr (.ref x) name v) Q E s := by
  obtain ⟨od, J, hl⟩ := I.look
  refine PySem.W.set_plain X J hs (PySem.W.osa_open (s := { s with toks := s.toks + 1 }) (r := none) X J hp ht fun b => ?_)
  obtain ⟨cd, hc, hd'⟩ := PySem.W.any_some hh
  have hx : s.heap.get? x = some ⟨.ref C, some dx, .plain, #[]⟩ := I.obj
  refine wpAny_bind (wpAny_pure (wpAny_bind (wpAny_bind (wpAny_loadPart hx (wpAny_bind (PySem.W.Looks.here (s := { s with toks := s.toks + 1 }) (PySem.W.looks_clsIn X hc) ?_))))))
  rw [hd']
  refine wpAny_pure (a := some dx) (wpAny_bind (wpAny_pure (wpAny_bind ?_)))
  refine wpAny_nsSet1 (s := { s with toks := s.toks + 1 }) I.ns fun h' hn2 hs2 => ?_
  obtain ⟨oD, esD, epD, hoD, hdD, hcD⟩ := hn2.count (PySem.Within.cons name v hw)
  refine wpAny_bind (wpAny_lookBehind hoD (by rw [hdD]; exact pastItsLine_dict (Nat.le_trans hcD (by rw [List.length_cons]; omega))) ?_)
  exact wpAny_pure (h _ ⟨(hs2.2 _ (Ne.symm I.ne)).trans I.obj, hn2, I.ne⟩ hs2)

/-- C(..): the dict at the heap's end, the instance behind it; then its __init__ -/
theorem make_map {R : Result → Shared → Prop} {vs : List Value} {kw : List (Str × Value)} (X : K.In s.heap) (hm : PySem.W.makesIn K C = true)
    (hi : PySem.W.findIn K (.ref C) "__init__" = some (some (.ref f))) (hf : PySem.W.typeIn K (.ref f) = some (.type "function"))
    (h : codeAny (model prog w) (A.under (.builtin "type.__call__" ⟨.ref C :: vs, kw⟩)) (.call (.ref f) ⟨.ref (s.heap.objs.size + 1) :: vs, kw⟩) (PySem.W.InitBack (s.heap.objs.size + 1) R)
      { s with heap := (s.heap.push PySem.W.emptyDict).push (PySem.W.instObj C s.heap.objs.size) }) :
    codeAny (model prog w) A (.call (.ref C) ⟨vs, kw⟩) R s := by
  obtain ⟨hh, g, d, t, os⟩ := s
  exact PySem.W.make_core (PySem.W.makes_of X hm) (PySem.W.looks_findIn X hi) (fun self => PySem.W.bind_fn X self hf) (.inl rfl) h
end

/-! ### the attributes as a list of pairs -/
def putF (f : Str) (v : V) : List (Str × V) → List (Str × V)
  | [] => [(f, v)]
  | (g, x) :: r => if g = f then (g, v) :: r else (g, x) :: putF f v r
theorem lookup_putF (f g : Str) (v : V) : ∀ fs : List (Str × V), (putF f v fs).lookup g = if g = f then some v else fs.lookup g
  | [] => by
    show List.lookup g [(f, v)] = _
    by_cases h : g = f
    · have hb : (g == f) = true := beq_iff_eq.mpr h
      simp only [List.lookup, hb, if_pos h]
    · have hb : (g == f) = false := beq_eq_false_iff_ne.mpr h
      simp only [List.lookup, hb, if_neg h]
  | (k, x) :: r => by
    have ih := lookup_putF f g v r
    rw [show putF f v ((k, x) :: r) = (if k = f then (k, v) :: r else (k, x) :: putF f v r) from rfl]
    by_cases hk : k = f
    · rw [if_pos hk]
      by_cases h : g = k
      · have hb : (g == k) = true := beq_iff_eq.mpr h
        simp only [List.lookup, hb, if_pos (h.trans hk)]
      · have hb : (g == k) = false := beq_eq_false_iff_ne.mpr h
        simp only [List.lookup, hb, if_neg (fun e : g = f => h (e.trans hk.symm))]
    · rw [if_neg hk]
      by_cases h : g = k
      · have hb : (g == k) = true := beq_iff_eq.mpr h
        simp only [List.lookup, hb, if_neg (fun e : g = f => hk (h.symm.trans e))]
      · have hb : (g == k) = false := beq_eq_false_iff_ne.mpr h
        simp only [List.lookup, hb]
        exact ih
theorem keys_putF (f : Str) (v : V) : ∀ fs : List (Str × V), f ∈ (putF f v fs).map (·.1) ∧ ∀ g, g ∈ fs.map (·.1) → g ∈ (putF f v fs).map (·.1)
  | [] => ⟨by simp [putF], fun g h => by simp at h⟩
  | (k, x) :: r => by
    obtain ⟨i1, i2⟩ := keys_putF f v r
    rw [show putF f v ((k, x) :: r) = (if k = f then (k, v) :: r else (k, x) :: putF f v r) from rfl]
    by_cases hk : k = f
    · rw [if_pos hk]
      subst hk
      exact ⟨by simp, fun g h => by simpa using h⟩
    · rw [if_neg hk]
      refine ⟨?_, fun g h => ?_⟩
      · rw [List.map_cons]
        exact List.mem_cons_of_mem _ i1
      · rw [List.map_cons] at h ⊢
        rcases List.mem_cons.mp h with e | e
        · exact List.mem_cons.mpr (.inl e)
        · exact List.mem_cons_of_mem _ (i2 g e)
theorem length_putF (f : Str) (v : V) : ∀ fs : List (Str × V), (putF f v fs).length ≤ fs.length + 1
  | [] => by simp [putF]
  | (k, x) :: r => by
    have ih := length_putF f v r
    rw [show putF f v ((k, x) :: r) = (if k = f then (k, v) :: r else (k, x) :: putF f v r) from rfl]
    by_cases hk : k = f
    · rw [if_pos hk, List.length_cons, List.length_cons]; omega
    · rw [if_neg hk, List.length_cons, List.length_cons]; omega

theorem RelO.some_of {v : V} {o : Option Value} (r : RelO (some v) o) : ∃ u, o = some u ∧ RelV v u := by
  cases o with
  | none => exact (show False from r).elim
  | some u => exact ⟨u, rfl, r⟩
theorem RelO.none_of {o : Option Value} (r : RelO none o) : o = none := by
  cases o with
  | none => rfl
  | some u => exact (show False from r).elim
theorem handed_of {v : V} {u : Value} (r : RelV v u) : PySem.W.handedIn u = true := by
  cases v with
  | non => cases (show u = Value.none from r); rfl
  | bl b => cases (show u = Value.bool b from r); rfl
  | int i => obtain ⟨t, e⟩ := (show ∃ t, u = Value.int i t from r); cases e; rfl
  | str x => obtain ⟨t, e⟩ := (show ∃ t, u = Value.str x t from r); cases e; rfl
  | byt b => obtain ⟨t, e⟩ := (show ∃ t, u = Value.bytes b t from r); cases e; rfl
  | flt b => obtain ⟨t, e⟩ := (show ∃ t, u = Value.float b t from r); cases e; rfl
  | ref a => cases (show u = Value.ref a from r); rfl
  | ty n => cases (show u = Value.type n from r); rfl

section
variable {P : Program} {w : World} {H H' : Hp} {h h' : Heap} {a C dx : Addr} {fs fs' : List (Str × V)}
theorem ins_get (hok : HOk P w H h) (e : H a = some (.ins C dx fs)) : ∃ mA, ObjM h a dx C mA ∧ (∀ f, RelO (fs.lookup f) (mA f)) ∧ PySem.Within mA (fs.map (·.1)) ∧ fs.length ≤ 1000 ∧ H dx = some (.own a) := by
  obtain ⟨d, z, ne, ob, mA, n, r, q⟩ := (show ObjOk P w H h a (.ins C dx fs) from hok a _ e)
  exact ⟨mA, ⟨ob, n, ne⟩, r, q, z, d⟩
end

/-! ### what of the text a class must have -/
structure Cls (K : PySem.W.Frag) (C : Addr) : Prop where
  pg : PySem.W.plainGet K C Str.empty = true
  hd : PySem.W.hasDictIn K C = true
  po : PySem.W.plainOver K C = true
  sa : PySem.W.findIn K (.ref C) "__setattr__" = some (some (.builtin "object.__setattr__"))
theorem Cls.get {K : PySem.W.Frag} {C : Addr} (c : Cls K C) (f : Str) : PySem.W.plainGet K C f = true := c.pg
/-- no class of it has the name -/
def NoAttr (K : PySem.W.Frag) (C : Addr) (f : Str) : Prop := PySem.W.findIn K (.ref C) f = some none
theorem NoAttr.taker {K : PySem.W.Frag} {C : Addr} {f : Str} (n : NoAttr K C f) : PySem.W.takerIn K C f = some none := by
  unfold PySem.W.takerIn
  rw [show PySem.W.findIn K (.ref C) f = some none from n]
  rfl
/-- a constant of the class -/
structure Con (K : PySem.W.Frag) (C : Addr) (f : Str) (v : V) (u : Value) : Prop where
  at_ : PySem.W.findIn K (.ref C) f = some (some u)
  rel : RelV v u
  get : PySem.W.specialIn K u "__get__" = some none
  cp : PySem.W.copiedNames.contains f = false
/-- a method: a plain def of the class or of one above it -/
structure Meth (K : PySem.W.Frag) (C : Addr) (m : Str) (f : Addr) : Prop where
  at_ : PySem.W.findIn K (.ref C) m = some (some (.ref f))
  fn : PySem.W.isFn K (.ref f) = true
  kp : PySem.W.keepIn K (.ref f) = true

section
variable {X : Cx} {pins : List (Addr × Obj)} {σ : St} {H : Hp} {s : Shared} {a C dx : Addr} {fs : List (Str × V)} {f : Str} {v : V} {A : Around} {E : Value → Shared → Prop}

theorem getattr_ok {b : Bool} {Q : Value → Shared → Prop} (I : Inv X pins σ H s) (e : H a = some (.ins C dx fs)) (c : Cls X.K C) (n : NoAttr X.K C f) (l : fs.lookup f = some v)
    (h : ∀ u s', Inv X pins σ H s' → RelV v u → Q u s') : wpAny (model X.prog X.w) A (getAttr (.ref a) f b) Q E s := by
  obtain ⟨mA, O, r, _, _, _⟩ := ins_get I.hok e
  obtain ⟨u, hu, ru⟩ := RelO.some_of (v := v) (o := mA f) (by rw [← l]; exact r f)
  exact get_map I.kIn O (c.get f) c.hd n hu (handed_of ru) (h u _ (I.tok _) ru)

theorem getmeth_ok {m : Str} {g : Addr} {pl : Sem Bool} {Q : Value × List Value → Shared → Prop} (I : Inv X pins σ H s) (e : H a = some (.ins C dx fs)) (c : Cls X.K C) (k : Meth X.K C m g) (l : fs.lookup m = none)
    (h : Q (.ref g, [.ref a]) s) : wpAny (model X.prog X.w) A (getMethod (.ref a) m pl) Q E s := by
  obtain ⟨mA, O, r, _, _, _⟩ := ins_get I.hok e
  have hn : mA m = none := RelO.none_of (by rw [← l]; exact r m)
  exact get_meth I.kIn O (c.get m) k.at_ k.fn hn h

theorem setattr_ok {y : V} {u : Value} {Q : Unit → Shared → Prop} (I : Inv X pins σ H s) (e : H a = some (.ins C dx fs)) (c : Cls X.K C) (n : NoAttr X.K C f) (hl : fs.length < 1000) (ry : RelV y u)
    (h : ∀ s', Inv X pins σ (upd H a (.ins C dx (putF f y fs))) s' → Q () s') : wpAny (model X.prog X.w) A (setAttr (.ref a) f u) Q E s := by
  obtain ⟨mA, O, r, wi, _, ho⟩ := ins_get I.hok e
  have hz : (fs.map (·.1)).length ≤ sizeLine := by rw [List.length_map, sizeLine_eq]; omega
  refine set_map I.kIn O c.sa c.po n.taker c.hd wi hz fun h' O' sb => h _ ?_
  have hd : ∃ o, h'.get? dx = some o := let ⟨o, _, _, e', _⟩ := O'.ns; ⟨o, e'⟩
  refine I.write (x := a) (e := dx) (by rw [e]; exact True.intro) (.inr ho) (fun b q hb z => (sb.2 b hb).trans z) hd ?_
  refine ⟨by rw [upd_ne O.ne]; exact ho, ?_, O.ne, O'.obj, _, O'.ns, fun g => ?_, fun g hg => ?_⟩
  · have := length_putF f y fs; omega
  · show RelO ((putF f y fs).lookup g) (if g = f then some u else mA g)
    rw [lookup_putF]
    by_cases q : g = f
    · rw [if_pos q, if_pos q]; exact ry
    · rw [if_neg q, if_neg q]; exact r g
  · by_cases q : g = f
    · rw [q]; exact (keys_putF f y fs).1
    · refine (keys_putF f y fs).2 g (wi g fun z => hg ?_)
      show (if g = f then some u else mA g) = none
      rw [if_neg q]; exact z

/-- a new instance, tracked, without attributes -/
theorem Inv.made (I : Inv X pins σ H s) : Inv X pins σ (upd (upd H s.heap.objs.size (.own (s.heap.objs.size + 1))) (s.heap.objs.size + 1) (.ins C s.heap.objs.size []))
    { s with heap := (s.heap.push PySem.W.emptyDict).push (PySem.W.instObj C s.heap.objs.size) } := by
  have e1 : (s.heap.push PySem.W.emptyDict).get? s.heap.objs.size = some PySem.W.emptyDict := Heap.get?_push_size s.heap rfl
  have e2 : ((s.heap.push PySem.W.emptyDict).push (PySem.W.instObj C s.heap.objs.size)).get? (s.heap.objs.size + 1) = some (PySem.W.instObj C s.heap.objs.size) := by
    have := Heap.get?_push_size (s.heap.push PySem.W.emptyDict) (o := PySem.W.instObj C s.heap.objs.size) rfl
    rwa [Heap.size_push] at this
  have e3 : (s.heap.push PySem.W.emptyDict).Ns s.heap.objs.size (fun _ => none) := ⟨PySem.W.emptyDict, #[], _, e1, rfl, (fun e he => absurd he (by simp)), fun _ => rfl⟩
  have I1 := I.laid (a := s.heap.objs.size) (o := .own (s.heap.objs.size + 1)) (h' := s.heap.push PySem.W.emptyDict) (t' := s.toks) (fun b u q => Heap.get?_push_of_some _ q) (Nat.le_refl _) ⟨_, e1⟩
  refine I1.laid (a := s.heap.objs.size + 1) (o := .ins C s.heap.objs.size []) (t' := s.toks) (fun b u q => Heap.get?_push_of_some _ q) (Nat.le_of_eq (Heap.size_push _ _)) ?_
  have ne : s.heap.objs.size ≠ s.heap.objs.size + 1 := Nat.ne_of_lt (Nat.lt_succ_self _)
  refine ⟨by rw [upd_ne ne, upd_same], Nat.zero_le _, ne, e2, fun _ => none, (Heap.Ns1.of_empty e3).at fun o q => Heap.get?_push_of_some _ q, fun _ => True.intro, fun y hy => absurd rfl hy⟩

/-- e.f where nothing but the object is asked: through attributeBase (super) and the last hold -/
theorem attr_of {prog : Program} {w : World} {env : Env} {e : Expr} {f : Str} {pos : Pos} {s : Shared} {Q : Value → Shared → Prop} (hb : attributeBase e f env (eval e env) = eval e env)
    (h : wpAny (model prog w) A (eval e env) (fun o s₁ => wpAny (model prog w) A (getAttr o f true) Q E s₁) E s) : wpAny (model prog w) A (eval (.Attribute e f pos) env) Q E s :=
  Attribute_any_ h (by rw [arm_eval_Attribute, hb])
end

/-! ### readings and rules -/
/-- e.f, an attribute of the instance -/
def tFld (K : PySem.W.Frag) (ta : TE) (f : Str) : TE := fun σ H Q => ta σ H fun x H1 => ∃ a C dx fs v, x = .ref a ∧ H1 a = some (.ins C dx fs) ∧ Cls K C ∧ NoAttr K C f ∧ fs.lookup f = some v ∧ Q v H1
/-- e.f, a constant of the class -/
def tCon (K : PySem.W.Frag) (ta : TE) (f : Str) : TE := fun σ H Q => ta σ H fun x H1 => ∃ a C dx fs v u, x = .ref a ∧ H1 a = some (.ins C dx fs) ∧ Cls K C ∧ Con K C f v u ∧ fs.lookup f = none ∧ Q v H1
/-- e.f = value -/
def sFld (K : PySem.W.Frag) (ta tv : TE) (f : Str) : TS := fun D σ H => tv σ H fun y H1 => ta σ H1 fun x H2 => ∃ a C dx fs, x = .ref a ∧ H2 a = some (.ins C dx fs) ∧ Cls K C ∧ NoAttr K C f ∧ fs.length < 1000 ∧
  D.nx σ (upd H2 a (.ins C dx (putF f y fs)))
/-- an augmented operator on two values -/
def InOp (X : Cx) (op : Operator) (rd : V → V → Hp → VK → Prop) : Prop :=
  ∀ (pins : List (Addr × Obj)) (s : Shared) (σ : St) (H : Hp) (x y : V) (u v : Value) (Q : VK), Inv X pins σ H s → RelV x u → RelV y v → rd x y H Q → wpAny (model X.prog X.w) X.A (inplaceOp op u v) (EP X pins σ Q) X.xe s
/-- e.f op= value -/
def sFldAug (K : PySem.W.Frag) (ta tv : TE) (rd : V → V → Hp → VK → Prop) (f : Str) : TS := fun D σ H => ta σ H fun x H1 => ∃ a C dx fs v, x = .ref a ∧ H1 a = some (.ins C dx fs) ∧ Cls K C ∧ NoAttr K C f ∧ fs.lookup f = some v ∧
  tv σ H1 fun y H2 => rd v y H2 fun z H3 => ∃ dx' fs', H3 a = some (.ins C dx' fs') ∧ fs'.length < 1000 ∧ D.nx σ (upd H3 a (.ins C dx' (putF f z fs')))

section
variable {X : Cx} {o e value : Expr} {f : Str} {pos pos' tpos : Pos} {ta tv : TE}
theorem pe_fld (he : PE X e ta) (hb : attributeBase e f X.env (eval e X.env) = eval e X.env) : PE X (.Attribute e f pos) (tFld X.K ta f) := by
  intro pins s σ H Q I h
  refine attr_of hb (thn (he pins s σ H _ I h) fun u s1 ⟨x, H1, I1, rx, a, C, dx, fs, v, ex, ea, c, n, l, q⟩ => ?_)
  subst ex
  obtain rfl : u = Value.ref a := rx
  exact getattr_ok I1 ea c n l fun u' s2 I2 ru => ⟨v, H1, I2, ru, q⟩
theorem ps_fld (ha : PE X o ta) (hv : PE X value tv) (hs : swapsWith value (some (.Attribute o f pos')) pos.line X.env = pure false) : PS X (.Assign [.Attribute o f pos'] value pos) (sFld X.K ta tv f) := by
  intro pins s σ H D I h
  refine plainObj_wpAny_Assign_Attribute (thn (hv pins s σ H _ I h) fun u s1 ⟨y, H1, I1, ry, q⟩ => thn (ha pins s1 σ H1 _ I1 q) fun ov s2 ⟨x, H2, I2, rx, a, C, dx, fs, ex, ea, c, n, l, q2⟩ => ?_) hs
  subst ex
  obtain rfl : ov = Value.ref a := rx
  exact setattr_ok I2 ea c n l ry fun s3 I3 => ⟨σ, _, I3, q2⟩
theorem ps_fldaug {op : Operator} {rd : V → V → Hp → VK → Prop} (ha : PE X o ta) (hv : PE X value tv) (hop : InOp X op rd) : PS X (.AugAssign (.Attribute o f tpos) op value pos) (sFldAug X.K ta tv rd f) := by
  intro pins s σ H D I h
  refine wpAny_AugAssign_AttributeAny (thn (ha pins s σ H _ I h) fun ov s1 ⟨x, H1, I1, rx, a, C, dx, fs, v, ex, ea, c, n, l, q⟩ => ?_)
  subst ex
  obtain rfl : ov = Value.ref a := rx
  refine getattr_ok I1 ea c n l fun u s2 I2 ru => thn (hv pins s2 σ H1 _ I2 q) fun w3 s3 ⟨y, H2, I3, ry, q3⟩ => thn (hop pins s3 σ H2 v y u w3 _ I3 ru ry q3) fun w4 s4 ⟨z, H3, I4, rz, dx', fs', ea', l', q4⟩ => ?_
  exact setattr_ok I4 ea' c n l' rz fun s5 I5 => ⟨σ, _, I5, q4⟩
def rAdd : V → V → Hp → VK → Prop := fun x y H Q => ∃ i j, x = .int i ∧ y = .int j ∧ Q (.int (i + j)) H
def rSub : V → V → Hp → VK → Prop := fun x y H Q => ∃ i j, x = .int i ∧ y = .int j ∧ Q (.int (i - j)) H
theorem in_add : InOp X .Add rAdd := by
  rintro pins s σ H x y u v Q I rx ry ⟨i, j, rfl, rfl, q⟩
  obtain ⟨t, rfl⟩ := (show ∃ t, u = Value.int i t from rx)
  obtain ⟨t', rfl⟩ := (show ∃ t', v = Value.int j t' from ry)
  exact PyProof.Rows.iadd_int ⟨.int (i + j), H, I.tok _, ⟨_, rfl⟩, q⟩
end

/-! ### isinstance -/
section
variable {X : Cx} {pins : List (Addr × Obj)} {σ : St} {H : Hp} {s : Shared} {A : Around} {E : Value → Shared → Prop} {Q : Value → Shared → Prop} {c : Value} {b : Bool}
/-- the type of a value, as the fragment's deciders take it; for an instance its class -/
inductive TyOf (K : PySem.W.Frag) (H : Hp) : V → Value → Prop where
  | non : TyOf K H .non (.type "NoneType")
  | bl (x : Bool) : TyOf K H (.bl x) (.type "bool")
  | int (i : Int) : TyOf K H (.int i) (.type "int")
  | str (x : Str) : TyOf K H (.str x) (.type "str")
  | flt (x : UInt64) : TyOf K H (.flt x) (.type "float")
  | lst {a : Addr} {xs : List V} (e : H a = some (.lst xs)) : TyOf K H (.ref a) (.type "list")
  | frz {a : Addr} {o : Obj} {xs : List V} (e : H a = some (.frz o (.lst xs))) : TyOf K H (.ref a) (.type "list")
  | tup {a : Addr} {xs : List V} (e : H a = some (.tup xs)) : TyOf K H (.ref a) (.type "tuple")
  | dK {a : Addr} {kvs : List (Key × V)} (e : H a = some (.dK kvs)) : TyOf K H (.ref a) (.type "dict")
  | dT {a : Addr} {kvs : List (List Key × V)} (e : H a = some (.dT kvs)) : TyOf K H (.ref a) (.type "dict")
  | ins {a C dx : Addr} {fs : List (Str × V)} (e : H a = some (.ins C dx fs)) (cl : Cls K C) (ha : PySem.W.findIn K (.ref C) "__class__" = some (some (.builtin "object.__class__")))
      (hn : PySem.W.specialIn K (.builtin "object.__class__") "__get__" = some (some (.builtin "getset_descriptor.__get__"))) (htk : PySem.W.takesIn K (.builtin "object.__class__") = some true)
      (hm : PySem.W.mroIn K C (.type "object") = some true) : TyOf K H (.ref a) (.ref C)
/-- isinstance(x, c) for one class c, a built-in or an own one: kitOne's answer -/
theorem isinst_ok {x : V} {u t : Value} (I : Inv X pins σ H s) (rx : RelV x u) (ty : TyOf X.K H x t) (e : PySem.W.kitOne X.K t c = some b) (h : ∀ tk, Q (.bool b) { s with toks := tk }) :
    wpAny (model X.prog X.w) A (call (.builtin "isinstance") [u, c]) Q E s := by
  cases ty with
  | non => cases (show u = Value.none from rx); exact PySem.W.kia_one PySem.W.kitx_none I.kIn True.intro e (fun z => nomatch z) h
  | bl y => cases (show u = Value.bool y from rx); exact PySem.W.kia_one PySem.W.kitx_bool I.kIn True.intro e (fun z => nomatch z) h
  | int i => obtain ⟨t, q⟩ := (show ∃ t, u = Value.int i t from rx); cases q; exact PySem.W.kia_one PySem.W.kitx_int I.kIn True.intro e (fun z => nomatch z) h
  | str y => obtain ⟨t, q⟩ := (show ∃ t, u = Value.str y t from rx); cases q; exact PySem.W.kia_one PySem.W.kitx_str I.kIn True.intro e (fun z => nomatch z) h
  | flt y => obtain ⟨t, q⟩ := (show ∃ t, u = Value.float y t from rx); cases q; exact PySem.W.kia_one PySem.W.kitx_float I.kIn True.intro e (fun z => nomatch z) h
  | @lst a xs ea =>
    cases (show u = Value.ref a from rx)
    obtain ⟨_, _, n, _, h1⟩ := (show ObjOk X.prog X.w H s.heap a (.lst xs) from I.hok a _ ea)
    exact PySem.W.kia_one PySem.W.kitx_list I.kIn ⟨_, h1, rfl⟩ e (fun z => nomatch z) h
  | @frz a ob xs ea =>
    cases (show u = Value.ref a from rx)
    obtain ⟨_, _, _, n, _, h1⟩ := (show ObjOk X.prog X.w H s.heap a (.frz ob (.lst xs)) from I.hok a _ ea)
    exact PySem.W.kia_one PySem.W.kitx_list I.kIn ⟨_, h1, rfl⟩ e (fun z => nomatch z) h
  | @tup a xs ea =>
    cases (show u = Value.ref a from rx)
    obtain ⟨_, _, _, p⟩ := (show ObjOk X.prog X.w H s.heap a (.tup xs) from I.hok a _ ea)
    obtain ⟨o, h1, h2, _⟩ := p
    exact PySem.W.kia_one PySem.W.kitx_tuple I.kIn ⟨o, h1, h2⟩ e (fun z => nomatch z) h
  | @dK a kvs ea =>
    cases (show u = Value.ref a from rx)
    obtain ⟨_, _, vs, _, p⟩ := (show ObjOk X.prog X.w H s.heap a (.dK kvs) from I.hok a _ ea)
    obtain ⟨o, es, ep, h1, h2, _⟩ := p
    exact PySem.W.kia_one PySem.W.kitx_dict I.kIn ⟨o, h1, h2.1⟩ e (fun z => nomatch z) h
  | @dT a kvs ea =>
    cases (show u = Value.ref a from rx)
    obtain ⟨_, _, xs, _, o, es, ep, h1, h2, _⟩ := (show ObjOk X.prog X.w H s.heap a (.dT kvs) from I.hok a _ ea)
    exact PySem.W.kia_one PySem.W.kitx_dict I.kIn ⟨o, h1, h2.1⟩ e (fun z => nomatch z) h
  | @ins a C dx fs ea cl ha hn htk hm =>
    cases (show u = Value.ref a from rx)
    obtain ⟨mA, O, _⟩ := ins_get I.hok ea
    obtain ⟨od, J, _⟩ := O.look
    exact PySem.W.kia_one (PySem.W.kitx_own (cl.get _) cl.hd ha hn htk hm) I.kIn J e (fun z => nomatch z) h
end
end L2

namespace L2
open PySem PySem.Spec PyProof.Rows

/-! ### room -/
structure Room (k : Nat) (A : Around) : Prop where
  hd : A.handled = none
  dp : A.depth + 3 * k + 5 < recursionLimit
  un : A.units + 16 * k + 200 < cLine
theorem Room.mono {j k : Nat} {A : Around} (r : Room k A) (h : j ≤ k) : Room j A := ⟨r.hd, by have := r.dp; omega, by have := r.un; omega⟩
theorem Room.deeper {k : Nat} {A : Around} (r : Room (k + 1) A) (env : Env) : Room k (A.deeper env) :=
  ⟨r.hd, by have := r.dp; show A.depth + 1 + 3 * k + 5 < _; omega, by have := r.un; show A.units + 3 + 16 * k + 200 < _; omega⟩
theorem make_depth {A : Around} {C : Addr} {us : List Value} {kw : List (Str × Value)} : (A.under (.builtin "type.__call__" ⟨.ref C :: us, kw⟩)).depth = A.depth + 1 := by
  first | rfl | simp [Around.under, Code.weight, Code.isCreation, Code.isGuard, Code.isCaller, Code.frames, Code.isFrame, guardIds]
theorem make_units {A : Around} {C : Addr} {us : List Value} {kw : List (Str × Value)} : (A.under (.builtin "type.__call__" ⟨.ref C :: us, kw⟩)).units = A.units + 1 := by
  first | rfl | simp [Around.under, Code.cUnits, Code.frames, Code.isFrame]
theorem Room.make {k : Nat} {A : Around} (r : Room (k + 1) A) (C : Addr) (us : List Value) (kw : List (Str × Value)) : Room k (A.under (.builtin "type.__call__" ⟨.ref C :: us, kw⟩)) :=
  ⟨r.hd, by have := r.dp; rw [make_depth]; omega, by have := r.un; rw [make_units]; omega⟩
theorem Room.depth {k : Nat} {A : Around} (r : Room k A) : A.depth < recursionLimit := by have := r.dp; omega
theorem Room.units {k : Nat} {A : Around} (r : Room k A) : A.units + 64 < cLine := by have := r.un; omega
/-! ### argument lists and displays -/
def tNil : TA := fun _ H Q => Q [] H
def tCons (ta : TE) (tr : TA) : TA := fun σ H Q => ta σ H fun x H1 => tr σ H1 fun xs H2 => Q (x :: xs) H2
section
variable {X : Cx} {e : Expr} {es : List Expr} {te : TE} {t : TA} {pos : Pos}
theorem pa_nil : PA X [] tNil := fun _ _ _ _ H Q I h => Calls.spliced_nil ⟨[], H, I, .nil, h⟩
theorem pa_cons (ha : PE X e te) (hr : PA X es t) (hs : starEach (e :: es) X.env = (false, eval e X.env) :: starEach es X.env := by rfl) : PA X (e :: es) (tCons te t) := by
  intro pos pins s σ H Q I h
  rw [hs]
  show wpAny _ _ (spliced ((false, eval e X.env) :: backTo pos (starEach es X.env))) _ _ s
  refine Calls.spliced_cons (thn (ha pins s σ H _ I h) fun u s1 ⟨x, H1, I1, r1, q1⟩ => ?_)
  exact thn (hr pos pins s1 σ H1 _ I1 q1) fun us s2 ⟨xs, H2, I2, r2, q2⟩ => ⟨x :: xs, H2, I2, .cons r1 r2, q2⟩

/-- a tuple, a list of written items -/
def tTup (t : TA) : TE := fun σ H Q => t σ H fun xs H1 => xs.length ≤ sizeLine ∧ ∀ p, H1 p = none → Q (.ref p) (upd H1 p (.tup xs))
def tLst (t : TA) : TE := fun σ H Q => t σ H fun xs H1 => xs.length ≤ sizeLine ∧ ∀ p, H1 p = none → Q (.ref p) (upd H1 p (.lst xs))
theorem pe_tup {x1} (h : PA X es t) : PE X (.Tuple es x1 pos) (tTup t) := by
  intro pins s σ H Q I hq
  refine wpAny_Tuple_spliced (thn (h pos pins s σ H _ I hq) fun us s1 ⟨xs, H1, I1, r, z, q⟩ => ⟨by rw [← r.length]; exact z, ?_⟩)
  have hf : H1 s1.heap.objs.size = none := I1.hok.fresh (Nat.le_refl _)
  refine ⟨.ref s1.heap.objs.size, upd H1 s1.heap.objs.size (.tup xs), I1.laid (t' := s1.toks) (fun b u e => Heap.get?_push_of_some _ e) (Nat.le_refl _) ?_, rfl, q _ hf⟩
  exact ⟨z, us, r, ⟨_, Heap.get?_push_size _ rfl, rfl, _, rfl⟩⟩
theorem pe_lst (h : PA X es t) : PE X (.List es pos) (tLst t) := by
  intro pins s σ H Q I hq
  refine wpAny_List_spliced (thn (h pos pins s σ H _ I hq) fun us s1 ⟨xs, H1, I1, r, z, q⟩ => ⟨by rw [← r.length]; exact z, ?_⟩)
  have hf : H1 s1.heap.objs.size = none := I1.hok.fresh (Nat.le_refl _)
  refine ⟨.ref s1.heap.objs.size, upd H1 s1.heap.objs.size (.lst xs), I1.laid (t' := s1.toks) (fun b u e => Heap.get?_push_of_some _ e) (Nat.le_refl _) ?_, rfl, q _ hf⟩
  exact ⟨z, us, 0, r, Heap.get?_push_size _ rfl⟩
end

/-! ### what a def promises -/
/-- a def's promise: the bound arguments in the parameters' order, the heap, the wanted end, the wanted exception -/
abbrev Sp := List V → Hp → VK → XK → Prop
/-- how an exception lies behind a call (file 08 gives it): the callers' frames, abstract heap and state ahead of the call, the wish, the exception, the state -/
abbrev CXT := List Env → Hp → Shared → XK → Value → Shared → Prop

/-- the state at a call -/
structure Env0 (P : Program) (w : World) (K : PySem.W.Frag) (mg : Str → Option Value) (base : Heap) (A : Around) (outer : List Env) (s : Shared) (H : Hp) : Prop where
  frames : A.frames = some outer
  mod : Mod K mg base
  bs : ∀ b o, base.get? b = some o → s.heap.get? b = some o ∧ H b = none
  bsz : base.objs.size ≤ s.heap.objs.size
  funs : s.heap.FunFrames base outer
  frf : ∀ b ∈ frs outer, H b = none
  hok : HOk P w H s.heap
  bare : AllBare s.gens
/-- a call's end -/
def CE (outer : List Env) (P : Program) (w : World) (H : Hp) (s : Shared) (Q : VK) (u : Value) (s' : Shared) : Prop :=
  ∃ v H', s'.os = s.os ∧ AllBare s'.gens ∧ Un (frs outer) [] H H' s.heap s'.heap ∧ HOk P w H' s'.heap ∧ RelV v u ∧ Q v H'
def CR (CX : CXT) (outer : List Env) (P : Program) (w : World) (H : Hp) (s : Shared) (Q : VK) (E : XK) (r : Result) (s' : Shared) : Prop :=
  match r with
  | .ok (.ret u) => CE outer P w H s Q u s'
  | .ok _ => False
  | .error e => CX outer H s E e s'
structure FnOk (P : Program) (w : World) (K : PySem.W.Frag) (mg : Str → Option Value) (base : Heap) (CX : CXT) (k : Nat) (f : Addr) (fd : FuncData) (ps : List Str) (sp : Sp) : Prop where
  len : ∀ vs H Q E, sp vs H Q E → vs.length = ps.length
  run : ∀ (A : Around) (outer : List Env) (s : Shared) (H : Hp) (args : Args) (us : List Value) (vs : List V) (Q : VK) (E : XK), Room k A → Env0 P w K mg base A outer s H → BindsTo s fd args (ps.zip us) → Vals vs us → sp vs H Q E →
    codeAny (model P w) A (.call (.ref f) args) (CR CX outer P w H s Q E) s
theorem FnOk.mono {P : Program} {w : World} {K : PySem.W.Frag} {mg : Str → Option Value} {base : Heap} {CX : CXT} {j k : Nat} {f : Addr} {fd : FuncData} {ps : List Str} {sp : Sp} (F : FnOk P w K mg base CX j f fd ps sp) (h : j ≤ k) :
    FnOk P w K mg base CX k f fd ps sp := ⟨F.len, fun A outer s H args us vs Q E hr => F.run A outer s H args us vs Q E (hr.mono h)⟩
/-- a weaker promise -/
theorem FnOk.imp {P : Program} {w : World} {K : PySem.W.Frag} {mg : Str → Option Value} {base : Heap} {CX : CXT} {k : Nat} {f : Addr} {fd : FuncData} {ps : List Str} {sp sp' : Sp} (F : FnOk P w K mg base CX k f fd ps sp)
    (h : ∀ vs H Q E, sp' vs H Q E → sp vs H Q E) : FnOk P w K mg base CX k f fd ps sp' :=
  ⟨fun vs H Q E q => F.len vs H Q E (h _ _ _ _ q), fun A outer s H args us vs Q E hr he hb hv hs => F.run A outer s H args us vs Q E hr he hb hv (h _ _ _ _ hs)⟩

theorem Env0.make {P : Program} {w : World} {K : PySem.W.Frag} {mg : Str → Option Value} {base : Heap} {A : Around} {outer : List Env} {s : Shared} {H : Hp} (e : Env0 P w K mg base A outer s H) (C : Addr) (us : List Value) (kw : List (Str × Value)) :
    Env0 P w K mg base (A.under (.builtin "type.__call__" ⟨.ref C :: us, kw⟩)) outer s H := ⟨by first | exact e.frames | (simpa [Around.under, Code.envs, Code.isFrame, pushEnvs] using e.frames), e.mod, e.bs, e.bsz, e.funs, e.frf, e.hok, e.bare⟩
section
variable {X : Cx} {pins : List (Addr × Obj)} {σ : St} {H : Hp} {s s' : Shared}
/-- from a body: what a callee wants -/
theorem Inv.env0 (I : Inv X pins σ H s) : Env0 X.prog X.w X.K X.mg X.base X.A X.stack s H :=
  ⟨I.ok.frames, I.ok.mod, I.bs, Nat.le_trans I.ok.bsz I.sz, I.stack, I.stkFree, I.hok, I.bare⟩
/-- behind a call -/
theorem Inv.after {Q : VK} {u : Value} (I : Inv X pins σ H s) (h : CE X.stack X.prog X.w H s Q u s') : EP X pins σ Q u s' := by
  obtain ⟨v, H', os, bare, un, hok, r, q⟩ := h
  obtain ⟨hh, g, d, t, os'⟩ := s'
  obtain rfl : os' = s.os := os
  exact ⟨v, H', I.call (h' := hh) (g' := g) (d' := d) (t' := t) (ch := []) un hok bare (fun b z => absurd z (by simp)), r, q⟩
end

/-! ### calls -/
/-- f(..): the written arguments, then the defaults dvs; E: what is wanted of an exception -/
def tCall (sp : Sp) (dvs : List V) (E : XK) (t : TA) : TE := fun σ H Q => t σ H fun vs H1 => sp (vs ++ dvs) H1 Q E
/-- o.m(..) of an instance of the class at C -/
def tMeth (C : Addr) (m : Str) (sp : Sp) (dvs : List V) (E : XK) (ta : TE) (t : TA) : TE := fun σ H Q => ta σ H fun x H1 => ∃ a dx fs, x = .ref a ∧ H1 a = some (.ins C dx fs) ∧ fs.lookup m = none ∧
  t σ H1 fun vs H2 => sp (x :: (vs ++ dvs)) H2 Q E
/-- C(..): a new instance and its dict, then __init__ -/
def tMake (C : Addr) (sp : Sp) (dvs : List V) (E : XK) (t : TA) : TE := fun σ H Q => t σ H fun vs H1 => ∀ x dx, H1 x = none → H1 dx = none → dx ≠ x →
  sp (.ref x :: (vs ++ dvs)) (upd (upd H1 dx (.own x)) x (.ins C dx [])) (fun v H2 => v = .non ∧ Q (.ref x) H2) E

/-- how the parameters are bound: us the positional arguments, kw the keywords' values by name, ds the defaults that fill up -/
def Binds (K : PySem.W.Frag) (fd : FuncData) (ps : List Str) (ds : List Value) : Prop :=
  ∀ (s : Shared) (us : List Value), K.In s.heap → (us ++ ds).length = ps.length → BindsTo s fd ⟨us, []⟩ (ps.zip (us ++ ds))
/-- every parameter is given -/
theorem Binds.all {K : PySem.W.Frag} {fd : FuncData} {ps : List Str} (h : ∀ us : List Value, us.length = ps.length → bindArgs fd ⟨us, []⟩ = pure (ps.zip us)) : Binds K fd ps [] := fun s us _ hl => by
  rw [List.append_nil] at hl ⊢
  exact .of_eq (h us hl)

/-- an exception of a callee reaches what this body wants of exceptions -/
def Passes (CX : CXT) (X : Cx) (E : XK) : Prop := ∀ (pins : List (Addr × Obj)) (σ : St) (H : Hp) (s : Shared) (e : Value) (s' : Shared), Inv X pins σ H s → CX X.stack H s E e s' → X.xe e s'

section
variable {X : Cx} {CX : CXT} {k : Nat} {f C : Addr} {fd : FuncData} {ps : List Str} {sp : Sp} {dvs : List V} {ds : List Value} {E : XK} {x m : Str} {p pos apos : Pos} {e o : Expr} {es : List Expr} {ta : TE} {t : TA}

/-- the callee runs -/
theorem run_fn {pins : List (Addr × Obj)} {σ : St} {H : Hp} {s : Shared} {Q : VK} {us : List Value} {vs : List V} (F : FnOk X.prog X.w X.K X.mg X.base CX k f fd ps sp) (hr : Room k X.A) (hb : Binds X.K fd ps ds) (hd : Vals dvs ds) (hx : Passes CX X E)
    (I : Inv X pins σ H s) (r : Vals vs us) (h : sp (vs ++ dvs) H Q E) : wpAny (model X.prog X.w) X.A (call (.ref f) us) (EP X pins σ Q) X.xe s := by
  have r2 : Vals (vs ++ dvs) (us ++ ds) := r.append hd
  have hl : (us ++ ds).length = ps.length := by rw [← r2.length]; exact F.len _ _ _ _ h
  refine wpAny_call (codeAny_mono (F.run X.A X.stack s H ⟨us, []⟩ (us ++ ds) (vs ++ dvs) Q E hr I.env0 (hb s us I.kIn hl) r2 h) fun r s' hq => ?_)
  cases r with
  | error e => exact hx pins σ H s e s' I hq
  | ok fl =>
    cases fl with
    | ret u => exact I.after hq
    | next => exact False.elim hq
    | brk => exact False.elim hq
    | cont => exact False.elim hq

theorem pe_call (F : FnOk X.prog X.w X.K X.mg X.base CX k f fd ps sp) (hr : Room k X.A) (hg : Gl X x) (hm : X.mg x = some (.ref f)) (hk : PySem.W.keepIn X.K (.ref f) = true) (hb : Binds X.K fd ps ds) (hd : Vals dvs ds) (hx : Passes CX X E)
    (ha : PA X (e :: es) t) (hdb : (x == ("__debug__" : Str)) = false := by decide) (he : starEach (e :: es) X.env = (false, eval e X.env) :: starEach es X.env := by rfl) (hpl : (backTo pos (starEach es X.env)).any (·.1) = false := by rfl) :
    PE X (.Call (.Name x p) (e :: es) [] pos) (tCall sp dvs E t) := by
  intro pins s σ H Q I h
  refine wpAny_Call_Name_kw (ld_glob I hg hm ?_ hdb)
  refine PySem.W.callWith_K (h₀ := X.base) I.ok.mod.kin hk (thn (ha pos pins s σ H _ I h) fun us s1 ⟨vs, H1, I1, r, q⟩ => ⟨I1.kIn, ?_⟩) he hpl
  exact run_fn F hr hb hd hx I1 r q
/-- o.m(e, ..) -/
theorem pe_meth {pl : Sem Bool} (he : PE X o ta) (c : Cls X.K C) (hm : Meth X.K C m f) (F : FnOk X.prog X.w X.K X.mg X.base CX k f fd ps sp) (hr : Room k X.A) (hb : Binds X.K fd ps ds) (hd : Vals dvs ds) (hx : Passes CX X E) (ha : PA X (e :: es) t)
    (hst : starEach (e :: es) X.env = (false, eval e X.env) :: starEach es X.env := by rfl) (hpl : (backTo pos (starEach es X.env)).any (·.1) = false := by rfl)
    (ht : eval (.Call (.Attribute o m apos) (e :: es) [] pos) X.env = (do
      let ov ← eval o X.env
      standAt apos.atName
      let (f, first) ← holding [ov] (getMethod ov m pl)
      callWith pos f first (backTo pos (starEach (e :: es) X.env)) (backToKw pos (keywordEach [] X.env))) := by rfl) :
    PE X (.Call (.Attribute o m apos) (e :: es) [] pos) (tMeth C m sp dvs E ta t) := by
  intro pins s σ H Q I h
  refine PySem.W.methodCall_KW (pl := pl) (thn (he pins s σ H _ I h) fun u s1 ⟨x, H1, I1, rx, a, dx, fs, ex, ea, l, q⟩ => ?_) ht
  subst ex
  obtain rfl : u = Value.ref a := rx
  refine getmeth_ok I1 ea c hm l ?_
  refine PySem.W.callWith_K (first := [.ref a]) (h₀ := X.base) I.ok.mod.kin hm.kp (thn (ha pos pins s1 σ H1 _ I1 q) fun us s2 ⟨vs, H2, I2, r, q2⟩ => ⟨I2.kIn, ?_⟩) hst hpl
  exact run_fn (us := .ref a :: us) (vs := .ref a :: vs) F hr hb hd hx I2 (.cons rfl r) q2
/-- o.m() -/
theorem pe_meth0 {pl : Sem Bool} (he : PE X o ta) (c : Cls X.K C) (hm : Meth X.K C m f) (F : FnOk X.prog X.w X.K X.mg X.base CX k f fd ps sp) (hr : Room k X.A) (hb : Binds X.K fd ps ds) (hd : Vals dvs ds) (hx : Passes CX X E)
    (ht : eval (.Call (.Attribute o m apos) [] [] pos) X.env = (do
      let ov ← eval o X.env
      standAt apos.atName
      let (f, first) ← holding [ov] (getMethod ov m pl)
      callWith pos f first (backTo pos (starEach [] X.env)) (backToKw pos (keywordEach [] X.env))) := by rfl) :
    PE X (.Call (.Attribute o m apos) [] [] pos) (tMeth C m sp dvs E ta tNil) := by
  intro pins s σ H Q I h
  refine PySem.W.methodCall_KW (pl := pl) (thn (he pins s σ H _ I h) fun u s1 ⟨x, H1, I1, rx, a, dx, fs, ex, ea, l, q⟩ => ?_) ht
  subst ex
  obtain rfl : u = Value.ref a := rx
  refine getmeth_ok I1 ea c hm l ?_
  exact PySem.W.callWith_K0 (first := [.ref a]) I1.kIn hm.kp (run_fn (us := [.ref a]) (vs := [.ref a]) F hr hb hd hx I1 (.cons rfl .nil) q)

/-- what a class must have to be made -/
structure Mk (K : PySem.W.Frag) (C f : Addr) : Prop where
  makes : PySem.W.makesIn K C = true
  init : PySem.W.findIn K (.ref C) "__init__" = some (some (.ref f))
  fn : PySem.W.isFn K (.ref f) = true
  kp : PySem.W.keepIn K (.ref C) = true

theorem run_make {pins : List (Addr × Obj)} {σ : St} {H : Hp} {s : Shared} {Q : VK} {us : List Value} {vs : List V} (M : Mk X.K C f) (F : FnOk X.prog X.w X.K X.mg X.base CX k f fd ps sp) (hr : Room (k + 1) X.A) (hb : Binds X.K fd ps ds) (hd : Vals dvs ds)
    (hx : Passes CX X E) (I : Inv X pins σ H s) (r : Vals vs us)
    (h : ∀ x dx, H x = none → H dx = none → dx ≠ x → sp (.ref x :: (vs ++ dvs)) (upd (upd H dx (.own x)) x (.ins C dx [])) (fun v H2 => v = .non ∧ Q (.ref x) H2) E) :
    wpAny (model X.prog X.w) X.A (call (.ref C) us) (EP X pins σ Q) X.xe s := by
  have hq := h (s.heap.objs.size + 1) s.heap.objs.size (I.hok.fresh (Nat.le_succ _)) (I.hok.fresh (Nat.le_refl _)) (Nat.ne_of_lt (Nat.lt_succ_self _))
  have I2 := Inv.made (C := C) I
  have r2 : Vals (V.ref (s.heap.objs.size + 1) :: (vs ++ dvs)) (Value.ref (s.heap.objs.size + 1) :: (us ++ ds)) := .cons rfl (r.append hd)
  have hl : (Value.ref (s.heap.objs.size + 1) :: us ++ ds).length = ps.length := by
    have e := r2.length
    rw [F.len _ _ _ _ hq] at e
    exact e.symm
  refine wpAny_call (make_map (f := f) I.kIn M.makes M.init (beq_iff_eq.mp M.fn) (codeAny_mono (F.run _ X.stack _ _ ⟨Value.ref (s.heap.objs.size + 1) :: us, []⟩ (Value.ref (s.heap.objs.size + 1) :: (us ++ ds)) _ _ E (hr.make C us [])
    (I2.env0.make C us []) (hb _ (Value.ref (s.heap.objs.size + 1) :: us) I2.kIn hl) r2 hq) fun r s' hq' => ?_))
  cases r with
  | error e => exact hx pins σ _ _ e s' I2 hq'
  | ok fl =>
    cases fl with
    | ret u =>
      obtain ⟨v, H', I3, rv, ev, q3⟩ := I2.after hq'
      subst ev
      exact ⟨rv, ⟨V.ref (s.heap.objs.size + 1), H', I3, rfl, q3⟩⟩
    | next => exact False.elim hq'
    | brk => exact False.elim hq'
    | cont => exact False.elim hq'
theorem pe_make (M : Mk X.K C f) (F : FnOk X.prog X.w X.K X.mg X.base CX k f fd ps sp) (hr : Room (k + 1) X.A) (hg : Gl X x) (hm : X.mg x = some (.ref C)) (hb : Binds X.K fd ps ds) (hd : Vals dvs ds) (hx : Passes CX X E)
    (ha : PA X (e :: es) t) (hdb : (x == ("__debug__" : Str)) = false := by decide) (he : starEach (e :: es) X.env = (false, eval e X.env) :: starEach es X.env := by rfl) (hpl : (backTo pos (starEach es X.env)).any (·.1) = false := by rfl) :
    PE X (.Call (.Name x p) (e :: es) [] pos) (tMake C sp dvs E t) := by
  intro pins s σ H Q I h
  refine wpAny_Call_Name_kw (ld_glob I hg hm ?_ hdb)
  refine PySem.W.callWith_K (h₀ := X.base) I.ok.mod.kin M.kp (thn (ha pos pins s σ H _ I h) fun us s1 ⟨vs, H1, I1, r, q⟩ => ⟨I1.kIn, ?_⟩) he hpl
  exact run_make M F hr hb hd hx I1 r q
end

/-! ### keywords -/
/-- the values of the keywords, from the left -/
def PK (X : Cx) (kws : List Keyword) (t : TA) : Prop :=
  ∀ (pos : Pos) (pins : List (Addr × Obj)) (s : Shared) (σ : St) (H : Hp) (Q : List V → Hp → Prop), Inv X pins σ H s → t σ H Q → wpAny (model X.prog X.w) X.A (evalAll ((backToKw pos (keywordEach kws X.env)).map (·.2))) (AP X pins σ Q) X.xe s
section
variable {X : Cx} {CX : CXT} {k : Nat} {f C : Addr} {fd : FuncData} {ps ks : List Str} {sp : Sp} {E : XK} {x m : Str} {p pos apos kpos : Pos} {e o : Expr} {es : List Expr} {kws : List Keyword} {te ta : TE} {t tk : TA} {nm : Option Str}
/-- how a call with keywords binds: g puts the positional values us and the keywords' values ws (names ks) in the parameters' order, defaults among them -/
structure KBinds (K : PySem.W.Frag) (fd : FuncData) (ps ks : List Str) (g : List Value → List Value → List Value) (gV : List V → List V → List V) : Prop where
  to : ∀ (s : Shared) (us ws : List Value), K.In s.heap → (g us ws).length = ps.length → BindsTo s fd ⟨us, ks.zip ws⟩ (ps.zip (g us ws))
  rel : ∀ {vs : List V} {us : List Value} {zs : List V} {ws : List Value}, Vals vs us → Vals zs ws → Vals (gV vs zs) (g us ws)
def tCallK (sp : Sp) (gV : List V → List V → List V) (E : XK) (t tk : TA) : TE := fun σ H Q => t σ H fun vs H1 => tk σ H1 fun zs H2 => sp (gV vs zs) H2 Q E
variable {g : List Value → List Value → List Value} {gV : List V → List V → List V}
end

/-! ### a def's body keeps its promise -/
/-- names: the parameters first -/
structure FnScope (N P : List Str) (sc : Scope) : Prop where
  kind : sc.kind = .function
  co : sc.isCoroutine = false
  gen : sc.isGenerator = false
  nd : N.Nodup
  pre : N.take P.length = P
  par : ∀ x ∈ P, sc.names.lookup x = some .local ∨ sc.names.lookup x = some .cell
  nofree : ∀ y ∈ sc.names, y.2 ≠ .free

theorem bindL_out {kindOf : Str → Option NameKind} {x : Str} : ∀ {binds : List (Str × Value)} {m : Str → Option Value}, (∀ v, (x, v) ∉ binds) → bindL kindOf binds m x = m x
  | [], _, _ => rfl
  | (n, v) :: r, m, h => by
    unfold bindL
    rw [bindL_out fun w hw => h w (List.mem_cons_of_mem _ hw)]
    split
    · have : x ≠ n := by rintro rfl; exact h v List.mem_cons_self
      simp [this]
    · rfl
theorem bindC_out {kindOf : Str → Option NameKind} {x : Str} : ∀ {binds : List (Str × Value)} {m : Str → Option Value}, (∀ v, (x, v) ∉ binds) → bindC kindOf binds m x = m x
  | [], _, _ => rfl
  | (n, v) :: r, m, h => by
    unfold bindC
    rw [bindC_out fun w hw => h w (List.mem_cons_of_mem _ hw)]
    split
    · rfl
    · have : x ≠ n := by rintro rfl; exact h v List.mem_cons_self
      simp [this]
theorem bindL_get {kindOf : Str → Option NameKind} {x : Str} {v : Value} : ∀ {P : List Str} {vs : List Value} {i : Nat} {m : Str → Option Value}, P.Nodup → P[i]? = some x → vs[i]? = some v → kindOf x = some .local →
    bindL kindOf (P.zip vs) m x = some v
  | [], _, _, _, _, h, _, _ => by simp at h
  | _ :: _, [], _, _, _, _, h, _ => by simp at h
  | p :: P, w :: vs, 0, m, nd, h1, h2, hk => by
    simp at h1 h2; subst h1; subst h2
    show bindL kindOf ((p, w) :: P.zip vs) m p = _
    unfold bindL
    rw [bindL_out fun v hv => (List.nodup_cons.mp nd).1 (List.of_mem_zip hv).1, if_pos hk]
    simp
  | p :: P, w :: vs, i + 1, m, nd, h1, h2, hk => by
    show bindL kindOf ((p, w) :: P.zip vs) m x = _
    unfold bindL
    exact bindL_get (i := i) (List.nodup_cons.mp nd).2 (by simpa using h1) (by simpa using h2) hk
theorem bindC_get {kindOf : Str → Option NameKind} {x : Str} {v : Value} : ∀ {P : List Str} {vs : List Value} {i : Nat} {m : Str → Option Value}, P.Nodup → P[i]? = some x → vs[i]? = some v → kindOf x ≠ some .local →
    bindC kindOf (P.zip vs) m x = some v
  | [], _, _, _, _, h, _, _ => by simp at h
  | _ :: _, [], _, _, _, _, h, _ => by simp at h
  | p :: P, w :: vs, 0, m, nd, h1, h2, hk => by
    simp at h1 h2; subst h1; subst h2
    show bindC kindOf ((p, w) :: P.zip vs) m p = _
    unfold bindC
    rw [bindC_out fun v hv => (List.nodup_cons.mp nd).1 (List.of_mem_zip hv).1, if_neg hk]
    simp
  | p :: P, w :: vs, i + 1, m, nd, h1, h2, hk => by
    show bindC kindOf ((p, w) :: P.zip vs) m x = _
    unfold bindC
    exact bindC_get (i := i) (List.nodup_cons.mp nd).2 (by simpa using h1) (by simpa using h2) hk

/-- the names' values at the entry -/
def start (N : List Str) (vs : List V) : St := vs.map some ++ List.replicate (N.length - vs.length) none

/-- the context of a def's body, at its entry; an exception leaves the frame, then lies as CX says -/
def cxOf (CX : CXT) (P : Program) (w : World) (K : PySem.W.Frag) (mg : Str → Option Value) (base : Heap) (N : List Str) (qual : Str) (scope : Scope) (f : Addr) (cd : Value) (A : Around) (outer : List Env) (s : Shared) (H : Hp) (E : XK) : Cx where
  prog := P
  w := w
  K := K
  mg := mg
  base := base
  A := A.deeper (envOfC qual scope s.heap.objs.size f cd)
  N := N
  s₀ := s
  H₀ := H
  env := envOfC qual scope s.heap.objs.size f cd
  outer := outer
  stack := envOfC qual scope s.heap.objs.size f cd :: outer
  ex := []
  calm := true
  fn := fun _ => true
  pn := []
  xe := fun e s' => wpAny (model P w) (A.deeper (envOfC qual scope s.heap.objs.size f cd)) (leaving (envOfC qual scope s.heap.objs.size f cd) e) (fun _ s'' => CX outer H s E e s'') (fun e' s'' => CX outer H s E e' s'') s'

theorem cell_has {sc : Scope} {n : Nat} {x : Str} (h : sc.names.lookup x = some .cell) : ∃ c, (cellsFrom n sc.names []).lookup x = some c := by
  have q := PySem.W.cellsFrom_some sc.names n [] (.inl h)
  exact Option.isSome_iff_exists.mp q

theorem inv_start {CX : CXT} {P : Program} {w : World} {K : PySem.W.Frag} {mg : Str → Option Value} {base : Heap} {N ps : List Str} {qual : Str} {scope : Scope} {f : Addr} {cd : Value} {A : Around} {outer : List Env} {s s1 : Shared} {H : Hp} {E : XK} {us : List Value} {vs : List V}
    (S : FnScope N ps scope) (hd : A.handled = none) (e0 : Env0 P w K mg base A outer s H) (hl : vs.length = ps.length) (r : Vals vs us)
    (x : InCallC s s.heap.objs.size (bindL (envOfC qual scope s.heap.objs.size f cd).kindOf (ps.zip us) fun _ => none) (cellsFrom (s.heap.objs.size + 1) scope.names []) (bindC (envOfC qual scope s.heap.objs.size f cd).kindOf (ps.zip us) fun _ => none) s1) :
    Inv (cxOf CX P w K mg base N qual scope f cd A outer s H E) [] (start N vs) H s1 := by
  have hpl : ps.length ≤ N.length := by have := congrArg List.length S.pre; rw [List.length_take] at this; omega
  obtain ⟨h1, tk, rfl, hk⟩ := x.done
  have noA : ∀ b : Addr, b ∉ (cxOf CX P w K mg base N qual scope f cd A outer s H E).ex := fun b z => absurd (show b ∈ ([] : List Addr) from z) (by simp)
  refine ⟨⟨e0.mod, S.kind, rfl, rfl, Nat.le_refl _, fun y z c h1 h2 => ?_, fun y hy => ?_, fun y c _ h => ?_, fun _ => hd, Around.frames_deeper e0.frames, .inr ⟨rfl, rfl⟩, fun b z => absurd z (noA b), e0.bs, e0.bsz, fun b _ _ => noA b, fun b z => absurd z (noA b), e0.funs, e0.frf⟩,
    rfl, e0.bare, Un.kept hk, ⟨_, x.toInCall.ns, fun i y v h1 h2 h3 => ?_⟩, fun y c h => ⟨_, x.cell y c h⟩, e0.hok.fresh (Nat.le_refl _), fun y c h => ?_, fun p hp => absurd (show p ∈ ([] : List (Addr × Obj)) from hp) (by simp), e0.hok.kept hk, ?_⟩
  · exact name_of_addr x.apart (PySem.mem_of_lookup h1) (PySem.mem_of_lookup h2)
  · have hy : scope.names.lookup y = some .cell ∨ scope.names.lookup y = some .free := hy
    rcases hy with hy | hy
    · exact cell_has hy
    · exact absurd rfl (S.nofree _ (PySem.mem_of_lookup hy))
  · exact Nat.le_of_lt (x.above y c (PySem.mem_of_lookup h))
  · have hi : i < vs.length := by
      unfold start at h2
      by_cases hi : i < vs.length
      · exact hi
      · rw [List.getElem?_append_right (by simpa using hi)] at h2
        rw [List.getElem?_replicate] at h2
        split at h2 <;> cases h2
    have ha : vs[i]? = some v := by
      unfold start at h2
      rw [List.getElem?_append_left (by simpa using hi), List.getElem?_map] at h2
      cases e : vs[i]? with
      | none => rw [e] at h2; cases h2
      | some a => rw [e] at h2; cases h2; rfl
    obtain ⟨u, hu, rv⟩ := r.get ha
    have hp : ps[i]? = some y := by
      rw [← S.pre, List.getElem?_take_of_lt (by omega)]; exact h1
    have ndP : ps.Nodup := by rw [← S.pre]; exact S.nd.sublist (List.take_sublist _ _)
    refine ⟨u, rv, ?_⟩
    rcases S.par y (List.mem_of_getElem? hp) with k | k
    · exact .inl ⟨k, bindL_get ndP hp hu k⟩
    · obtain ⟨c, e⟩ := cell_has (n := s.heap.objs.size + 1) k
      refine .inr ⟨.inl k, c, e, ?_⟩
      have q := x.cell y c e
      rw [bindC_get ndP hp hu (by show scope.names.lookup y ≠ _; rw [k]; decide)] at q
      exact q
  · exact e0.hok.fresh (Nat.le_of_lt (x.above y c (PySem.mem_of_lookup h)))
  · unfold start
    show _ = N.length
    rw [List.length_append, List.length_map, List.length_replicate]
    omega

/-- THE RULE: a def (or a method) of the text, by its body. The body's reading t is chosen for each entry; it is run at the parameters' values -/
theorem fn_of {CX : CXT} {P : Program} {w : World} {K : PySem.W.Frag} {mg : Str → Option Value} {base : Heap} {k : Nat} {f : Addr} {name qual : Str} {params : Arguments} {body : List Stmt} {scope : Scope} {dV kV doc pm cdv ct oc : Value} {an od : Option Addr}
    {osl : Array (Option Value)} {N ps : List Str} {sp : Sp} (lk : K.lookup f = some ⟨oc, od, .func (PySem.W.fnOf name qual params body scope dV kV doc pm an cdv ct), osl⟩) (hcd : PySem.W.codeIn K cdv qual = true) (S : FnScope N ps scope)
    (len : ∀ vs H Q E, sp vs H Q E → vs.length = ps.length)
    (hbody : ∀ (A : Around) (outer : List Env) (s : Shared) (H : Hp) (vs : List V) (Q : VK) (E : XK), Room k (A.deeper (envOfC qual scope s.heap.objs.size f cdv)) → sp vs H Q E →
      ∃ t, PSs (cxOf CX P w K mg base N qual scope f cdv A outer s H E) body t ∧ t { nx := fun _ H' => Q .non H', rt := Q } (start N vs) H) :
    FnOk P w K mg base CX (k + 1) f (PySem.W.fnOf name qual params body scope dV kV doc pm an cdv ct) ps sp := by
  refine ⟨len, fun A outer s H args us vs Q E hr e0 hb r hsp => ?_⟩
  have hl := len _ _ _ _ hsp
  have KX : K.In s.heap := e0.mod.kin.keeps fun b o e => (e0.bs b o e).1
  have lim : s.heap.NoLimit := e0.mod.nolimit.keeps fun b o e => (e0.bs b o e).1
  have hkind : ∀ y ∈ ps.zip us, scope.names.lookup y.1 = some .local ∨ (scope.names.lookup y.1 = some .cell ∧ ((cellsFrom (s.heap.objs.size + 1) scope.names []).lookup y.1).isSome = true) := fun ⟨n, v⟩ hy => by
    rcases S.par n (List.of_mem_zip hy).1 with q | q
    · exact .inl q
    · exact .inr ⟨q, PySem.W.cellsFrom_some _ _ _ (.inl q)⟩
  refine codeAny_call_function hr.depth (KX _ _ lk) rfl S.co S.gen rfl (PySem.W.codeRec_of KX hcd) (hb _ _ _ _ ?_)
  refine wpAny_newFunctionEnv_cells S.kind hkind fun env he s1 x => ?_
  subst he
  refine ⟨lim.keeps x.toInCall.keep, codeAny_func ?_⟩
  obtain ⟨t, ht, hq⟩ := hbody A outer s H vs Q E (hr.deeper _) hsp
  have I : Inv (cxOf CX P w K mg base N qual scope f cdv A outer s H E) [] (start N vs) H s1 := inv_start S hr.hd e0 hl r x
  refine wpAny_mono (ht [] s1 (start N vs) H _ I hq) (fun fl s' hs => ?_) fun e s' hs => hs
  have fin : ∀ {σ' : St} {H' : Hp} {v : V} {u : Value}, Inv (cxOf CX P w K mg base N qual scope f cdv A outer s H E) [] σ' H' s' → RelV v u → Q v H' → CE outer P w H s Q u s' :=
    fun {σ' H' v u} J rv q => ⟨v, H', J.os, J.bare, J.base, J.hok, rv, q⟩
  cases fl with
  | ret u =>
    obtain ⟨v, σ', H', J, rv, q⟩ := hs
    exact fin J rv q
  | next =>
    obtain ⟨σ', H', J, q⟩ := hs
    exact fin (v := V.non) (u := Value.none) J rfl q
  | brk =>
    obtain ⟨_, _, _, q⟩ := hs
    exact False.elim q
  | cont =>
    obtain ⟨_, _, _, q⟩ := hs
    exact False.elim q
end L2

namespace L2
open PySem PySem.Spec PyProof.Rows
section
variable {X : Cx} {x : Str} {p pos : Pos} {e : Expr} {es : List Expr} {t : TA} {id T : String} {r : List V → Hp → VK → Prop}

def tCB (r : List V → Hp → VK → Prop) (t : TA) : TE := fun σ H Q => t σ H fun vs H1 => r vs H1 Q
/-- f(e, ..), f a built-in function -/
theorem pe_callB (hc : CallR X (.builtin id) r) (hg : Gl X x) (hm : X.mg x = none) (hv : bootBuiltins x = some (.builtin id)) (ha : PA X (e :: es) t) (hn : x ≠ "__name__" := by decide) (hdb : (x == ("__debug__" : Str)) = false := by decide)
    (he : starEach (e :: es) X.env = (false, eval e X.env) :: starEach es X.env := by rfl) (hpl : (backTo pos (starEach es X.env)).any (·.1) = false := by rfl) : PE X (.Call (.Name x p) (e :: es) [] pos) (tCB r t) := by
  intro pins s σ H Q I h
  refine wpAny_Call_Name_kw (ld_blt I hg hm hv ?_ hn hdb)
  exact PyProof.Rows.callWith_builtin1 (thn (ha pos pins s σ H _ I h) fun us s1 ⟨vs, H1, I1, r1, q1⟩ => hc pins s1 σ H1 vs us Q I1 r1 q1) he hpl
/-- T(e, ..), T a built-in type -/
theorem pe_callTy (hc : CallR X (.type T) r) (hg : Gl X x) (hm : X.mg x = none) (hv : bootBuiltins x = some (.type T)) (ha : PA X (e :: es) t) (hn : x ≠ "__name__" := by decide) (hdb : (x == ("__debug__" : Str)) = false := by decide)
    (he : starEach (e :: es) X.env = (false, eval e X.env) :: starEach es X.env := by rfl) (hpl : (backTo pos (starEach es X.env)).any (·.1) = false := by rfl) : PE X (.Call (.Name x p) (e :: es) [] pos) (tCB r t) := by
  intro pins s σ H Q I h
  refine wpAny_Call_Name_kw (ld_blt I hg hm hv ?_ hn hdb)
  exact PyProof.Rows.callWith_type1 (thn (ha pos pins s σ H _ I h) fun us s1 ⟨vs, H1, I1, r1, q1⟩ => hc pins s1 σ H1 vs us Q I1 r1 q1) he hpl
end
end L2

namespace HT
open PySem PyProof.Rows

/-- t < u of tuples of ints -/
def lexLt : List Int → List Int → Bool
  | [], [] => false
  | [], _ :: _ => true
  | _ :: _, [] => false
  | x :: xs, y :: ys => if x = y then lexLt xs ys else decide (x < y)
section
open PySem.SeqAt
open PySem.AutoSeq1 (wpAny_loadPart')
open PySem.MeetsSeq PySem.MeetsSeq2 PySem.MeetsSeq3

end

section
variable {prog : Program} {w : World} {A : Around} {E : Value → Shared → Prop} {s : Shared}

/-! ### t[a:b], not the whole -/
/-- a slice's bound as a place among n (d where it is left out) -/
def sIx (n d : Nat) : Option Int → Nat
  | none => d
  | some v => if v < 0 then (v + (n : Int)).toNat else min v.toNat n
theorem sIx_none (n d : Nat) : sIx n d none = d := rfl
theorem sIx_nat (n d k : Nat) : sIx n d (some (k : Int)) = min k n := by
  show (if (k : Int) < 0 then ((k : Int) + (n : Int)).toNat else min (k : Int).toNat n) = min k n
  rw [if_neg (by omega), Int.toNat_natCast]
theorem sIx_le (n d : Nat) (hd : d ≤ n) (o : Option Int) : sIx n d o ≤ n := by
  cases o with
  | none => exact hd
  | some v =>
    show (if v < 0 then (v + (n : Int)).toNat else min v.toNat n) ≤ n
    by_cases hv : v < 0
    · rw [if_pos hv]; omega
    · rw [if_neg hv]; exact Nat.min_le_right _ _
theorem clip_eq (v : Int) (n d : Nat) : (if v < 0 then max (v + (n : Int)) 0 else min v (n : Int)) = ((sIx n d (some v) : Nat) : Int) := by
  show (if v < 0 then max (v + (n : Int)) 0 else min v (n : Int)) = (((if v < 0 then (v + (n : Int)).toNat else min v.toNat n) : Nat) : Int)
  by_cases hv : v < 0
  · simp only [if_pos hv]; omega
  · simp only [if_neg hv]; omega
theorem adjust_gen (lo hi : Option Int) (n : Nat) : Builtin.Slice.sliceAdjust lo hi 1 (n : Int) = (((sIx n 0 lo : Nat) : Int), ((sIx n n hi : Nat) : Int)) := by
  have h1 : ¬ ((1 : Int) < 0) := by omega
  unfold Builtin.Slice.sliceAdjust
  simp only [h1, if_false]
  refine Prod.ext ?_ ?_
  · cases lo with
    | none => rfl
    | some v => exact clip_eq v n 0
  · cases hi with
    | none => rfl
    | some v => exact clip_eq v n n
theorem places_gen (i j : Nat) : Builtin.Slice.slicePlaces (i : Int) (j : Int) 1 = j - i := by
  unfold Builtin.Slice.slicePlaces
  have h1 : (1 : Int) > 0 := by omega
  simp only [h1, if_true, Int.ediv_one]
  split <;> omega
theorem slicePart_ {v : Value} {o : Option Int} {Q : Option Int → Shared → Prop} (p : IsPart v o) (h : Q o s) : wpAny (model prog w) A (Builtin.Slice.slicePartIndex v) Q E s := by
  cases p with
  | none => exact slicePart_none h
  | int i t => exact slicePart_int h
theorem sliceApplied_gen {sl : Addr} {vl vu : Value} {lo hi : Option Int} {n : Nat} {Q : Int × Int × Nat → Shared → Prop} (hs : s.heap.IsSliceOf sl vl vu .none) (pl : IsPart vl lo) (pu : IsPart vu hi)
    (h : Q (((sIx n 0 lo : Nat) : Int), 1, sIx n n hi - sIx n 0 lo) s) : wpAny (model prog w) A (Builtin.Slice.sliceApplied (.ref sl) (pure (n : Int))) Q E s := by
  obtain ⟨os, hos, hcs, hds⟩ := id hs
  unfold Builtin.Slice.sliceApplied Builtin.Slice.sliceFields
  refine wpAny_bind (wpAny_bind (wpAny_field hos hds (x := vl) rfl (wpAny_bind (wpAny_field hos hds (x := vu) rfl (wpAny_bind (wpAny_field hos hds (x := .none) rfl (wpAny_pure ?_)))))))
  refine wpAny_bind (slicePart_none ?_)
  show wpAny _ _ (if ((1 : Int) == 0) = true then _ else _) _ _ s
  rw [if_neg (by decide)]
  refine wpAny_bind (slicePart_ pl (wpAny_bind (slicePart_ pu (wpAny_bind (wpAny_pure ?_)))))
  show wpAny _ _ (match Builtin.Slice.sliceAdjust lo hi 1 (n : Int) with | (lo, hi) => pure (lo, (1 : Int), Builtin.Slice.slicePlaces lo hi 1)) _ _ s
  rw [adjust_gen lo hi n]
  show wpAny _ _ (pure (((sIx n 0 lo : Nat) : Int), (1 : Int), Builtin.Slice.slicePlaces ((sIx n 0 lo : Nat) : Int) ((sIx n n hi : Nat) : Int) 1)) _ _ s
  rw [places_gen]
  exact wpAny_pure h
theorem pick_gen (xs : Array Value) (i k : Nat) : ((List.range k).filterMap fun (m : Nat) => xs[((i : Int) + (m : Int) * 1).toNat]?).toArray = ((xs.toList.drop i).take k).toArray := by
  have e : (fun (m : Nat) => xs[((i : Int) + (m : Int) * 1).toNat]?) = fun m => xs[i + m]? := by
    funext m
    have : ((i : Int) + (m : Int) * 1).toNat = i + m := by omega
    rw [this]
  rw [e]
  have := pick_run xs i k
  rw [List.filterMap_map] at this
  have e2 : ((fun x => xs[x]?) ∘ fun x => i + x) = fun m => xs[i + m]? := rfl
  rw [e2] at this
  rw [this]

theorem getItem_tuple_cut {t sl : Addr} {items : Array Value} {vl vu : Value} {lo hi : Option Int} {Q : Value → Shared → Prop} (ht : IsTup s.heap t items) (hs : s.heap.IsSliceOf sl vl vu .none) (pl : IsPart vl lo) (pu : IsPart vu hi)
    (hw : ¬ (sIx items.size 0 lo = 0 ∧ sIx items.size items.size hi = items.size))
    (h : Q (.ref s.heap.objs.size) { s with heap := s.heap.push { cls := .type "tuple", data := .seq ((items.toList.drop (sIx items.size 0 lo)).take (sIx items.size items.size hi - sIx items.size 0 lo)).toArray } })
    (hsz : items.size ≤ sizeLine) : wpAny (model prog w) A (getItem (.ref t) (.ref sl)) Q E s := by
  have htake : sizeOk (.seq ((items.toList.drop (sIx items.size 0 lo)).take (sIx items.size items.size hi - sIx items.size 0 lo)).toArray) := by
    show ((items.toList.drop (sIx items.size 0 lo)).take (sIx items.size items.size hi - sIx items.size 0 lo)).toArray.size ≤ sizeLine
    rw [List.size_toArray, List.length_take, List.length_drop, Array.length_toList]
    omega
  have hj : sIx items.size items.size hi ≤ items.size := sIx_le _ _ (Nat.le_refl _) hi
  obtain ⟨os, hos, hcs, hds⟩ := id hs
  have hTs : s.TypeIs (.ref sl) "slice" := ⟨os, hos, hcs⟩
  unfold getItem
  try with_reducible refine wpAny_holding ?_
  first | refine wpAny_bind (wpAny_pure ?_) | skip
  refine wpAny_bind (wpAny_sequenceKey ht.typeIs (by decide) ?_)
  refine wpAny_bind (wpAny_callSpecial?_slot (name := Str.ofString "__getitem__") ht.typeIs PyProof.Rows.slot_tuple_getitem
    (wpAny_call_entry PyProof.Rows.slot_tuple_getitem ht.typeIs entry_tuple_getitem ?_ (args_tuple_getitem _ _)))
  show wpAny _ _ (Builtin.Tuple.tupleItemsOf (.ref t) >>= _) _ _ s
  refine wpAny_bind (tupleItemsOf_ ht ?_)
  refine wpAny_bind (wpAny_typeOf hTs ?_)
  rw [if_pos (by decide)]
  refine wpAny_bind (sliceApplied_gen hs pl pu ?_)
  have hno : ¬ ((((sIx items.size 0 lo : Nat) : Int) == 0 && (1 : Int) == 1 && (sIx items.size items.size hi - sIx items.size 0 lo) == items.size) = true) := by
    intro q
    rw [Bool.and_eq_true, Bool.and_eq_true] at q
    have q1 : ((sIx items.size 0 lo : Nat) : Int) = 0 := eq_of_beq q.1.1
    have q2 : sIx items.size items.size hi - sIx items.size 0 lo = items.size := eq_of_beq q.2
    exact hw ⟨by omega, by omega⟩
  show wpAny _ _ (if (((sIx items.size 0 lo : Nat) : Int) == 0 && (1 : Int) == 1 && (sIx items.size items.size hi - sIx items.size 0 lo) == items.size) = true then _ else _) _ _ s
  rw [if_neg hno, pick_gen]
  first
    | exact wpAny_bind (m := Builtin.Tuple.tupleExact _) (wpAny_newObj_type (wpAny_pure ⟨_, rfl, wpAny_pure h⟩) htake)
    | exact wpAny_bind (m := Builtin.Tuple.tupleExact _) (wpAny_newObj_type (wpAny_bind (wpAny_pure (wpAny_pure ⟨_, rfl, wpAny_pure h⟩))) htake)
    | exact wpAny_bind (wpAny_bind (m := Builtin.Tuple.tupleExact _) (wpAny_newObj_type (wpAny_pure (wpAny_pure ⟨_, rfl, wpAny_pure h⟩)) htake))
    | exact wpAny_bind (wpAny_bind (m := Builtin.Tuple.tupleExact _) (wpAny_newObj_type (wpAny_pure ⟨_, rfl, wpAny_pure h⟩) htake))
end
end HT

namespace L2
open PySem PySem.Spec PyProof.Rows

/-! ### the parts of a slice -/
abbrev TO := St → Hp → (Option Int → Hp → Prop) → Prop
/-- a slice's part (left out, or an int) -/
def PO (X : Cx) (e : Option Expr) (t : TO) : Prop :=
  ∀ (pins : List (Addr × Obj)) (s : Shared) (σ : St) (H : Hp) (Q : Option Int → Hp → Prop), Inv X pins σ H s → t σ H Q →
    wpAny (model X.prog X.w) X.A (evalPart e X.env) (fun u s' => ∃ o H', Inv X pins σ H' s' ∧ IsPart u o ∧ Q o H') X.xe s
def tNoPart : TO := fun _ H Q => Q none H
def tPart (t : TE) : TO := fun σ H Q => t σ H fun x H1 => ∃ i, x = .int i ∧ Q (some i) H1

section
variable {X : Cx} {e : Expr} {te : TE} {lo hi : Option Expr} {tl th : TO} {pos p2 : Pos}

theorem po_none : PO X none tNoPart := by
  intro pins s σ H Q I h
  rw [evalPart_none]
  exact wpAny_pure ⟨none, H, I, .none, h⟩
theorem po_some (h : PE X e te) : PO X (some e) (tPart te) := by
  intro pins s σ H Q I hw
  rw [evalPart_some]
  refine thn (h pins s σ H _ I hw) fun u s1 ⟨x, H1, I1, r1, q1⟩ => ?_
  obtain ⟨i, rfl, q⟩ := q1
  obtain ⟨t, rfl⟩ := r1
  exact ⟨some i, H1, I1, .int i t, q⟩

/-- what a slice of a value is, by values: the slice object stands at sl -/
def SlR (X : Cx) (r : V → Option Int → Option Int → Hp → VK → Prop) : Prop :=
  ∀ (pins : List (Addr × Obj)) (s : Shared) (σ : St) (H : Hp) (x : V) (v vl vu : Value) (lo hi : Option Int) (sl : Addr) (Q : VK), Inv X pins σ H s → RelV x v → s.heap.IsSliceOf sl vl vu .none → IsPart vl lo → IsPart vu hi → r x lo hi H Q →
    ∃ T id, typeLookup (.type T) "__getitem__" = pure (some (.builtin id)) ∧ s.TypeIs v T ∧ wpAny (model X.prog X.w) X.A (getItem v (.ref sl)) (EP X pins σ Q) X.xe s
def tSl (r : V → Option Int → Option Int → Hp → VK → Prop) (te : TE) (tl th : TO) : TE := fun σ H Q => te σ H fun x H1 => tl σ H1 fun l H2 => th σ H2 fun u H3 => r x l u H3 Q
/-- a[lo:hi], any a -/
theorem pe_slice {r : V → Option Int → Option Int → Hp → VK → Prop} (hr : SlR X r) (he : PE X e te) (hl : PO X lo tl) (hu : PO X hi th) : PE X (.Subscript e (.Slice lo hi none p2) pos) (tSl r te tl th) := by
  intro pins s σ H Q I h
  refine Subscript_ (thn (he pins s σ H _ I h) fun v s1 ⟨x, H1, I1, r1, q1⟩ => ?_)
  refine wpAny_Slice (thn (hl pins s1 σ H1 _ I1 q1) fun vl s2 ⟨l, H2, I2, pl, q2⟩ => thn (hu pins s2 σ H2 _ I2 q2) fun vu s3 ⟨u, H3, I3, pu, q3⟩ => ?_)
  rw [evalPart_none]
  refine wpAny_pure ?_
  have I4 : Inv X pins σ H3 { s3 with heap := s3.heap.push { cls := .type "slice", data := .fields #[vl, vu, .none] } } := I3.kept (t' := s3.toks) fun b ob q => Heap.get?_push_of_some _ q
  obtain ⟨T, id, hT, ht, hg⟩ := hr pins { s3 with heap := s3.heap.push { cls := .type "slice", data := .fields #[vl, vu, .none] } } σ H3 x v vl vu l u s3.heap.objs.size Q I4 r1 (Heap.IsSliceOf.new ..) pl pu q3
  show wpAny (model X.prog X.w) X.A (subscriptTail e (.Slice lo hi none p2) v (.ref s3.heap.objs.size)) (EP X pins σ Q) X.xe { s3 with heap := s3.heap.push { cls := .type "slice", data := .fields #[vl, vu, .none] } }
  exact tail_any (ops := [.ref s3.heap.objs.size, v]) ht hT hg (by with_unfolding_all rfl)

/-- the items of xs[lo:hi] -/
def cutV (xs : List V) (lo hi : Option Int) : List V := (xs.drop (HT.sIx xs.length 0 lo)).take (HT.sIx xs.length xs.length hi - HT.sIx xs.length 0 lo)
theorem cutV_length (xs : List V) (lo hi : Option Int) : (cutV xs lo hi).length ≤ xs.length := by
  unfold cutV
  rw [List.length_take, List.length_drop]
  omega
/-- t[lo:hi], not the whole of it (the whole would be t itself) -/
def rSlT (K : PySem.W.Frag) : V → Option Int → Option Int → Hp → VK → Prop := fun x lo hi H Q => ∃ a xs, x = .ref a ∧ SqT K H a xs ∧
  ¬ (HT.sIx xs.length 0 lo = 0 ∧ HT.sIx xs.length xs.length hi = xs.length) ∧ ∀ p, H p = none → Q (.ref p) (upd H p (.tup (cutV xs lo hi)))
theorem sl_tup : SlR X (rSlT X.K) := by
  intro pins s σ H x v vl vu lo hi sl Q I rx hs pl pu h
  obtain ⟨a, xs, rfl, hx, hw, q⟩ := h
  cases rx
  obtain ⟨its, r, ht, hz⟩ := I.tuple hx
  have hlen : its.toArray.size = xs.length := by rw [List.size_toArray]; exact r.length.symm
  refine ⟨"tuple", _, PyProof.Rows.slot_tuple_getitem.lookup, ht.typeIs, ?_⟩
  refine HT.getItem_tuple_cut ht hs pl pu (by rw [hlen]; exact hw) ?_ (by rw [hlen]; exact hz)
  rw [hlen]
  refine ⟨.ref s.heap.objs.size, _, I.laid (t' := s.toks) (o := .tup (cutV xs lo hi)) (fun b ob q => Heap.get?_push_of_some _ q) (Nat.le_refl _) ?_, rfl, q _ (I.hok.fresh (Nat.le_refl _))⟩
  exact ⟨Nat.le_trans (cutV_length xs lo hi) hz, _, (r.drop (HT.sIx xs.length 0 lo)).take (HT.sIx xs.length xs.length hi - HT.sIx xs.length 0 lo), IsTup.new _ _⟩

/-! ### t < u, t + u -/
def rLtT (K : PySem.W.Frag) : R2 := fun x y H Q => ∃ a b ns ms, x = .ref a ∧ y = .ref b ∧ SqT K H a (ns.map V.int) ∧ SqT K H b (ms.map V.int) ∧ Q (.bl (HT.lexLt ns ms)) H
/-- t + u, t not empty: u empty gives t itself -/
def rCatT (K : PySem.W.Frag) : R2 := fun x y H Q => ∃ a b xs ys, x = .ref a ∧ y = .ref b ∧ SqT K H a xs ∧ SqT K H b ys ∧ xs ≠ [] ∧ xs.length + ys.length ≤ sizeLine ∧
  (ys = [] → Q (.ref a) H) ∧ (ys ≠ [] → ∀ p, H p = none → Q (.ref p) (upd H p (.tup (xs ++ ys))))
end
end L2

namespace L2
open PySem PySem.Spec PyProof.Rows

/-! ### places -/
/-- the place that an index of any sign means -/
def ixN (n : Nat) (i : Int) : Option Nat := if 0 ≤ i then (if i < n then some i.toNat else none) else if -(n : Int) ≤ i then some (i + n).toNat else none
def atI {α : Type} (xs : List α) (i : Int) : Option α := (ixN xs.length i).bind fun j => xs[j]?
theorem ixN_seq {n : Nat} {i : Int} {j : Nat} (h : ixN n i = some j) : seqIndex? i n = some j ∧ j < n ∧ -(n : Int) ≤ i ∧ i < n := by
  unfold ixN at h
  by_cases h0 : 0 ≤ i
  · rw [if_pos h0] at h
    by_cases h1 : i < n
    · rw [if_pos h1] at h
      have e : i.toNat = j := Option.some.inj h
      exact ⟨by rw [seqIndex_of h0 h1, e], by omega, by omega, h1⟩
    · rw [if_neg h1] at h; cases h
  · rw [if_neg h0] at h
    by_cases h1 : -(n : Int) ≤ i
    · rw [if_pos h1] at h
      have e : (i + n).toNat = j := Option.some.inj h
      exact ⟨by rw [seqIndex_neg (by omega) h1, e], by omega, h1, by omega⟩
    · rw [if_neg h1] at h; cases h
theorem atI_get {α : Type} {xs : List α} {i : Int} {v : α} (h : atI xs i = some v) : ∃ j, seqIndex? i xs.length = some j ∧ xs[j]? = some v ∧ j < xs.length ∧ -(xs.length : Int) ≤ i ∧ i < xs.length := by
  unfold atI at h
  cases e : ixN xs.length i with
  | none => rw [e] at h; cases h
  | some j =>
    rw [e] at h
    obtain ⟨h1, h2, h3, h4⟩ := ixN_seq e
    exact ⟨j, h1, h, h2, h3, h4⟩
theorem atI_nat {α : Type} {xs : List α} {j : Nat} {v : α} (h : xs[j]? = some v) : atI xs (j : Int) = some v := by
  have hj : j < xs.length := (List.getElem?_eq_some_iff.mp h).1
  have e : ixN xs.length (j : Int) = some j := by
    unfold ixN
    rw [if_pos (by omega), if_pos (by omega)]; simp
  unfold atI; rw [e]; exact h
/-! ### what may be subscripted -/
/-- what stands as an index of a plain subscript -/
def PlainIx (b : Expr) : Prop := ∀ o i, subscripted b false o i = operate [o, i] (getItem o i)
/-- a subscript by values -/
def IxR (X : Cx) (r : R2) : Prop :=
  ∀ (value slice : Expr) (pins : List (Addr × Obj)) (s : Shared) (σ : St) (H : Hp) (x y : V) (v u : Value) (Q : VK), Inv X pins σ H s → RelV x v → RelV y u → r x y H Q →
    subscripted slice false v u = operate [v, u] (getItem v u) → wpAny (model X.prog X.w) X.A (subscriptTail value slice v u) (EP X pins σ Q) X.xe s
/-- a call of a builtin's method by values: the receiver, the arguments -/
def MtR (X : Cx) (id : String) (r : V → List V → Hp → VK → Prop) : Prop :=
  ∀ (pins : List (Addr × Obj)) (s : Shared) (σ : St) (H : Hp) (x : V) (xs : List V) (v : Value) (us : List Value) (Q : VK), Inv X pins σ H s → RelV x v → Vals xs us → r x xs H Q →
    wpAny (model X.prog X.w) X.A (call (.builtin id) (v :: us)) (EP X pins σ Q) X.xe s
section
variable {X : Cx} {a b : Expr} {ta tb : TE} {pos : Pos}
/-- a[b] -/
theorem pe_ix {r : R2} (hr : IxR X r) (ha : PE X a ta) (hb : PE X b tb) (hs : PlainIx b) : PE X (.Subscript a b pos) (tOp r ta tb) := by
  intro pins s σ H Q I h
  exact Subscript_ (binT ha hb I h fun v u s2 x y H2 I2 rx ry q => hr a b pins s2 σ H2 x y v u Q I2 rx ry q (hs _ _))

def rIxL (K : PySem.W.Frag) : R2 := fun x y H Q => ∃ p xs i v, x = .ref p ∧ y = .int i ∧ SqL K H p xs ∧ atI xs i = some v ∧ Q v H
def rIxT (K : PySem.W.Frag) : R2 := fun x y H Q => ∃ p xs i v, x = .ref p ∧ y = .int i ∧ SqT K H p xs ∧ atI xs i = some v ∧ Q v H
def rIxS : R2 := fun x y H Q => ∃ z i c, x = .str z ∧ y = .int i ∧ z.length ≤ sizeLine ∧ atI z.cps.toList i = some c ∧ Q (.str ⟨#[c]⟩) H
theorem ix_list : IxR X (rIxL X.K) := by
  intro value slice pins s σ H x y v u Q I rx ry h hs
  obtain ⟨p, xs, i, z, rfl, rfl, hq, he, q⟩ := h
  cases rx
  obtain ⟨t, rfl⟩ := ry
  obtain ⟨its, r, pl, hz⟩ := I.list hq
  obtain ⟨j, h1, h2, h3, h4, h5⟩ := atI_get he
  obtain ⟨w, ew, rw'⟩ := r.get h2
  have hl := r.length
  have hn := line63
  have fin : EP X pins σ Q w s := ⟨z, H, I, rw', q⟩
  by_cases h0 : 0 ≤ i
  · have hj : i.toNat = j := by
      rw [seqIndex_of h0 h5] at h1
      exact Option.some.inj h1
    exact item_listR pl.isList h0 (by omega) (by rw [hj]; simpa using ew) fin hs
  · have hj : (i + (its.toArray.size : Int)).toNat = j := by
      rw [seqIndex_neg (by omega) h4] at h1
      rw [List.size_toArray, ← hl]
      exact Option.some.inj h1
    exact subscriptTail_builtinR (x := w) pl.isList.typeIs slot_list_getitem.lookup
      (wpAny_getItem_list_neg (Q := fun r s' => r = w ∧ EP X pins σ Q r s') pl.isList (by omega) (by rw [List.size_toArray] <;> omega) (by omega) (by rw [hj]; simpa using ew) ⟨rfl, fin⟩) hs
theorem ix_tup : IxR X (rIxT X.K) := by
  intro value slice pins s σ H x y v u Q I rx ry h hs
  obtain ⟨p, xs, i, z, rfl, rfl, hq, he, q⟩ := h
  cases rx
  obtain ⟨t, rfl⟩ := ry
  obtain ⟨its, r, pl, hz⟩ := I.tuple hq
  obtain ⟨j, h1, h2, h3, h4, h5⟩ := atI_get he
  obtain ⟨w, ew, rw'⟩ := r.get h2
  have hl := r.length
  have hn := line63
  have fin : EP X pins σ Q w s := ⟨z, H, I, rw', q⟩
  exact subscriptTail_builtinR (x := w) pl.typeIs slot_tuple_getitem.lookup
    (getItem_tuple (j := j) (Q := fun r s' => r = w ∧ EP X pins σ Q r s') pl (by omega) (by omega) (by rw [List.size_toArray, ← hl]; exact h1) (by simpa using ew) ⟨rfl, fin⟩) hs
theorem ix_str : IxR X rIxS := by
  intro value slice pins s σ H x y v u Q I rx ry h hs
  obtain ⟨z, i, c, rfl, rfl, hz, he, q⟩ := h
  obtain ⟨t, rfl⟩ := rx
  obtain ⟨t', rfl⟩ := ry
  obtain ⟨j, h1, h2, h3, h4, h5⟩ := atI_get he
  have hl : z.cps.toList.length = z.length := by simp [Str.length]
  rw [hl] at h1 h4 h5
  have hn := line63
  exact tail_any (typeIs_str s z t) slot_str_getitem.lookup (getItem_str (c := c) (by
    have e1 : decide (i < -(2 ^ 63 : Int)) = false := decide_eq_false (by omega)
    have e2 : decide (i ≥ 2 ^ 63) = false := decide_eq_false (by omega)
    rw [e1, e2, Bool.or_false]) (by rw [h1]; simpa using h2) ⟨.str ⟨#[c]⟩, H, I.tok _, ⟨_, rfl⟩, q⟩) hs
/-- list, tuple or str -/
def rIx (K : PySem.W.Frag) : R2 := fun x y H Q => rIxL K x y H Q ∨ rIxT K x y H Q ∨ rIxS x y H Q
/-! ### xs[i] = v, any sign -/
def rSetL : V → V → V → Hp → (Hp → Prop) → Prop := fun o i v H Q => ∃ p xs k j, o = .ref p ∧ i = .int k ∧ H p = some (.lst xs) ∧ ixN xs.length k = some j ∧ Q (upd H p (.lst (xs.set j v)))
/-! ### slices -/
theorem slice_bounds (lo hi : Option Int) (n : Nat) : (sliceBounds lo hi none n).1 = ((HT.sIx n 0 lo : Nat) : Int) ∧ (sliceBounds lo hi none n).2.1 = ((HT.sIx n n hi : Nat) : Int) ∧ (sliceBounds lo hi none n).2.2 = 1 := by
  refine ⟨?_, ?_, rfl⟩
  · cases lo with
    | none => simp [sliceBounds, HT.sIx]
    | some i =>
      simp only [sliceBounds, HT.sIx, Option.getD_none, show (1 : Int) > 0 by decide, if_true]
      by_cases h : i < 0
      · simp only [h, if_true] <;> omega
      · simp only [h, if_false] <;> omega
  · cases hi with
    | none => simp [sliceBounds, HT.sIx]
    | some i =>
      simp only [sliceBounds, HT.sIx, Option.getD_none, show (1 : Int) > 0 by decide, if_true]
      by_cases h : i < 0
      · simp only [h, if_true] <;> omega
      · simp only [h, if_false] <;> omega
theorem slicePick_cut (its : List Value) (lo hi : Option Int) : slicePick its.toArray lo hi none = ((its.drop (HT.sIx its.length 0 lo)).take (HT.sIx its.length its.length hi - HT.sIx its.length 0 lo)).toArray := by
  obtain ⟨h1, h2, h3⟩ := slice_bounds lo hi its.toArray.size
  unfold slicePick
  rw [h1, h2, h3]
  simp only [sliceRange_one, pick_run, List.size_toArray] <;> rfl
/-- xs[lo:hi] of a list: a new list -/
def rSlL (K : PySem.W.Frag) : V → Option Int → Option Int → Hp → VK → Prop := fun x lo hi H Q => ∃ a xs, x = .ref a ∧ SqL K H a xs ∧ ∀ p, H p = none → Q (.ref p) (upd H p (.lst (cutV xs lo hi)))
theorem sl_list : SlR X (rSlL X.K) := by
  intro pins s σ H x v vl vu lo hi sl Q I rx hs pl pu h
  obtain ⟨a, xs, rfl, hx, q⟩ := h
  cases rx
  obtain ⟨its, r, ht, hz⟩ := I.list hx
  have hlen := r.length
  refine ⟨"list", _, slot_list_getitem.lookup, ht.isList.typeIs, ?_⟩
  refine wpAny_getItem_list_slice ht.isList hs pl pu .none (by simp) ?_ (by rw [List.size_toArray] <;> omega)
  rw [slicePick_cut, ← hlen]
  refine ⟨.ref s.heap.objs.size, _, I.laid (t' := s.toks) (o := .lst (cutV xs lo hi)) (fun b ob q => Heap.get?_push_of_some _ q) (Nat.le_refl _) ?_, rfl, q _ (I.hok.fresh (Nat.le_refl _))⟩
  exact ⟨Nat.le_trans (cutV_length xs lo hi) hz, _, 0, (r.drop (HT.sIx xs.length 0 lo)).take (HT.sIx xs.length xs.length hi - HT.sIx xs.length 0 lo), Heap.get?_push_size _ rfl⟩

/-! ### in, not in: flat items -/
def flatV : V → Bool
  | .non => true
  | .bl _ => true
  | .int _ => true
  | .str _ => true
  | _ => false
/-- == of flat values -/
def eqV : V → V → Bool
  | .non, .non => true
  | .bl a, .bl b => a == b
  | .bl a, .int b => (if a then 1 else 0) == b
  | .int a, .bl b => a == (if b then 1 else 0)
  | .int a, .int b => a == b
  | .str a, .str b => a == b
  | _, _ => false
/-- the items' answers, read off the values (a value's own answer does not lean on its token) -/
def eqU (x : V) (u : Value) : Bool := match u with
  | .none => eqV .non x
  | .bool b => eqV (.bl b) x
  | .int i _ => eqV (.int i) x
  | .str z _ => eqV (.str z) x
  | _ => false
def inV (x : V) (xs : List V) : Bool := xs.any fun y => eqV y x
/-- x in a list or tuple of flat items -/
def rIn (K : PySem.W.Frag) (neg : Bool) : R2 := fun x y H Q => ∃ p xs, y = .ref p ∧ (SqL K H p xs ∨ SqT K H p xs) ∧ flatV x = true ∧ xs.all flatV = true ∧ Q (.bl (if neg then !inV x xs else inV x xs)) H
/-! ### len, list(x), tuple(x) of any list or tuple that is read -/
theorem call_len_seq : CallR X (.builtin "len") (fun xs H Q => ∃ p ys, xs = [.ref p] ∧ (SqL X.K H p ys ∨ SqT X.K H p ys) ∧ Q (.int ys.length) H) := by
  intro pins s σ H xs us Q I r h
  obtain ⟨p, ys, rfl, hq, q⟩ := h
  obtain ⟨u, rfl, rx⟩ := vals1 r
  cases rx
  have hn := line63
  rcases hq with hq | hq
  · obtain ⟨its, r', pl, hz⟩ := I.list hq
    have hlen := r'.length
    exact Calls.call_len_list pl.isList (by simp only [List.size_toArray] <;> omega) ⟨.int ys.length, H, I.tok _, ⟨s.toks + 1, by rw [List.size_toArray, hlen]⟩, q⟩
  · obtain ⟨its, r', pl, hz⟩ := I.tuple hq
    have hlen := r'.length
    exact len_tuple pl (by simp only [List.size_toArray] <;> omega) ⟨.int ys.length, H, I.tok _, ⟨s.toks + 1, by rw [List.size_toArray, hlen]⟩, q⟩
theorem call_len_str : CallR X (.builtin "len") (fun xs H Q => ∃ z, xs = [.str z] ∧ z.length ≤ sizeLine ∧ Q (.int z.length) H) := by
  intro pins s σ H xs us Q I r h
  obtain ⟨z, rfl, hz, q⟩ := h
  obtain ⟨u, rfl, t, rfl⟩ := vals1 r
  have hn := line63
  exact len_str (by omega) ⟨.int z.length, H, I.tok _, ⟨_, rfl⟩, q⟩
/-! ### the call of a builtin's method: o.m(..) -/
/-- the value is of that builtin type -/
def tyV (K : PySem.W.Frag) (T : String) (x : V) (H : Hp) : Prop := match x with
  | .str _ => T = "str"
  | .int _ => T = "int"
  | .ref p => (T = "list" ∧ ∃ xs, SqL K H p xs) ∨ (T = "tuple" ∧ ∃ o, K.lookup p = some o ∧ o.cls = .type "tuple" ∧ o.dict = none) ∨
      (T = "dict" ∧ ((∃ kvs, H p = some (.dK kvs)) ∨ ∃ kvs, H p = some (.dT kvs))) ∨ (T = "set" ∧ ∃ S n, H p = some (.set S n))
  | _ => False
theorem tyV_is {pins : List (Addr × Obj)} {σ : St} {H : Hp} {s : Shared} {T : String} {x : V} {v : Value} (I : Inv X pins σ H s) (r : RelV x v) (ty : tyV X.K T x H) :
    s.TypeIs v T ∧ ∀ a, v = .ref a → ∃ ob, s.heap.get? a = some ob ∧ ob.dict = none := by
  cases x with
  | str z =>
    obtain ⟨t, rfl⟩ := r
    cases (show T = "str" from ty)
    exact ⟨typeIs_str s z t, fun _ e => nomatch e⟩
  | int i =>
    obtain ⟨t, rfl⟩ := r
    cases (show T = "int" from ty)
    exact ⟨typeIs_int s i t, fun _ e => nomatch e⟩
  | ref p =>
    cases r
    rcases ty with ⟨rfl, xs, hq⟩ | ⟨rfl, o, hk, hc, hd⟩ | ⟨rfl, hk⟩ | ⟨rfl, S, n, hk⟩
    · obtain ⟨its, _, pl, _⟩ := I.list hq
      refine ⟨pl.isList.typeIs, fun a e => ?_⟩
      cases e
      obtain ⟨o, n, e, c, hd, _⟩ := pl
      exact ⟨o, e, hd⟩
    · refine ⟨⟨o, I.kIn p o hk, hc⟩, fun a e => ?_⟩
      cases e
      exact ⟨o, I.kIn _ o hk, hd⟩
    · have z : ∃ o, s.heap.get? p = some o ∧ o.ExactDict := by
        rcases hk with ⟨kvs, hk⟩ | ⟨kvs, hk⟩
        · obtain ⟨_, _, _, _, o, _, _, e, ex, _⟩ := I.hok p _ hk
          exact ⟨o, e, ex⟩
        · obtain ⟨_, _, _, _, o, _, _, e, ex, _⟩ := I.hok p _ hk
          exact ⟨o, e, ex⟩
      obtain ⟨o, e, ex⟩ := z
      refine ⟨⟨o, e, ex.1⟩, fun a e2 => ?_⟩
      cases e2
      exact ⟨o, e, ex.2.1⟩
    · obtain ⟨o, _, _, _, e, ex, _⟩ := I.hok p _ hk
      refine ⟨⟨o, e, ex.1⟩, fun a e2 => ?_⟩
      cases e2
      exact ⟨o, e, ex.2.1⟩
  | _ => exact False.elim ty
def tBM0 (K : PySem.W.Frag) (T : String) (r : V → List V → Hp → VK → Prop) (to : TE) : TE := fun σ H Q => to σ H fun x H1 => tyV K T x H1 ∧ r x [] H1 Q
def tBM (K : PySem.W.Frag) (T : String) (r : V → List V → Hp → VK → Prop) (to : TE) (t : TA) : TE := fun σ H Q => to σ H fun x H1 => tyV K T x H1 ∧ t σ H1 fun xs H2 => r x xs H2 Q
variable {o e : Expr} {es : List Expr} {to : TE} {t : TA} {name : Str} {apos cpos : Pos} {T id : String} {r : V → List V → Hp → VK → Prop}
theorem pe_bm0 (pa : PlainAttrs T) (slot : Slot T name id) (hty : typeOf (.builtin id) = pure (.type "method_descriptor")) (hm : MtR X id r) (ho : PE X o to)
    (hbase : attributeBase o name X.env (eval o X.env) = eval o X.env := by rfl) (hline : (apos.endLine == cpos.line) = true := by rfl) : PE X (.Call (.Attribute o name apos) [] [] cpos) (tBM0 X.K T r to) := by
  intro pins s σ H Q I h
  refine wpAny_Call_method0_late hbase hline (thn (ho pins s σ H _ I h) fun v s1 ⟨x, H1, I1, r1, ty, q1⟩ => ?_)
  obtain ⟨h1, h2⟩ := tyV_is I1 r1 ty
  exact ⟨T, id, pa, slot, hty, h1, h2, Calls.callWith_builtin rfl (PySem.evalArgs_none (hm pins s1 σ H1 x [] v [] Q I1 r1 .nil q1))⟩
theorem pe_bm (pa : PlainAttrs T) (slot : Slot T name id) (hty : typeOf (.builtin id) = pure (.type "method_descriptor")) (hm : MtR X id r) (ho : PE X o to) (ha : PA X (e :: es) t)
    (hbase : attributeBase o name X.env (eval o X.env) = eval o X.env := by rfl)
    (hfew : ((backTo cpos (starEach (e :: es) X.env)).all (fun x => !x.1) && (backToKw cpos (keywordEach [] X.env)).all (fun x => x.1.isSome)
      && decide ((e :: es).length + ([] : List Keyword).length + (if ([] : List Keyword).isEmpty then 0 else 1) < 30)) = true := by rfl)
    (hline : (apos.endLine == cpos.line) = true := by rfl) (hs : starEach (e :: es) X.env = (false, eval e X.env) :: starEach es X.env := by rfl) (hplain : (backTo cpos (starEach es X.env)).any (·.1) = false := by rfl) :
    PE X (.Call (.Attribute o name apos) (e :: es) [] cpos) (tBM X.K T r to t) := by
  intro pins s σ H Q I h
  refine wpAny_Call_method_late hbase hfew hline rfl (thn (ho pins s σ H _ I h) fun v s1 ⟨x, H1, I1, r1, ty, q1⟩ => ?_)
  obtain ⟨h1, h2⟩ := tyV_is I1 r1 ty
  refine ⟨T, id, pa, slot, hty, h1, h2, ?_⟩
  have hA := ha cpos pins s1 σ H1 _ I1 q1
  rw [hs] at hA ⊢
  refine Calls.callWith_builtin (by show (false || (backTo cpos (starEach es X.env)).any (·.1)) = false; rw [hplain] <;> rfl) (Calls.evalArgs_plain ?_)
  exact thn hA fun us s2 ⟨vs, H2, I2, r2, q2⟩ => hm pins s2 σ H2 x vs v us Q I2 r1 r2 q2
/- xs.append(e), list.index on a module's tuple .. are MtR facts of 06m -/
end
end L2

namespace L2
open PySem PySem.Spec PyProof.Rows

def MtM (X : Cx) (id : String) (r : V → List V → Hp → VK → Prop) : Prop :=
  ∀ (pins : List (Addr × Obj)) (s : Shared) (σ : St) (H : Hp) (x : V) (xs : List V) (v : Value) (us : List Value) (Q : VK), Inv X pins σ H s → RelV x v → Vals xs us → r x xs H Q →
    wpAny (model X.prog X.w) X.A (call (.builtin id) (v :: us)) (EP X pins σ Q) X.xe s

/-! ### lists of values -/
section
variable {X : Cx} {pins : List (Addr × Obj)} {σ : St} {H : Hp} {s : Shared} {l b : Addr} {xs ys zs : List V}

/-! ### the two steps: a tracked list is rewritten, a new list is laid -/
theorem Inv.lnew {its : List Value} {t' : Nat} (I : Inv X pins σ H s) (hv : Vals ys its) (hz : ys.length ≤ sizeLine) :
    Inv X pins σ (upd H s.heap.objs.size (.lst ys)) { s with heap := s.heap.push { cls := .type "list", data := .seq its.toArray }, toks := t' } :=
  I.laid (fun _ _ q => Heap.get?_push_of_some _ q) (Nat.le_refl _) ⟨hz, its, 0, hv, Heap.get?_push_size _ rfl⟩
theorem Inv.fresh (I : Inv X pins σ H s) : H s.heap.objs.size = none := I.hok.fresh (Nat.le_refl _)
theorem Inv.lstM (I : Inv X pins σ H s) (hH : H l = some (.lst xs)) : xs.length ≤ sizeLine ∧ ∃ (its : List Value) (n : Nat), Vals xs its ∧ xs.length = its.length ∧ s.heap.get? l = some { cls := .type "list", data := .seq its.toArray n } := by
  obtain ⟨z, its, n, r, e⟩ := I.hok l _ hH
  exact ⟨z, its, n, r, r.length, e⟩

end

section
variable {X : Cx}

/-! ### methods -/
def rAppend : V → List V → Hp → VK → Prop := fun x vs H Q => ∃ l xs y, x = .ref l ∧ vs = [y] ∧ H l = some (.lst xs) ∧ xs.length < sizeLine ∧ Q .non (upd H l (.lst (xs ++ [y])))
def rExtend : V → List V → Hp → VK → Prop := fun x vs H Q => ∃ l b xs zs, x = .ref l ∧ vs = [.ref b] ∧ H l = some (.lst xs) ∧ H b = some (.lst zs) ∧ xs.length + zs.length ≤ sizeLine ∧ Q .non (upd H l (.lst (xs ++ zs)))
def rPop : V → List V → Hp → VK → Prop := fun x vs H Q => ∃ l xs y, x = .ref l ∧ vs = [] ∧ H l = some (.lst xs) ∧ xs[xs.length - 1]? = some y ∧ Q y (upd H l (.lst xs.dropLast))
def rPopAt : V → List V → Hp → VK → Prop := fun x vs H Q => ∃ l xs i k y, x = .ref l ∧ vs = [.int i] ∧ H l = some (.lst xs) ∧ -(2 ^ 63) ≤ i ∧ i < 2 ^ 63 ∧ seqIndex? i xs.length = some k ∧ xs[k]? = some y ∧ Q y (upd H l (.lst (xs.eraseIdx k)))
def rReverse : V → List V → Hp → VK → Prop := fun x vs H Q => ∃ l xs, x = .ref l ∧ vs = [] ∧ H l = some (.lst xs) ∧ Q .non (upd H l (.lst xs.reverse))
def rClear : V → List V → Hp → VK → Prop := fun x vs H Q => ∃ l xs, x = .ref l ∧ vs = [] ∧ H l = some (.lst xs) ∧ Q .non (upd H l (.lst []))
/-! ### list + list, list += list, list * int -/
def rCat : R2 := fun x y H Q => ∃ l b xs zs, x = .ref l ∧ y = .ref b ∧ H l = some (.lst xs) ∧ H b = some (.lst zs) ∧ xs.length + zs.length ≤ sizeLine ∧ ∀ p, H p = none → Q (.ref p) (upd H p (.lst (xs ++ zs)))
theorem op_cat : OpR X (binaryOp .Add) rCat := by
  intro pins s σ H x y v u Q I rx ry h
  obtain ⟨l, b, xs, zs, rfl, rfl, hH, hB, hz, q⟩ := h
  cases rx
  cases ry
  obtain ⟨z, its, n, r, hl, e⟩ := I.lstM hH
  obtain ⟨z2, its2, n2, r2, hl2, e2⟩ := I.lstM hB
  refine PySem.P.add_list e e2 ?_ (by rw [List.size_toArray, List.size_toArray]; omega)
  have ea : its.toArray ++ its2.toArray = (its ++ its2).toArray := by simp
  rw [ea]
  exact ⟨.ref _, _, I.lnew (t' := s.toks) (r.append r2) (by rw [List.length_append]; omega), rfl, q _ I.fresh⟩
/-- a list times an int (a negative one is nothing) -/
def rRep : R2 := fun x y H Q => ∃ l k xs, x = .ref l ∧ y = .int k ∧ H l = some (.lst xs) ∧ -(2 ^ 63) ≤ k ∧ k < 2 ^ 63 ∧ xs.length * k.toNat ≤ sizeLine ∧
  ∀ p, H p = none → Q (.ref p) (upd H p (.lst (List.replicate k.toNat xs).flatten))
/-! ### del xs[i] -/
end

/-! ### xs[a:b] = ys -/
section
variable {prog : Program} {w : World} {A : Around} {E : Value → Shared → Prop} {s : Shared}
end

section
variable {X : Cx}
end
end L2

namespace Att
open PySem PySem.W PySem.Calls PyProof.Rows

/-! ### the script -/
theorem ints_of_wellAll {P : Params} {h : Heap} : ∀ (ns : List Int) (vs : List Value), WellAll P h vs (ns.map WData.int) → IntsAre vs ns := by
  intro ns
  induction ns with
  | nil =>
    intro vs w
    rw [List.map_nil] at w
    cases w
    exact .nil
  | cons n ns ih =>
    intro vs w
    rw [List.map_cons] at w
    cases w with
    | cons a b =>
      cases a
      exact .cons _ _ (ih _ b)

theorem script_of {l : OpenLaw} {n : Nat} (hn : l.most = some n) {P : Params} {h : Heap} {args : List WData} {vals : List Value}
    (hpre : l.row.toRowW.claim.pre args = true) (hwl : WellAll P h vals args) :
    ∃ a vs ns, vals = [Value.ref a] ∧ args = [WData.list (ns.map WData.int)] ∧ h.get? a = some { cls := .type "list", data := .seq vs.toArray } ∧ IntsAre vs ns ∧ ns.length ≤ n := by
  have hsh : WShape.hasAll [] args [.list .int] = true := (pre_splitW hpre).1
  have hc : l.pre.holds [] { args := args } = true := (pre_splitW hpre).2
  obtain ⟨d, r, rfl, h1, h2⟩ := hasAllW_cons hsh
  obtain rfl := hasAllW_nil h2
  obtain ⟨xs, rfl, h3⟩ := hasW_list h1
  obtain ⟨ns, rfl⟩ := items_int h3
  have hlen : ns.length ≤ n := by
    unfold OpenLaw.pre at hc
    have h4 : (WTm.not (.lt (.lit (.int (n : Int))) (.len (.arg 0)))).holds [] { args := [.list (ns.map .int)] } = true := by
      have h4 := (holds_andW hc).1
      rw [hn] at h4
      exact h4
    have h5 := condW_of h4 (w_not (w_lt w_lit (w_len_list (w_arg rfl))))
    rw [List.length_map] at h5
    refine Nat.le_of_not_lt fun q => ?_
    have q' : (n : Int) < ((ns.length : Nat) : Int) := by omega
    first
      | (rw [decide_eq_true q'] at h5; exact absurd h5 (by decide))
      | (simp at h5; omega)
  cases hwl with
  | cons w1 w2 =>
    cases w2
    cases w1 with
    | list ho hall => exact ⟨_, _, ns, rfl, rfl, ho, ints_of_wellAll ns _ hall, hlen⟩

theorem post_true (l : OpenLaw) (args : List WData) : l.row.toRowW.claim.post args (.bool true) args = true :=
  postW_of (r := l.row.toRowW) (X := (true == true))
    (show WShape.has [] (.bool true) .bool = true by first | rfl | decide | simp [WShape.has, WShape.arms, WShape.armsAll])
    (show (WTm.eq .res (.lit (.bool true))).value [] { args := args, res := some (.bool true), after := args } = some (.bool (true == true)) from w_eq_bool (w_res rfl) w_lit) rfl

/-! ### the attachment: holds_open's last premise (the goal 'hc' behind k_head) from a wpAny of the law's body -/
/-- the same from a codeAny of the CALL (for a layer whose function contracts speak of calls) -/
theorem attach_call {l : OpenLaw} {n : Nat} {q : Program} {loose : List Str} {XP : (Str → Option Value) → Heap → Prop} {YP : World → Heap → Prop} {d : DefRec}
    (hn : l.most = some n) (hdf : d.params.defaults = [])
    (call : ∀ (w : World) (s₀ s₁ : Shared) (mg mb : Str → Option Value) (fa : Addr) (o : Obj) (pm cd doc : Value) (a : Addr) (vs : List Value) (ns : List Int),
      Ground q loose [] XP w s₀ mg mb s₁.heap → YP w s₁.heap →
      s₁.heap.get? fa = some o → o.data = .func (docDef d.name d.params d.body d.scope pm cd doc) → s₁.heap.CodeRec cd d.name → mg d.name = some (.ref fa) →
      s₁.heap.get? a = some { cls := .type "list", data := .seq vs.toArray } → IntsAre vs ns → ns.length ≤ n → s₁.gens = #[] →
      codeAny (model l.prog w) callerA (.call (.ref fa) ⟨[.ref a], []⟩) (fun r s' => r = .ok (.ret (.bool true)) ∧ OldK s₁.heap s'.heap ∧ s'.os = s₁.os ∧ AllBare s'.gens) s₁) :
    WalkO q loose XP YP l.row.toRowW d [] (fun f vs => PySem.call f vs) := by
  intro w s₀ s₁ mg mb G Y fa o pm cd doc dV kV ho hd hcd hD hmg hg args vals as hpre hlay hrd hwl hlo
  obtain rfl : dV = .none := Dflts.none hD hdf
  obtain rfl : kV = .none := Dflts.noKw hD
  obtain ⟨a, vs, ns, rfl, rfl, hobj, hints, hlen⟩ := script_of hn hpre hwl
  refine enter_call (codeAny_mono (call w s₀ s₁ mg mb fa o pm cd doc a vs ns G Y ho (fd_plain hd) hcd hmg hobj hints hlen hg) fun r s' hq => ?_)
  obtain ⟨rfl, h2, h3, h4⟩ := hq
  exact ⟨.inl ⟨.bool true, .bool true, [], rfl, fun _ => rfl, .bool true, post_true l _, fun _ => ⟨List.Pairwise.nil, fun _ hm => (nomatch hm)⟩⟩, h2, h3, h4⟩

/-! ### rules over ANY heap (no ledger) from facts about the written part K: the library's own take a ledger (News) for what they write -/
section
variable {prog : Program} {w : World} {A : Around} {E : Value → Shared → Prop} {s : Shared} {K : Frag}

/-! the whole heap as the ledger: makes every rule that writes through a ledger a rule over any heap -/
def noObjs (h : Heap) : Heap := { h with objs := #[] }
def ledger (h : Heap) (L d : Addr) : List (Addr × Obj) := (List.range h.objs.size).filterMap fun a => if a = L ∨ a = d then none else (h.get? a).map fun o => (a, o)
end
end Att

namespace L2
open PySem PySem.Spec PyProof.Rows

theorem vals_ints : ∀ {vs : List Value} {ns : List Int}, IntsAre vs ns → Vals (ns.map V.int) vs
  | _, _, .nil => .nil
  | _, _, .cons n t h => .cons ⟨t, rfl⟩ (vals_ints h)

/-- nothing is tracked but the script, known to the object (or it is an object of the module) -/
def Only (H : Hp) : Prop := ∀ b, H b = none ∨ ∃ o xs, H b = some (.frz o (.lst xs))

/-- THE HEAD: the law's promise, at the heap behind the top. F, the promise of the law's def, may use that base is part of the heap (so K.In base, base.Ns mainGlobals mg stand in Mod) -/
theorem law_call {P : Program} {w : World} {K : PySem.W.Frag} {mg mb : Str → Option Value} {CX : CXT} {k : Nat} {fa a : Addr} {fd : FuncData} {x : Str} {sp : Sp} {s₁ : Shared} {vs : List Value} {ns : List Int}
    (KX : K.In s₁.heap) (hns : s₁.heap.Ns mainGlobals mg) (hb : s₁.heap.Ns builtinsNs mb) (hbb : ∀ x : Str, x ≠ "__name__" → mb x = bootBuiltins x) (hlim : s₁.heap.NoLimit) (hg : s₁.gens = #[])
    (ha : s₁.heap.get? a = some { cls := .type "list", data := .seq vs.toArray }) (hi : IntsAre vs ns) (hl : ns.length ≤ sizeLine) (hr : Room k callerA)
    (F : ∀ base : Heap, K.In base → base.Ns mainGlobals mg → FnOk P w K mg base CX k fa fd [x] sp) (hbind : ∀ (s : Shared) (u : Value), BindsTo s fd ⟨[u], []⟩ [(x, u)])
    (hsp : ∀ H : Hp, Only H → SqL K H a (ns.map V.int) → sp [.ref a] H (fun v _ => v = .bl true) fun _ _ _ => False)
    (hCX : ∀ H e s', CX [] H s₁ (fun _ _ _ => False) e s' → False) :
    codeAny (model P w) callerA (.call (.ref fa) ⟨[.ref a], []⟩) (fun r s' => r = .ok (.ret (.bool true)) ∧ OldK s₁.heap s'.heap ∧ s'.os = s₁.os ∧ AllBare s'.gens) s₁ := by
  have rv := vals_ints hi
  have lenV := hi.length
  -- from an abstract heap in which nothing but the script may be tracked
  have core : ∀ H : Hp, Only H → SqL K H a (ns.map V.int) → HOk P w H s₁.heap → (∀ b, H b ≠ none → b = a) → (H a ≠ none → K.lookup a = none) →
      codeAny (model P w) callerA (.call (.ref fa) ⟨[.ref a], []⟩) (fun r s' => r = .ok (.ret (.bool true)) ∧ OldK s₁.heap s'.heap ∧ s'.os = s₁.os ∧ AllBare s'.gens) s₁ := by
    intro H hO hS hok hA hK
    have base_of : ∀ {b : Addr} {o : Obj}, s₁.heap.get? b = some o → H b = none → (hidT s₁.heap H).get? b = some o := fun e n => hidT_get e n
    have noA : ∀ {b : Addr} {o : Obj} {es : Array DictEntry} {ep : Nat}, s₁.heap.get? b = some o → o.data = .dict es ep → H b = none := fun {b o es ep} e d => by
      cases q : H b with
      | none => rfl
      | some u =>
        have e' : b = a := hA b (by rw [q]; simp)
        subst e'
        rw [ha] at e; cases e
        have d' : Data.seq vs.toArray _ = Data.dict es ep := d
        cases d'
    have nsK : ∀ {b : Addr} {m : Str → Option Value}, s₁.heap.Ns b m → (hidT s₁.heap H).Ns b m := fun {b m} ⟨o, es, ep, e, d, r⟩ => ⟨o, es, ep, base_of e (noA e d), d, r⟩
    have hKb : K.In (hidT s₁.heap H) := fun b o e => base_of (KX b o e) (by
      cases q : H b with
      | none => rfl
      | some u =>
        have e' : b = a := hA b (by rw [q]; simp)
        subst e'
        rw [hK (by rw [q]; simp)] at e; cases e)
    have hM : Mod K mg (hidT s₁.heap H) := ⟨hKb, nsK hns, ⟨mb, nsK hb, hbb⟩, let ⟨mc, h1, h2⟩ := hlim; ⟨mc, nsK h1, h2⟩⟩
    have e0 : Env0 P w K mg (hidT s₁.heap H) callerA [] s₁ H := ⟨rfl, hM, fun b o e => of_hidT e, Nat.le_of_eq (hidT_size _ _), trivial, fun b hb => absurd (show b ∈ ([] : List Addr) from hb) (by simp), hok, .of_eq hg⟩
    refine codeAny_mono ((F _ hKb (nsK hns)).run callerA [] s₁ H ⟨[.ref a], []⟩ [.ref a] [.ref a] _ _ hr e0 (hbind s₁ (.ref a)) (.cons rfl .nil) (hsp H hO hS)) fun r s' h => ?_
    cases r with
    | error e => exact (hCX H e s' h).elim
    | ok fl =>
      cases fl with
      | next => exact False.elim h
      | brk => exact False.elim h
      | cont => exact False.elim h
      | ret u =>
        obtain ⟨v, H', os, bare, un, hok', r', q⟩ := h
        have q' : v = .bl true := q
        subst q'
        obtain rfl : u = Value.bool true := r'
        refine ⟨rfl, OldK.of_keep fun b o e => ?_, os, bare⟩
        cases q : H b with
        | none => exact un.keep b o e q (by intro z; exact absurd (show b ∈ ([] : List Addr) from z) (by simp)) (by simp)
        | some u =>
          rcases hO b with z | ⟨ob, xs, z⟩
          · rw [q] at z; cases z
          · have z2 := un.frzs b ob _ z
            obtain ⟨e1, _⟩ := hok b _ z
            obtain ⟨e2, _⟩ := hok' b _ z2
            rw [e] at e1; cases e1
            exact e2
  cases hk : K.lookup a with
  | some o =>
    -- the script is one of the module's own objects
    have e := KX a o hk
    rw [ha] at e
    cases e
    refine core (fun _ => none) (fun _ => .inl rfl) (.inr ⟨_, vs.toArray, _, hk, rfl, rfl, rfl, by rw [List.size_toArray, lenV]; exact hl, by simpa using rv⟩) (fun b u z => by have z' : (none : Option HO) = some u := z; cases z') (fun b z => absurd rfl z) fun z => absurd rfl z
  | none =>
    refine core (fun b => if b = a then some (.frz { cls := .type "list", data := .seq vs.toArray } (.lst (ns.map V.int))) else none) (fun b => ?_) (.inl (.inr ⟨{ cls := .type "list", data := .seq vs.toArray }, if_pos rfl⟩)) (fun b u z => ?_) (fun b z => ?_) fun _ => hk
    · by_cases hb : b = a
      · exact .inr ⟨_, _, if_pos hb⟩
      · exact .inl (if_neg hb)
    · by_cases hb : b = a
      · have z' := (if_pos hb).symm.trans z
        cases z'
        subst hb
        exact ⟨ha, by rw [List.length_map]; exact hl, vs, _, rv, ha⟩
      · have z' := (if_neg hb).symm.trans z
        cases z'
    · by_cases hb : b = a
      · exact hb
      · exact absurd (if_neg hb) z
end L2

namespace L2
open PySem PySem.Spec PyProof.Rows

abbrev KOf {K : PySem.W.Frag} {h : Heap} (_ : K.In h) : PySem.W.Frag := K

/-- the goal that k_head leaves (case hc), from the law's promise. F gives the function object fd (K's own) once, then the promise over every base -/
theorem walk_of {l : PySem.W.OpenLaw} {n k : Nat} {q : Program} {loose : List Str} {XP : (Str → Option Value) → Heap → Prop} {YP : World → Heap → Prop} {d : DefRec} {K : Params → PySem.W.Frag} {CX : World → CXT} {sp : World → Sp} {x : Str}
    (hn : l.most = some n) (hn2 : n ≤ sizeLine) (hdf : d.params.defaults = []) (hr : Room k callerA)
    (hY : ∀ (w : World) (h : Heap), YP w h → (K w.params).In h)
    (F : ∀ (w : World) (mg : Str → Option Value) (fa : Addr) (h : Heap), (K w.params).In h → h.Ns mainGlobals mg → mg d.name = some (.ref fa) →
      ∃ fd : FuncData, (∀ (s : Shared) (u : Value), BindsTo s fd ⟨[u], []⟩ [(x, u)]) ∧
        ∀ base : Heap, (K w.params).In base → base.Ns mainGlobals mg → FnOk l.prog w (K w.params) mg base (CX w) k fa fd [x] (sp w))
    (hsp : ∀ (w : World) (H : Hp) (a : Addr) (ns : List Int), ns.length ≤ n → Only H → SqL (K w.params) H a (ns.map V.int) → sp w [.ref a] H (fun v _ => v = .bl true) fun _ _ _ => False)
    (hCX : ∀ (w : World) (H : Hp) (s : Shared) (e : Value) (s' : Shared), CX w [] H s (fun _ _ _ => False) e s' → False) :
    PySem.W.WalkO q loose XP YP l.row.toRowW d [] (fun f vs => PySem.call f vs) := by
  refine Att.attach_call hn hdf fun w s₀ s₁ mg mb fa o pm cd doc a vs ns G Y ho hd hcd hmg hobj hints hlen hg => ?_
  have KX := hY w _ Y
  obtain ⟨fd, hb, hF⟩ := F w mg fa _ KX G.T.g hmg
  exact law_call KX G.T.g G.T.b G.T.builtins G.T.nolimit hg hobj hints (Nat.le_trans hlen hn2) hr hF hb (fun H hO hS => hsp w H a ns hlen hO hS) fun H e s' => hCX w H s₁ e s'
end L2

/- THE LAST THEOREM (shape; LID, My.* are yours):
   My.Adr: a structure of the addresses that your layer names (classes, functions); My.Txt K t: a structure (Prop) of the equations over K;
   My.txt_mk : {K} {implicit addresses ..} (e1 : nsIn K mainGlobals "law" = some (some (.ref f))) (e2 : K.lookup f = some ⟨oc, od, .func (fnOf "law" "law" params body scope dV kV doc pm an cdv ct), sl⟩) (e3 : codeIn K cdv "law" = true) .. : ∃ t, My.Txt K t

set_option maxRecDepth 100000 in
set_option maxHeartbeats 0 in
theorem PySem.Challenge.cw_LID_holds : PySem.Challenge.rw_LID.Holds := by
  w_on; o_law; k_head; (case hw => w_witness2)
  k_fill
  refine L2.walk_of (l := PySem.Challenge.rw_LID) (n := 63) (k := 40) (x := "script") (CX := fun w => ..) (sp := fun _ => My.sp_law) rfl (by decide) rfl ⟨rfl, by decide, by decide⟩ (fun w h Y => PySem.W.kIn_of Y) ?F ?S ?C
  case F =>
    intro w mg fa h KX G hmg
    have T : ∃ t, My.Txt (L2.KOf KX) t := by
      dsimp only [L2.KOf]                          -- K must stand as «<heap const> w.params» for k_is
      refine' My.txt_mk ?e1 ?e2 ?e3 ..
      (case e1 => PySem.W.k_is)                    -- in the order: a name -> its address -> its object -> its parts
      (case e2 => PySem.W.k_is)
      ..
    obtain ⟨t, T⟩ := T
    have e0 := hmg.symm.trans (PySem.W.mg_of KX G T.law)
    cases e0                                       -- fa is the law's own address
    exact ⟨_, fun s u => .of_eq rfl, fun base kb nb => My.law_fn T kb nb⟩     -- if «.of_eq rfl» comes too early: refine' ⟨_, ?b, fun base kb nb => My.law_fn T kb nb⟩; exact fun s u => .of_eq rfl
  case S => exact fun w H a ns hl hO hS => ..
  case C => exact ..
(the tactic k_is has no namespace: write k_is) -/

/-! SHORT WORDS over the layer: a def of the text, its body, what a loop and a test want. -/
namespace L2
open PySem PySem.Spec PyProof.Rows

/-! ### the text by places -/
/-- the j-th statement of a class's body -/
def inClass (s : Stmt) (j : Nat) : Stmt := match s with
  | .ClassDef _ _ _ body _ _ _ _ _ _ _ => body.getD j (.Pass ⟨0, 0, 0, 0⟩)
  | _ => .Pass ⟨0, 0, 0, 0⟩
def defArgs (s : Stmt) : Arguments := match s with
  | .FunctionDef _ a _ _ _ _ _ _ _ _ => a
  | _ => { posonlyargs := [], args := [], vararg := none, kwonlyargs := [], kw_defaults := [], kwarg := none, defaults := [] }
def defBody (s : Stmt) : List Stmt := match s with
  | .FunctionDef _ _ b _ _ _ _ _ _ _ => b
  | _ => []
def defScope (s : Stmt) : Scope := match s with
  | .FunctionDef _ _ _ _ _ _ sc _ _ _ => sc
  | _ => { kind := .function, names := [], isGenerator := false, isCoroutine := false }

/-! ### no exception leaves a def -/
abbrev CX0 : CXT := fun _ _ _ _ _ _ => False
abbrev E0 : XK := fun _ _ _ => False
theorem pass0 {X : Cx} : Passes CX0 X E0 := fun _ _ _ _ _ _ _ h => h.elim

/-! ### a def (or method) of the text as it stands behind the top -/
structure Fun (K : PySem.W.Frag) (x qual : Str) (st : Stmt) (f : Addr) (fd : FuncData) : Prop where
  ex : ∃ (oc : Value) (od : Option Addr) (kV doc pm : Value) (an : Option Addr) (cdv ct : Value) (osl : Array (Option Value)),
    fd = PySem.W.fnOf x qual (defArgs st) (defBody st) (defScope st) .none kV doc pm an cdv ct ∧ K.lookup f = some ⟨oc, od, .func fd, osl⟩ ∧ PySem.W.codeIn K cdv qual = true
  kp : PySem.W.keepIn K (.ref f) = true
section
variable {P : Program} {w : World} {K : PySem.W.Frag} {mg : Str → Option Value} {base : Heap}
/-- THE RULE for a def: its body as a term of rules, and the reading of that term -/
theorem Fun.ok {x qual : Str} {st : Stmt} {f : Addr} {fd : FuncData} {N ps : List Str} {k : Nat} {sp : Sp} (F : Fun K x qual st f fd) (S : FnScope N ps (defScope st)) (len : ∀ vs H Q E, sp vs H Q E → vs.length = ps.length)
    (hbody : ∀ (cdv : Value) (A : Around) (outer : List Env) (s : Shared) (H : Hp) (vs : List V) (Q : VK) (E : XK), Room k (A.deeper (envOfC qual (defScope st) s.heap.objs.size f cdv)) → sp vs H Q E →
      ∃ t, PSs (cxOf CX0 P w K mg base N qual (defScope st) f cdv A outer s H E).nox (defBody st) t ∧ t { nx := fun _ H' => Q .non H', rt := Q } (start N vs) H) : FnOk P w K mg base CX0 (k + 1) f fd ps sp := by
  obtain ⟨oc, od, kV, doc, pm, an, cdv, ct, osl, rfl, lk, hcd⟩ := F.ex
  refine fn_of lk hcd S len fun A outer s H vs Q E hr hsp => ?_
  obtain ⟨t, h, q⟩ := hbody cdv A outer s H vs Q E hr hsp
  exact ⟨t, h.nox, q⟩
/-- how its arguments bind (no defaults): h is «fun _ _ _ _ _ _ us hl => match us, hl with | [_, _], _ => rfl», one _ a parameter -/
theorem Fun.binds {x qual : Str} {st : Stmt} {f : Addr} {fd : FuncData} {ps : List Str} (F : Fun K x qual st f fd)
    (h : ∀ (kV doc pm : Value) (an : Option Addr) (cdv ct : Value) (us : List Value), us.length = ps.length → bindArgs (PySem.W.fnOf x qual (defArgs st) (defBody st) (defScope st) .none kV doc pm an cdv ct) ⟨us, []⟩ = pure (ps.zip us)) : Binds K fd ps [] := by
  obtain ⟨oc, od, kV, doc, pm, an, cdv, ct, osl, rfl, lk, hcd⟩ := F.ex
  exact .all (h kV doc pm an cdv ct)
theorem fun_mk {x qual : Str} {st : Stmt} {f : Addr} {oc : Value} {od an : Option Addr} {osl : Array (Option Value)} {kV doc pm cdv ct : Value} (l : K.lookup f = some ⟨oc, od, .func (PySem.W.fnOf x qual (defArgs st) (defBody st) (defScope st) .none kV doc pm an cdv ct), osl⟩)
    (c : PySem.W.codeIn K cdv qual = true) (k : PySem.W.keepIn K (.ref f) = true) : Fun K x qual st f (PySem.W.fnOf x qual (defArgs st) (defBody st) (defScope st) .none kV doc pm an cdv ct) := ⟨⟨oc, od, kV, doc, pm, an, cdv, ct, osl, rfl, l, c⟩, k⟩
end
/-! ### expressions in short: the name that stands in the i-th slot -/
section
variable {X : Cx}
theorem pv (i : Nat) {x : Str} {pos : Pos} (hN : X.N[i]? = some x := by rfl) (hv : Vis X.env.scope x := by first | exact Or.inl rfl | exact Or.inr (Or.inl rfl) | exact Or.inr (Or.inr rfl)) (hd : (x == ("__debug__" : Str)) = false := by decide)
    (hcd : (x == ("__classdict__" : Str)) = false := by decide) : PE X (.Name x pos) (tVar i) := pe_var hN hv hd hcd
end

/-! ### tests -/
theorem iteF {A B : Prop} (h : B) : if false = true then A else B := by
  rw [if_neg Bool.false_ne_true]
  exact h
theorem iteT {A B : Prop} (h : A) : if true = true then A else B := by
  rw [if_pos rfl]
  exact h
theorem ite2 {c A B : Prop} [Decidable c] (h1 : c → A) (h2 : ¬ c → B) : if c then A else B := by
  by_cases h : c
  · rw [if_pos h]
    exact h1 h
  · rw [if_neg h]
    exact h2 h
theorem iteNS {c A B : Prop} [Decidable c] (hc : c) (h : B) : if (!decide c) = true then A else B := by
  rw [decide_eq_true hc]
  exact iteF h

/-! ### heaps -/
/-- all that was tracked is as it was -/
def Same (H H' : Hp) : Prop := ∀ b o, H b = some o → H' b = some o
theorem Same.refl (H : Hp) : Same H H := fun _ _ h => h
theorem Same.trans {H H1 H2 : Hp} (a : Same H H1) (b : Same H1 H2) : Same H H2 := fun c o h => b c o (a c o h)
theorem Same.seq {K : PySem.W.Frag} {H H' : Hp} {a : Addr} {xs : List V} (e : Same H H') (h : SqL K H a xs) : SqL K H' a xs := by
  rcases h with (h | ⟨o, h⟩) | h
  · exact .inl (.inl (e _ _ h))
  · exact .inl (.inr ⟨o, e _ _ h⟩)
  · exact .inr h

end L2

namespace L2
open PySem PySem.Spec PyProof.Rows

section
variable {X : Cx}
/-! ### more of texts, truths, kinds -/
theorem call_isinst : CallR X (.builtin "isinstance") (fun xs H Q => ∃ x t n b, xs = [x, .ty n] ∧ TyOf X.K H x t ∧ PySem.W.kitOne X.K t (.type n) = some b ∧ Q (.bl b) H) := by
  intro pins s σ H xs us Q I r h
  obtain ⟨x, t, n, b, rfl, ty, e, q⟩ := h
  obtain ⟨u, u2, rfl, rx, r2⟩ := vals2 r
  cases (show u2 = Value.type n from r2)
  exact isinst_ok I rx ty e fun tk => ⟨.bl b, H, I.tok _, rfl, q⟩
/-- isinstance of a value by a class of the program's own -/
theorem call_isinstC : CallR X (.builtin "isinstance") (fun xs H Q => ∃ x t C b, xs = [x, .ref C] ∧ TyOf X.K H x t ∧ PySem.W.kitOne X.K t (.ref C) = some b ∧ Q (.bl b) H) := by
  intro pins s σ H xs us Q I r h
  obtain ⟨x, t, C, b, rfl, ty, e, q⟩ := h
  obtain ⟨u, u2, rfl, rx, r2⟩ := vals2 r
  cases (show u2 = Value.ref C from r2)
  exact isinst_ok I rx ty e fun tk => ⟨.bl b, H, I.tok _, rfl, q⟩
theorem mt_startswith3 : MtR X "str.startswith" (fun x vs H Q => ∃ z y i, x = .str z ∧ vs = [.str y, .int i] ∧ Q (.bl (Txt.startswith3 z y i)) H) := by
  intro pins s σ H x xs v us Q I rx r h
  obtain ⟨z, y, i, rfl, rfl, q⟩ := h
  obtain ⟨t, rfl⟩ := rx
  obtain ⟨u, u2, rfl, ⟨t1, rfl⟩, ⟨t2, rfl⟩⟩ := vals2 r
  exact SC.startswith3 ⟨.bl _, H, I, rfl, q⟩
theorem mt_startswith : MtR X "str.startswith" (fun x vs H Q => ∃ z y, x = .str z ∧ vs = [.str y] ∧ Q (.bl (Txt.startswith z y)) H) := by
  intro pins s σ H x xs v us Q I rx r h
  obtain ⟨z, y, rfl, rfl, q⟩ := h
  obtain ⟨t, rfl⟩ := rx
  obtain ⟨u, rfl, ⟨t1, rfl⟩⟩ := vals1 r
  exact SC.startswith ⟨.bl _, H, I, rfl, q⟩
theorem mt_isdigit : MtR X "str.isdigit" (fun x vs H Q => ∃ z, x = .str z ∧ vs = [] ∧ Q (.bl (Txt.isdigit z)) H) := by
  intro pins s σ H x xs v us Q I rx r h
  obtain ⟨z, rfl, rfl, q⟩ := h
  obtain ⟨t, rfl⟩ := rx
  cases r
  exact SC.isdigit ⟨.bl _, H, I, rfl, q⟩
theorem call_int_text : CallR X (.type "int") (fun xs H Q => ∃ z n, xs = [.str z] ∧ PySem.intText? z = some n ∧ z.length ≤ 640 ∧ Q (.int n) H) := by
  intro pins s σ H xs us Q I r h
  obtain ⟨z, n, rfl, e, hl, q⟩ := h
  obtain ⟨u, rfl, ⟨t, rfl⟩⟩ := vals1 r
  exact PySem.W.KIN.call_text e hl ⟨.int n, H, I.tok _, ⟨_, rfl⟩, q⟩
/-- a text's cut -/
theorem sl_str : SlR X (fun x lo hi H Q => ∃ z, x = .str z ∧ z.length ≤ sizeLine ∧ Q (.str (Txt.slice z lo hi)) H) := by
  intro pins s σ H x v vl vu lo hi sl Q I rx hs pl pu h
  obtain ⟨z, rfl, hz, q⟩ := h
  obtain ⟨t, rfl⟩ := rx
  refine ⟨"str", _, F.slot_str_getitem.lookup, typeIs_str _ _ _, ?_⟩
  cases pl <;> cases pu
  · exact wpAny_getItem_str_slice (l := none) (u := none) (st := none) hs rfl (post_val_or_str ⟨Nat.le_trans (Txt.slice_le z _ _) hz, fun t' k => ⟨.str _, H, I.tok _, ⟨_, rfl⟩, q⟩⟩)
  · exact wpAny_getItem_str_slice (l := none) (u := some (_, _)) (st := none) hs rfl (post_val_or_str ⟨Nat.le_trans (Txt.slice_le z _ _) hz, fun t' k => ⟨.str _, H, I.tok _, ⟨_, rfl⟩, q⟩⟩)
  · exact wpAny_getItem_str_slice (l := some (_, _)) (u := none) (st := none) hs rfl (post_val_or_str ⟨Nat.le_trans (Txt.slice_le z _ _) hz, fun t' k => ⟨.str _, H, I.tok _, ⟨_, rfl⟩, q⟩⟩)
  · exact wpAny_getItem_str_slice (l := some (_, _)) (u := some (_, _)) (st := none) hs rfl (post_val_or_str ⟨Nat.le_trans (Txt.slice_le z _ _) hz, fun t' k => ⟨.str _, H, I.tok _, ⟨_, rfl⟩, q⟩⟩)
/-- all(a list of truths) -/
theorem call_all_bl (hc : X.calm = true) : CallR X (.builtin "all") (fun xs H Q => ∃ (p : Addr) (bs : List Bool), xs = [.ref p] ∧ SqL X.K H p (bs.map V.bl) ∧ Q (.bl (bs.all id)) H) := by
  intro pins s σ H xs us Q I r h
  obtain ⟨p, bs, rfl, hq, q⟩ := h
  obtain ⟨u, rfl, rx⟩ := vals1 r
  cases (show u = Value.ref p from rx)
  obtain ⟨its, rv, pl, hz⟩ := I.list hq
  have hl := pl.isList
  have hlt : p < s.heap.objs.size := by obtain ⟨_, e, _⟩ := hl; exact Heap.lt_size e
  have hh : X.A.handled = none := I.ok.hd hc
  have hlen : bs.length = its.length := by have := rv.length; rw [List.length_map] at this; exact this
  refine call_all_walk (wpAny_pyIter_list hl ?_)
  refine ⟨s.heap.objs.size, [s.heap.objs.size, p], [s.heap.objs.size], its.toArray.size, _, _, fun i => (bs[i]?).getD true, rfl, Walks.list (A := X.A.in1) hh _ p (Nat.ne_of_lt hlt) its.toArray,
    ⟨⟨_, Heap.get?_push_size _ rfl, rfl, rfl⟩, hl.push _⟩, fun i v s' Q' E' hP hQ => ?_, fun h' tk hk => ?_⟩
  · have hP' : its[i]? = some v := by simpa using hP
    have hi : i < its.length := (List.getElem?_eq_some_iff.mp hP').1
    have hb : (bs.map V.bl)[i]? = some (V.bl (bs[i]'(by omega))) := by rw [List.getElem?_map, List.getElem?_eq_getElem (by omega)]; rfl
    obtain ⟨u', e1, e2⟩ := rv.get hb
    rw [hP'] at e1
    cases e1
    cases (show v = Value.bool _ from e2)
    have hQ' : Q' ((bs[i]?).getD true) s' := hQ
    rw [List.getElem?_eq_getElem (by omega)] at hQ'
    exact wpAny_truthy_bool hQ'
  · have e : ((List.range its.toArray.size).all fun i => (bs[i]?).getD true) = bs.all id := by
      rw [List.size_toArray, ← hlen]; exact LSm.range_all bs
    rw [e]
    exact ⟨.bl _, H, I.kept (LSm.kept_iter hk), rfl, q⟩
/-- == of two lists of flat items -/
def eqVs : List V → List V → Bool
  | [], [] => true
  | x :: xs, y :: ys => eqV x y && eqVs xs ys
  | _, _ => false
end
end L2

namespace L2
open PySem PySem.Spec PyProof.Rows
/-! ### what a comprehension's block sees of the names around it -/
def cloOf (env : Env) : List (Str × NameKind) → List (Str × Addr) → List (Str × Addr)
  | [], cs => cs
  | (n, k) :: r, cs => cloOf env r (if k == .free then match env.cells.lookup n with | some a => (n, a) :: cs | none => cs else cs)
theorem closureFor_free {scope : Scope} {env : Env} (h : ∀ y ∈ scope.names, y.2 = .free → ∃ c, env.cells.lookup y.1 = some c) : closureFor scope env = pure (cloOf env scope.names []) := by
  have key : ∀ (l : List (Str × NameKind)) (cs : List (Str × Addr)), (∀ y ∈ l, y.2 = .free → ∃ c, env.cells.lookup y.1 = some c) →
      (forIn l cs (fun (x : Str × NameKind) (r : List (Str × Addr)) => (if (x.2 == NameKind.free) = true then (do let a ← cellOf env x.1; pure (ForInStep.yield ((x.1, a) :: r))) else pure (ForInStep.yield r) : Sem (ForInStep (List (Str × Addr)))))) = (pure (cloOf env l cs) : Sem _) := by
    intro l
    induction l with
    | nil => intro cs _; rfl
    | cons y r ih =>
      intro cs hy
      obtain ⟨n, k⟩ := y
      have hr : ∀ z ∈ r, z.2 = .free → ∃ c, env.cells.lookup z.1 = some c := fun z hz => hy z (List.mem_cons_of_mem _ hz)
      rw [List.forIn_cons]
      by_cases hk : (k == NameKind.free) = true
      · obtain ⟨c, hc⟩ := hy (n, k) List.mem_cons_self (by simpa using hk)
        have e : cellOf env n = pure c := by unfold cellOf; rw [hc]
        simp only [hk, if_true, e, pure_bind, cloOf, hc]
        exact ih _ hr
      · have hk' : (k == NameKind.free) = false := by simpa using hk
        simp only [hk', Bool.false_eq_true, if_false, pure_bind, cloOf]
        exact ih _ hr
  have e : closureFor scope env = (forIn scope.names ([] : List (Str × Addr)) (fun (x : Str × NameKind) (r : List (Str × Addr)) => (if (x.2 == NameKind.free) = true then (do let a ← cellOf env x.1; pure (ForInStep.yield ((x.1, a) :: r))) else pure (ForInStep.yield r) : Sem (ForInStep (List (Str × Addr))))) >>= fun cs => pure cs) := by
    unfold closureFor
    rfl
  rw [e, key scope.names [] h]
  all_goals rfl
theorem cloOf_sub {env : Env} : ∀ (l : List (Str × NameKind)) (cs : List (Str × Addr)), (∀ p ∈ cs, env.cells.lookup p.1 = some p.2) → ∀ p ∈ cloOf env l cs, env.cells.lookup p.1 = some p.2
  | [], cs, h, p, hp => h p hp
  | (n, k) :: r, cs, h, p, hp => by
    unfold cloOf at hp
    refine cloOf_sub r _ ?_ p hp
    split
    · split
      · rename_i a ea
        intro q hq
        rcases List.mem_cons.mp hq with e | hq
        · rw [e]; exact ea
        · exact h q hq
      · exact h
    · exact h
theorem cloOf_keeps {env : Env} : ∀ (l : List (Str × NameKind)) (cs : List (Str × Addr)) {y : Str}, (∃ p ∈ cs, p.1 = y) → ∃ p ∈ cloOf env l cs, p.1 = y
  | [], cs, y, h => h
  | (n, k) :: r, cs, y, ⟨p, hp, e⟩ => by
    unfold cloOf
    refine cloOf_keeps r _ ?_
    split
    · split
      · exact ⟨p, List.mem_cons_of_mem _ hp, e⟩
      · exact ⟨p, hp, e⟩
    · exact ⟨p, hp, e⟩
theorem cloOf_has {env : Env} : ∀ (l : List (Str × NameKind)) (cs : List (Str × Addr)) {y : Str} {c : Addr}, (y, NameKind.free) ∈ l → env.cells.lookup y = some c → ∃ p ∈ cloOf env l cs, p.1 = y
  | (n, k) :: r, cs, y, c, hm, hc => by
    unfold cloOf
    rcases List.mem_cons.mp hm with e | hm
    · cases e
      refine cloOf_keeps r _ ?_
      rw [if_pos (by rfl), hc]
      exact ⟨_, List.mem_cons_self, rfl⟩
    · exact cloOf_has r _ hm hc
theorem lookup_of_mem {α : Type} : ∀ {l : List (Str × α)} {p : Str × α}, p ∈ l → ∃ c, l.lookup p.1 = some c
  | q :: l, p, h => by
    obtain ⟨n, a⟩ := q
    rw [List.lookup_cons]
    split
    · exact ⟨_, rfl⟩
    · rename_i hne
      rcases List.mem_cons.mp h with e | h
      · subst e; simp at hne
      · exact lookup_of_mem h
theorem cloOf_lookup {env : Env} {l : List (Str × NameKind)} {y : Str} {c : Addr} (hm : (y, NameKind.free) ∈ l) (hc : env.cells.lookup y = some c) : (cloOf env l []).lookup y = some c := by
  obtain ⟨p, hp, e⟩ := cloOf_has l [] hm hc
  obtain ⟨c', e'⟩ := lookup_of_mem hp
  rw [e] at e'
  have q := cloOf_sub l [] (fun _ z => nomatch z) _ (PySem.mem_of_lookup e')
  rw [hc] at q
  rw [e']
  exact q.symm
theorem cloOf_lookup_sub {env : Env} {l : List (Str × NameKind)} {y : Str} {c : Addr} (h : (cloOf env l []).lookup y = some c) : env.cells.lookup y = some c :=
  cloOf_sub l [] (fun _ z => nomatch z) _ (PySem.mem_of_lookup h)
theorem relabel_free {env : Env} : ∀ {names : List (Str × NameKind)} {x : Str} {k : NameKind}, (names.map fun (n, k) => if (k == NameKind.free && env.scope.kind == .function && env.kindOf n == some .cell) then (n, NameKind.cell) else (n, k)).lookup x = some k →
    ∃ k', names.lookup x = some k' ∧ (k' = k ∨ k' = .free)
  | [], _, _, h => by simp at h
  | (n, k0) :: r, x, k, h => by
    have ih := @relabel_free env r x k
    have h : List.lookup x ((if (k0 == NameKind.free && env.scope.kind == .function && env.kindOf n == some .cell) = true then (n, NameKind.cell) else (n, k0)) :: _) = some k := h
    cases hx : x == n with
    | true =>
      refine ⟨k0, by simp only [List.lookup_cons, hx], ?_⟩
      by_cases hc : (k0 == NameKind.free && env.scope.kind == .function && env.kindOf n == some .cell) = true
      · refine .inr ?_
        simp only [Bool.and_eq_true] at hc
        exact beq_iff_eq.mp hc.1.1
      · rw [if_neg hc] at h
        simp only [List.lookup_cons, hx] at h
        exact .inl (Option.some.inj h)
    | false =>
      have h2 : List.lookup x (r.map fun (n, k) => if (k == NameKind.free && env.scope.kind == .function && env.kindOf n == some .cell) then (n, NameKind.cell) else (n, k)) = some k := by
        by_cases hc : (k0 == NameKind.free && env.scope.kind == .function && env.kindOf n == some .cell) = true
        · rw [if_pos hc] at h; simp only [List.lookup_cons, hx] at h; exact h
        · rw [if_neg hc] at h; simp only [List.lookup_cons, hx] at h; exact h
      obtain ⟨k', e1, e2⟩ := ih h2
      exact ⟨k', by simp only [List.lookup_cons, hx]; exact e1, e2⟩
theorem relabel_of_free {env : Env} : ∀ {names : List (Str × NameKind)} {x : Str}, names.lookup x = some .free →
    (names.map fun (n, k) => if (k == NameKind.free && env.scope.kind == .function && env.kindOf n == some .cell) then (n, NameKind.cell) else (n, k)).lookup x = some .cell ∨
    (names.map fun (n, k) => if (k == NameKind.free && env.scope.kind == .function && env.kindOf n == some .cell) then (n, NameKind.cell) else (n, k)).lookup x = some .free
  | [], _, h => by simp at h
  | (n, k0) :: r, x, h => by
    have ih := @relabel_of_free env r x
    show List.lookup x ((if (k0 == NameKind.free && env.scope.kind == .function && env.kindOf n == some .cell) = true then (n, NameKind.cell) else (n, k0)) :: _) = some .cell ∨ List.lookup x ((if (k0 == NameKind.free && env.scope.kind == .function && env.kindOf n == some .cell) = true then (n, NameKind.cell) else (n, k0)) :: _) = some .free
    cases hx : x == n with
    | true =>
      simp only [List.lookup_cons, hx] at h
      by_cases hc : (k0 == NameKind.free && env.scope.kind == .function && env.kindOf n == some .cell) = true
      · rw [if_pos hc]; simp only [List.lookup_cons, hx]; simp
      · rw [if_neg hc]; simp only [List.lookup_cons, hx]; exact .inr (by rw [Option.some.inj h])
    | false =>
      simp only [List.lookup_cons, hx] at h
      by_cases hc : (k0 == NameKind.free && env.scope.kind == .function && env.kindOf n == some .cell) = true
      · rw [if_pos hc]; simp only [List.lookup_cons, hx]; exact ih h
      · rw [if_neg hc]; simp only [List.lookup_cons, hx]; exact ih h

/-! ### the signs of a text, walked -/
def Its (z : Str) : It := ⟨fun i _ => i < z.length, fun i H x H' => H' = H ∧ ∃ c, z.cps.toList[i]? = some c ∧ x = .str ⟨#[c]⟩, fun i _ => z.length ≤ i⟩
structure StrIt (P : Program) (w : World) (it : Addr) (ty : String) (z : Str) (t : Tok) : Prop where
  W : ∀ A' : Around, A'.handled = none → Walks P w A' it [it] [it] z.cps.size (SignAt z) (fun i h => h.IsStrIter it ty z t i)
  en : ∀ (A : Around) (i : Nat) (s : Shared) (Q : Option Value → Shared → Prop) (E : Value → Shared → Prop), A.handled = none → s.heap.IsStrIter it ty z t i → z.cps[i]? = none →
    (∀ h', Heap.ExtBut it s.heap h' → Q none { s with heap := h' }) → wpAny (model P w) A (pyNext (.ref it)) Q E s
  me : ∀ (A : Around) (i : Nat) (s : Shared) (Q : Value → Shared → Prop) (E : Value → Shared → Prop), s.heap.IsStrIter it ty z t i → Q (.ref it) s → wpAny (model P w) A (pyIter (.ref it)) Q E s
  ne : ["enumerate", "zip", "dict_itemiterator", "dict_reverseitemiterator", "odict_iterator", "itertools.zip_longest", "itertools.pairwise"].contains ty = false
theorem StrIt.ascii {P : Program} {w : World} (it : Addr) (z : Str) (t : Tok) : StrIt P w it "str_ascii_iterator" z t :=
  ⟨fun _ hA => Walks.strAscii hA it z t, fun _ _ _ _ _ hA st hx hQ => wpAny_pyNext_ascii_end hA st hx hQ, fun _ _ _ _ _ st h => wpAny_pyIter_striter_ascii st h, by decide⟩
theorem StrIt.wide {P : Program} {w : World} (it : Addr) (z : Str) (t : Tok) : StrIt P w it "str_iterator" z t :=
  ⟨fun _ hA => Walks.strWide hA it z t, fun _ _ _ _ _ hA st hx hQ => wpAny_pyNext_wide_end hA st hx hQ, fun _ _ _ _ _ st h => wpAny_pyIter_striter_wide st h, by decide⟩
theorem turn_str {P : Program} {w : World} {K : PySem.W.Frag} {tg : Expr} {z : Str} {t : Tok} {it : Addr} {ty : String} (S : StrIt P w it ty z t) :
    Turn P w K tg (Its z) [it] it (fun i h => h.IsStrIter it ty z t i) where
  mem := by simp
  obj := fun i h st b hb => by
    have e : b = it := by simpa using hb
    subst e
    obtain ⟨o, e, c, d⟩ := st
    exact ⟨o, e, fun v q => by rw [d] at q; cases q⟩
  keep := fun i h h' st k => by
    obtain ⟨o, e, r⟩ := st
    exact ⟨o, k it (by simp) o e, r⟩
  item := by
    intro X hP hw hK hc i pins s σ H E I hf st hg
    subst hP hw hK
    obtain ⟨f0, f1, f2, f3, f4, f5⟩ := hf it (by simp)
    refine (S.W X.A (I.ok.hd hc)).item i s _ _ hg st fun v h' tk hv st' kk => ?_
    obtain ⟨c, u, hc', rfl⟩ := hv
    have I1 : Inv X pins σ H { s with heap := h', toks := tk } := I.turned (fun b o hb e => kk b o (by simpa using hb) e) f0 f1 f3 f4 f5
    obtain ⟨o, e, c1, d1⟩ := id st'
    exact ⟨_, rfl, go_of (s := { s with heap := h', toks := tk }) e c1 d1 S.ne ⟨.str ⟨#[c]⟩, H, I1, ⟨u, rfl⟩, ⟨rfl, c, by rw [Array.getElem?_toList]; exact hc', rfl⟩, st', fun b hb => (hf b hb).1⟩⟩
  done := by
    intro X hP hw hK hc i pins s σ H E I hf st hg
    subst hP hw hK
    obtain ⟨f0, f1, f2, f3, f4, f5⟩ := hf it (by simp)
    refine S.en X.A i s _ _ (I.ok.hd hc) st ?_ fun h' eb => ⟨rfl, I.turned (t' := s.toks) (fun b o hb e => eb b o hb e) f0 f1 f3 f4 f5⟩
    exact Array.getElem?_eq_none hg
  self := fun A i s Q E st h => S.me A i s Q E st h
def iStr (tl : TE) : TI := fun σ H R => tl σ H fun x H1 => ∃ z, x = .str z ∧ R (Its z) H1
theorem pi_str {X : Cx} {tg l : Expr} {tl : TE} (hl : PE X l tl) : PI X tg l (iStr tl) := by
  intro pins s σ H R I h
  refine thn (hl pins s σ H _ I h) fun v s1 ⟨x, H1, I1, r1, q1⟩ => ?_
  obtain ⟨z, rfl, q⟩ := q1
  obtain ⟨t, rfl⟩ := r1
  have fin : ∀ (o : Obj) (ty : String), StrIt X.prog X.w s1.heap.objs.size ty z t → (s1.heap.push o).IsStrIter s1.heap.objs.size ty z t 0 → PIE X pins σ tg R (.ref s1.heap.objs.size) { s1 with heap := s1.heap.push o } := fun o ty S st => by
    refine ⟨s1.heap.objs.size, [s1.heap.objs.size], _, Its z, H1, rfl, I1.kept (t' := s1.toks) fun b o e => Heap.get?_push_of_some _ e, turn_str S, st, fun b hb => ?_, q⟩
    have e : b = s1.heap.objs.size := by simpa using hb
    subst e
    exact I1.fpOk (Nat.le_refl _) (I1.hok.fresh (Nat.le_refl _))
  cases ha : z.cps.all (· < 128)
  · exact wpAny_pyIter_wide ha (fin _ _ (.wide _ z t) ⟨_, Heap.get?_push_size _ rfl, rfl, rfl⟩)
  · exact wpAny_pyIter_ascii ha (fin _ _ (.ascii _ z t) ⟨_, Heap.get?_push_size _ rfl, rfl, rfl⟩)

/-! ### a list made by walking -/
/-- the context of the block: it begins at s, H, the iterator's records at fp -/
def Cx.blk (X : Cx) (N' : List Str) (scope : Scope) (C : Addr) (fp : List Addr) (s : Shared) (H : Hp) : Cx :=
  { X with N := N', s₀ := s, H₀ := H, env := compEnvC scope (cloOf X.env scope.names []) C X.env, outer := X.stack, ex := fp, fn := fun _ => false, pn := [], xe := fun _ _ => False }
/-- the block's names: its own first, then those of the def around it, at the slots fv -/
structure BlkScope (N : List Str) (sc scope : Scope) (x : Str) (N' : List Str) (fv : List Nat) : Prop where
  nocell : ∀ y ∈ scope.names, y.2 ≠ .cell
  kind : scope.kind = .function
  names : ∀ y ∈ scope.names, y.2 = .local → scope.names.lookup y.1 = some .local
  loc : scope.names.lookup x = some .local
  free : ∀ y ∈ scope.names, y.2 = .free → sc.names.lookup y.1 = some .cell ∨ sc.names.lookup y.1 = some .free
  nd : N'.Nodup
  hd : N'[0]? = some x
  len : N'.length = fv.length + 1
  at_ : ∀ j, j < fv.length → (N'[j + 1]?).isSome = true ∧ N'[j + 1]? = (fv[j]?).bind (fun i => N[i]?) ∧ (N'[j + 1]?).bind (fun y => scope.names.lookup y) = some .free
def blkVals (fv : List Nat) (σ : St) : St := fv.map fun k => (σ[k]?).join
/-- the tests of a walking -/
abbrev testsOf (ifs : List Expr) (env : Env) : Sem Bool := forIn ifs true fun c r => if r = true then do let ok ← isTrue c env (eval c env); pure (ForInStep.yield ok) else pure (ForInStep.yield r)
def PTs (X : Cx) (ifs : List Expr) (t : TT) : Prop :=
  ∀ (pins : List (Addr × Obj)) (s : Shared) (σ : St) (H : Hp) (Q : Bool → Hp → Prop), Inv X pins σ H s → t σ H Q → wpAny (model X.prog X.w) X.A (testsOf ifs X.env) (TP X pins σ Q) X.xe s
def tAll : TT := fun _ H Q => Q true H
theorem pts_nil {X : Cx} : PTs X [] tAll := fun pins s σ H Q I h => wpAny_pure ⟨H, I, h⟩
def tLC (wi : TI) (fv : List Nat) (tt : TT) (te : TE) : TE := fun σ H Q => wi σ H fun J H1 => ∃ (W : Nat → List V → Hp → Prop) (n : Nat), W 0 [] H1 ∧ n ≤ sizeLine ∧ ∀ i ys H, W i ys H →
  (J.stop i H ∧ ∀ p, H p = none → Q (.ref p) (upd H p (.lst ys))) ∨
  (J.go i H ∧ i < n ∧ ∀ x H', J.yld i H x H' → tt (some x :: blkVals fv σ) H' fun c H2 => if c = true then te (some x :: blkVals fv σ) H2 fun y H3 => W (i + 1) (ys ++ [y]) H3 else W (i + 1) ys H2)

section
variable {X : Cx} {N' : List Str} {scope : Scope} {x : Str} {fv : List Nat}
theorem blk_inv {pins : List (Addr × Obj)} {σ : St} {H : Hp} {s : Shared} {fp : List Addr} {C : Addr} {h1 : Heap} {m : Str → Option Value} {tk : Nat} {pl : List (Addr × Obj)} (S : BlkScope X.N X.env.scope scope x N' fv) (I : Inv X pins σ H s)
    (hf : ∀ b ∈ fp, FpOk X pins H b) (hfo : ∀ b ∈ fp, b < s.heap.objs.size) (hC : s.heap.objs.size ≤ C) (kp : ∀ b o, s.heap.get? b = some o → h1.get? b = some o) (hn : h1.Ns C m)
    (hpl : ∀ p ∈ pl, h1.get? p.1 = some p.2 ∧ s.heap.objs.size ≤ p.1 ∧ p.1 ≠ C ∧ ∀ v, p.2.data ≠ .cell v) :
    Inv (X.blk N' scope C fp s H) pl (none :: blkVals fv σ) H { s with heap := h1, toks := tk } := by
  have clo : ∀ y c, (cloOf X.env scope.names []).lookup y = some c → X.env.cells.lookup y = some c := fun y c e => cloOf_lookup_sub e
  have cell : ∀ y c, (cloOf X.env scope.names []).lookup y = some c → ∃ v, s.heap.IsCell c v := fun y c e => I.cell y c (clo y c e)
  have lt : ∀ y c, (cloOf X.env scope.names []).lookup y = some c → c < s.heap.objs.size := fun y c e => by obtain ⟨v, q⟩ := cell y c e; exact q.lt
  have kc : ∀ c v, s.heap.IsCell c v → h1.IsCell c v := fun c v q => by obtain ⟨o, e, d⟩ := q; exact ⟨o, kp _ _ e, d⟩
  refine ⟨⟨I.ok.mod, S.kind, I.ok.glob, I.ok.blt, hC, fun y z c e1 e2 => I.ok.inj y z c (clo y c e1) (clo z c e2), fun y hy => ?_, fun y c e => ?_, I.ok.hd, I.ok.frames, .inl rfl, fun b hb => ⟨?_, fun y c e z => (hf b hb).2.2.2.2.1 y c (clo y c e) z⟩, fun b o e => I.bs b o e, Nat.le_trans I.ok.bsz I.sz, fun b o e hb => ?_, fun b hb hb2 => ?_, I.stack, I.stkFree⟩,
    rfl, I.bare, Un.kept kp, ⟨m, hn, fun i y v h1' h2 h3 => ?_⟩, fun y c e => ?_, I.hok.fresh hC, fun y c e => I.freeC y c (clo y c e), fun p hp => ?_, I.hok.kept kp, ?_⟩
  · have hy' : ∃ k, scope.names.lookup y = some k ∧ k = .free := by
      rcases hy with hy | hy
      · obtain ⟨k', e1, e2⟩ := relabel_free (env := X.env) (names := scope.names) (x := y) (k := .cell) hy
        rcases e2 with e2 | e2
        · exact absurd e2 (S.nocell _ (PySem.mem_of_lookup e1))
        · exact ⟨k', e1, e2⟩
      · obtain ⟨k', e1, e2⟩ := relabel_free (env := X.env) (names := scope.names) (x := y) (k := .free) hy
        rcases e2 with e2 | e2
        · exact ⟨k', e1, e2⟩
        · exact ⟨k', e1, e2⟩
    obtain ⟨k, e, rfl⟩ := hy'
    have hm := PySem.mem_of_lookup e
    obtain ⟨c, hc⟩ := I.ok.has y (S.free _ hm rfl)
    exact ⟨c, cloOf_lookup hm hc⟩
  · exact (Bool.false_ne_true (show false = true from e)).elim
  · exact Nat.ne_of_lt (Nat.lt_of_lt_of_le (hfo b hb) hC)
  · have e' := e
    rcases (hf b hb).2.2.2.1 with z | z
    · exact I.ok.noex b o e z
    · exact absurd (Nat.lt_of_lt_of_le (Heap.lt_size e) (Nat.le_trans I.ok.bsz z)) (Nat.lt_irrefl _)
  · have q := I.stkSub b hb2
    rcases List.mem_cons.mp q with z | z
    · exact (hf b hb).2.1 z
    · exact (hf b hb).2.2.1 z
  · cases i with
    | zero =>
      have z : (none : Option V) = some v := Option.some.inj h2
      cases z
    | succ j =>
      have h2' : (blkVals fv σ)[j]? = some (some v) := h2
      unfold blkVals at h2'
      rw [List.getElem?_map] at h2'
      cases ej : fv[j]? with
      | none => rw [ej] at h2'; cases h2'
      | some k =>
        rw [ej] at h2'
        have h4 : (σ[k]?).join = some v := Option.some.inj h2'
        have h5 : σ[k]? = some (some v) := by
          cases es : σ[k]? with
          | none => rw [es] at h4; cases h4
          | some w' => rw [es] at h4; rw [show w' = some v from h4]
        have hj : j < fv.length := (List.getElem?_eq_some_iff.mp ej).1
        obtain ⟨_, a1, a2⟩ := S.at_ j hj
        have h1'' : N'[j + 1]? = some y := h1'
        rw [h1''] at a1 a2
        rw [ej] at a1
        have a3 : X.N[k]? = some y := a1.symm
        have a4 : scope.names.lookup y = some .free := a2
        have hm := PySem.mem_of_lookup a4
        have kd : X.env.kindOf y = some .cell ∨ X.env.kindOf y = some .free := S.free _ hm rfl
        obtain ⟨mX, _, hlX⟩ := I.loc
        obtain ⟨u, ru, lk⟩ := hlX k y v a3 h5 (kd.elim (fun z => .inr (.inl z)) fun z => .inr (.inr z))
        refine ⟨u, ru, .inr ?_⟩
        rcases lk with ⟨z, _⟩ | ⟨_, c, hc, hcell⟩
        · rcases kd with z' | z' <;> rw [z'] at z <;> cases z
        · exact ⟨relabel_of_free (env := X.env) a4, c, cloOf_lookup hm hc, kc _ _ hcell⟩
  · obtain ⟨v, q⟩ := cell y c e
    exact ⟨v, kc _ _ q⟩
  · have hp' : p ∈ pl := hp
    obtain ⟨e, l1, l2, d⟩ := hpl p hp'
    exact ⟨e, I.hok.fresh l1, l2, fun z => absurd (I.stkSub _ z) (fun q => by
      rcases List.mem_cons.mp q with q | q
      · exact absurd I.lt (by rw [← q]; exact Nat.not_lt.mpr l1)
      · exact I.nofs l1 q), d⟩
  · show (none :: blkVals fv σ).length = N'.length
    rw [S.len]
    unfold blkVals
    simp
end
end L2

namespace L2
open PySem PySem.Spec PyProof.Rows
theorem nox {α : Type} {t : Sem α} {Q Q' : α → Shared → Prop} {M : Model} {A : Around} {E : Value → Shared → Prop} {s : Shared} (h : wpAny M A t Q (fun _ _ => False) s) (hQ : ∀ a s, Q a s → Q' a s) : wpAny M A t Q' E s := wpAny_mono h hQ fun _ _ f => f.elim
set_option maxHeartbeats 1600000 in
theorem pe_lc {X : Cx} {elt iter : Expr} {x : Str} {px : Pos} {ifs : List Expr} {scope : Scope} {pos : Pos} {N' : List Str} {fv : List Nat} {wi : TI} {tt : TT} {te : TE}
    (S : BlkScope X.N X.env.scope scope x N' fv) (hc : X.calm = true) (hi : PI X (.Name x px) iter wi)
    (ht : ∀ C fp s H, PTs (X.blk N' scope C fp s H) ifs tt) (he : ∀ C fp s H, PE (X.blk N' scope C fp s H) elt te)
    (hs : ∀ x, foldedSetIterable iter X.env x = pure x := by intro _; rfl) :
    PE X (.ListComp elt [⟨.Name x px, iter, ifs, 0⟩] scope pos) (tLC wi fv tt te) := by
  intro pins s σ H Q I h
  rw [eval_ListComp]
  refine wpAny_comprehension_free (use := none) rfl hs (closureFor_free fun y hy hk => I.ok.has y.1 (S.free y hy hk)) S.kind S.names
    (wpAny_mono (hi pins s σ H _ I h) (fun xv s1 h1 => wpAny_mono h1 (fun itv s2 h2 => ?_) fun _ _ e => e) fun _ _ e => e)
  obtain ⟨it, fp, tn, J, H2, rfl, I2, T, st2, f2, W, n, w0, hn, turn⟩ := h2
  refine wpAny_newObj_type (wpAny_newFunctionEnv S.nocell (by intro y hy; simp at hy) (fun h1 hns hsb => ?_) S.kind)
  dsimp only at hns hsb ⊢
  generalize hH : s2.heap.push { cls := .type "list", dict := none, data := .seq ([] : List Value).toArray } = G at hns hsb ⊢
  have hG : G.objs.size = s2.heap.objs.size + 1 := by rw [← hH, Heap.size_push]
  have kpG : ∀ b o, s2.heap.get? b = some o → G.get? b = some o := fun b o e => hH ▸ Heap.get?_push_of_some _ e
  have kp1 : ∀ b o, b < G.objs.size → G.get? b = some o → h1.get? b = some o := fun b o lt e => hsb.extBut b o (Nat.ne_of_lt lt) (Heap.get?_push_of_some _ e)
  have kp : ∀ b o, s2.heap.get? b = some o → h1.get? b = some o := fun b o e => kp1 b o (by rw [hG]; exact Nat.lt_succ_of_lt (Heap.lt_size e)) (kpG b o e)
  have hD : h1.PlainList s2.heap.objs.size #[] := ⟨_, kp1 _ _ (by rw [hG]; exact Nat.lt_succ_self _) (hH ▸ Heap.get?_push_size _ rfl)⟩
  have hDC : s2.heap.objs.size ≠ G.objs.size := by rw [hG]; exact Nat.ne_of_lt (Nat.lt_succ_self _)
  have hC : s2.heap.objs.size ≤ G.objs.size := by rw [hG]; exact Nat.le_succ _
  have hfo : ∀ b ∈ fp, b < s2.heap.objs.size := fun b hb => by obtain ⟨o, e, _⟩ := T.obj 0 _ st2 b hb; exact Heap.lt_size e
  -- what is true of the iterator's records in the block
  have stat : ∀ {H' : Hp} {pl : List (Addr × Obj)}, (∀ b ∈ fp, H' b = none) → (∀ p ∈ pl, p.1 ∉ fp) → ∀ b ∈ fp, FpOk (X.blk N' scope G.objs.size fp s2 H2) pl H' b := fun {H' pl} hn hpl b hb => by
    obtain ⟨_, g1, g2, g3, g4, g5⟩ := f2 b hb
    refine ⟨hn b hb, Nat.ne_of_lt (Nat.lt_of_lt_of_le (hfo b hb) hC), fun z => ?_, .inl hb, fun y c e => g4 y c (cloOf_lookup_sub e), fun p hp e => ?_⟩
    · rcases List.mem_cons.mp (I2.stkSub b z) with q | q
      · exact g1 q
      · exact g2 q
    · exact hpl p hp (e ▸ hb)
  have hDf : s2.heap.objs.size ∉ fp := fun z => absurd (hfo _ z) (Nat.lt_irrefl _)
  have hlc : (X.blk N' scope G.objs.size fp s2 H2).env.scope.names.lookup x = some .local := lookup_relabel_local S.loc
  have hcl : ∀ y c, (X.blk N' scope G.objs.size fp s2 H2).env.cells.lookup y = some c → c ≠ s2.heap.objs.size := fun y c e z => by
    obtain ⟨v, q⟩ := I2.cell y c (cloOf_lookup_sub e)
    exact absurd q.lt (by rw [z]; exact Nat.lt_irrefl _)
  have pin1 : ∀ {s' : Shared} {H' : Hp} {ob : Obj} {i : Nat} {ys : List V}, Inv (X.blk N' scope G.objs.size fp s2 H2) [] (none :: blkVals fv σ) H' s' → s'.heap.get? s2.heap.objs.size = some ob → (∀ v, ob.data ≠ .cell v) → H' s2.heap.objs.size = none →
      Inv (X.blk N' scope G.objs.size fp s2 H2) [(s2.heap.objs.size, ob)] (none :: blkVals fv σ) H' s' := fun {s' H' ob i ys} J1 e d f => J1.pins_of fun p hp => by
    have z : p = (s2.heap.objs.size, ob) := by simpa using hp
    subst z
    refine ⟨e, f, hDC, fun z => ?_, d⟩
    rcases List.mem_cons.mp (I2.stkSub _ z) with q | q
    · exact absurd I2.lt (by rw [← q]; exact Nat.lt_irrefl _)
    · exact I2.nofs (Nat.le_refl _) q
  have loop : ∀ s3 : Shared, s3 = { s2 with heap := h1, toks := s2.toks + ([] : List (Str × Value)).length } →
      codeAny (model X.prog X.w) X.A (.compLoop (.ListComp elt [⟨.Name x px, iter, ifs, 0⟩] scope pos) 0 (.ref it) (.ref s2.heap.objs.size) (X.blk N' scope G.objs.size fp s2 H2).env)
        (compPost (model X.prog X.w) X.A X.xe none (EP X pins σ Q) (.ref s2.heap.objs.size) G.objs.size) s3 := by
    rintro s3 rfl
    refine codeAny_compLoop_tests (fun k s' => ∃ i ys H' its, k = n + 1 - i ∧ i ≤ n ∧ ys.length ≤ i ∧ Vals ys its ∧ s'.heap.PlainList s2.heap.objs.size its.toArray ∧
      Inv (X.blk N' scope G.objs.size fp s2 H2) [] (none :: blkVals fv σ) H' s' ∧ H' s2.heap.objs.size = none ∧ tn i s'.heap ∧ (∀ b ∈ fp, H' b = none) ∧ W i ys H') ?_ (n + 1)
      ⟨0, [], H2, [], rfl, Nat.zero_le _, Nat.le_refl _, .nil, hD, blk_inv S I2 f2 hfo hC kp hns (fun p hp => nomatch hp), I2.hok.fresh (Nat.le_refl _), T.keep _ _ _ st2 fun b _ o e => kp b o e, fun b hb => (f2 b hb).1, w0⟩
    rintro k s4 ⟨i, ys, H4, its, rfl, hin, hyi, rv, pl4, I4, fD4, st4, ff4, w4⟩
    obtain ⟨cnt, eD⟩ := id pl4
    have I4p := pin1 (i := i) (ys := ys) I4 eD (fun v z => by cases z) fD4
    have np : ∀ p ∈ [(s2.heap.objs.size, ({ cls := .type "list", data := .seq its.toArray cnt } : Obj))], p.1 ∉ fp := fun p hp => by
      have z : p = (s2.heap.objs.size, ({ cls := .type "list", data := .seq its.toArray cnt } : Obj)) := by simpa using hp
      subst z; exact hDf
    rcases turn i ys H4 w4 with ⟨stop, fin⟩ | ⟨go, hi2, step⟩
    · refine wpAny_mono (T.done (X.blk N' scope G.objs.size fp s2 H2) rfl rfl rfl hc i _ s4 _ H4 _ I4p (stat ff4 np) st4 stop) (fun r s5 ⟨hr, I5⟩ => ?_) fun _ _ e => e
      subst hr
      obtain ⟨m5, hm5, _⟩ := I5.loc
      have eD5 : s5.heap.get? s2.heap.objs.size = some { cls := .type "list", data := .seq its.toArray cnt } := (I5.pin _ (List.mem_append_right _ List.mem_cons_self)).1
      refine ⟨m5, hm5, fun h' sb => ⟨.ref s2.heap.objs.size, upd H4 s2.heap.objs.size (.lst ys), ?_, rfl, fin _ fD4⟩⟩
      have ltC : ∀ {b : Addr} {o : Obj}, s2.heap.get? b = some o → b ≠ G.objs.size := fun {b o} e => Nat.ne_of_lt (Nat.lt_of_lt_of_le (Heap.lt_size e) hC)
      have fD2 : H2 s2.heap.objs.size = none := I2.hok.fresh (Nat.le_refl _)
      have ltD : ∀ {b : Addr} {o : Obj}, s2.heap.get? b = some o → b ≠ s2.heap.objs.size := fun {b o} e => Nat.ne_of_lt (Heap.lt_size e)
      have B := I5.base
      refine I2.call' (s' := { s5 with heap := h' }) (ch := fp) I5.os ⟨fun b o e nb hb hx => ?_, fun b o e nb hb hx => ?_, fun b o e nb hx => ?_, fun b o e hx => ?_, fun b xs e => ?_, fun b o u e => ?_, fun b ps e => ?_⟩ ?_ I5.bare fun b hb => ?_
      · exact sb.extBut b o (ltC e) (B.keep b o e nb hb hx)
      · obtain ⟨sl, q⟩ := B.slot b o e nb hb hx
        exact ⟨sl, sb.extBut b _ (ltC e) q⟩
      · rw [upd_ne (ltD e)]; exact B.free b o e nb hx
      · obtain ⟨o', q⟩ := B.there b o e hx
        exact ⟨o', sb.extBut b o' (ltC e) q⟩
      · have e' : H2 b = some (.tup xs) := e
        rw [upd_ne (ne_of_none e' fD2)]; exact B.tups b xs e
      · have e' : H2 b = some (.frz o u) := e
        rw [upd_ne (ne_of_none e' fD2)]; exact B.frzs b o u e
      · have e' : H2 b = some (.tbl ps) := e
        rw [upd_ne (ne_of_none e' fD2)]; exact B.tbls b ps e
      · intro b u e
        by_cases hb : b = s2.heap.objs.size
        · subst hb
          rw [upd_same] at e
          cases e
          exact ⟨Nat.le_trans hyi (Nat.le_trans hin hn), its, cnt, rv, sb.extBut _ _ hDC eD5⟩
        · rw [upd_ne hb] at e
          have fC : H4 G.objs.size = none := I5.free
          refine (I5.hok b u e).stay (fun c v hc' q => sb.extBut c v ?_ q) (fun c q => by rw [upd_ne (ne_of_none q fD4)]; exact q) fun c xs q => by rw [upd_ne (ne_of_none q fD4)]; exact q
          rcases hc' with z | z
          · subst z; exact ne_of_none e fC
          · exact ne_of_none z fC
      · obtain ⟨_, g1, g2, g3, g4, g5⟩ := f2 b hb
        exact ⟨g3, g1, g4, g5⟩
    · refine wpAny_mono (T.item (X.blk N' scope G.objs.size fp s2 H2) rfl rfl rfl hc i _ s4 _ H4 _ I4p (stat ff4 np) st4 go) (fun r s5 ⟨u, hr, h5⟩ => ?_) fun _ _ e => e
      subst hr
      show wpAny _ _ (letOwnedTupleGo (.Name x px) (.ref it) u >>= fun _ => assign (.Name x px) (X.blk N' scope G.objs.size fp s2 H2).env u) _ _ s5
      refine wpAny_bind (wpAny_mono h5 (fun _ s6 ⟨xv, H6, I6, r6, y6, st6, ff6⟩ => ?_) fun _ _ e => e)
      have I6' := I6.pinned (stat ff6 np) (T.obj _ _ st6)
      have out : ∀ {σ' : St} {H' : Hp} {s' : Shared}, Inv (X.blk N' scope G.objs.size fp s2 H2) ([(s2.heap.objs.size, ({ cls := .type "list", data := .seq its.toArray cnt } : Obj))] ++ pinsAt fp s6.heap) σ' H' s' →
          s'.heap.PlainList s2.heap.objs.size its.toArray ∧ H' s2.heap.objs.size = none ∧ (∀ b ∈ fp, H' b = none) ∧ (∀ b ∈ fp, ∀ o, s6.heap.get? b = some o → s'.heap.get? b = some o) := fun {σ' H' s'} J1 => by
        have q := J1.pin (s2.heap.objs.size, ({ cls := .type "list", data := .seq its.toArray cnt } : Obj)) (List.mem_append_right _ (List.mem_append_left _ List.mem_cons_self))
        refine ⟨⟨cnt, q.1⟩, q.2.1, fun b hb => ?_, fun b hb o e => (J1.pin (b, o) (List.mem_append_right _ (List.mem_append_right _ (mem_pinsAt hb e)))).1⟩
        obtain ⟨o, e, d⟩ := T.obj _ _ st6 b hb
        exact (J1.pin (b, o) (List.mem_append_right _ (List.mem_append_right _ (mem_pinsAt hb e)))).2.1
      refine nox ((pg_name (X := X.blk N' scope G.objs.size fp s2 H2) (i := 0) S.nd S.hd (.inl hlc) (.inr hlc)) _ s6 _ H6 xv u (fun σ' H' => σ' = some xv :: blkVals fv σ ∧ H' = H6) I6' r6 ⟨rfl, rfl⟩) fun _ s7 ⟨σ7, H7, I7, e7, e7'⟩ => ?_
      subst e7 e7'
      refine nox (ht _ _ _ _ _ s7 _ H7 _ I7 (step xv H7 y6)) fun ok s8 ⟨H8, I8, q8⟩ => ?_
      cases ok with
      | false =>
        obtain ⟨o1, o2, o3, o4⟩ := out I8
        exact ⟨n + 1 - (i + 1), by omega, i + 1, ys, H8, its, rfl, hi2, Nat.le_succ_of_le hyi, rv, o1, (I8.pins_of (pins' := []) fun p hp => nomatch hp).weak (σ' := none :: blkVals fv σ) rfl (fun j v e => by
          cases j with
          | zero => cases (show (none : Option V) = some v from Option.some.inj e)
          | succ j => exact e), o2, T.keep _ _ _ st6 o4, o3, q8⟩
      | true =>
        refine nox (he _ _ _ _ _ s8 _ H8 _ I8 q8) fun yv s9 ⟨y, H9, I9, r9, q9⟩ => ?_
        obtain ⟨o1, o2, o3, o4⟩ := out I9
        have hlen := rv.length
        refine wpAny_list_append_plain (hsz := by rw [List.size_toArray, ← hlen]; exact Nat.le_trans hyi (Nat.le_trans hin hn)) o1 fun h' pl' sb' => ?_
        have I9' : Inv (X.blk N' scope G.objs.size fp s2 H2) [] (some xv :: blkVals fv σ) H9 { s9 with heap := h' } :=
          (I9.pins_of (pins' := []) fun p hp => nomatch hp).turned (t' := s9.toks) (it := s2.heap.objs.size) (fun b o hb e => sb'.extBut b o hb e) o2 hDC (.inr (Nat.le_refl _)) hcl (fun p hp => nomatch hp)
        refine ⟨n + 1 - (i + 1), by omega, i + 1, ys ++ [y], H9, its ++ [yv], rfl, hi2, by rw [List.length_append]; exact Nat.succ_le_succ hyi, rv.append (.cons r9 .nil), ?_, I9'.weak (σ' := none :: blkVals fv σ) rfl (fun j v e => by
          cases j with
          | zero => cases (show (none : Option V) = some v from Option.some.inj e)
          | succ j => exact e), o2, T.keep _ _ _ st6 fun b hb o e => sb'.extBut b o (fun z => hDf (z ▸ hb)) (o4 b hb o e), o3, q9⟩
        have e9 : (its ++ [yv]).toArray = its.toArray.push yv := by simp
        rw [e9]
        exact pl'
  exact codeAny_compStart_list (loop _ rfl) (T.self _ 0 _ _ _ (T.keep _ _ _ st2 fun b _ o e => kp b o e) (loop _ rfl))
end L2

namespace L2
open PySem PySem.Spec PyProof.Rows
theorem strsAre_of {ys : List Str} : ∀ {us : List Value}, Vals (ys.map V.str) us → StrsAre us ys := by
  induction ys with
  | nil => intro us r; rw [List.map_nil] at r; cases r; exact .nil
  | cons y ys ih =>
    intro us r
    rw [List.map_cons] at r
    cases r with
    | cons r1 r2 =>
      obtain ⟨t, e⟩ := r1
      subst e
      exact .cons y t (ih r2)
theorem mt_join {X : Cx} : MtR X "str.join" (fun x vs H Q => ∃ (sep : Str) (p : Addr) (ys : List Str), x = .str sep ∧ vs = [.ref p] ∧ SqL X.K H p (ys.map V.str) ∧ (ys.map (·.length)).sum + ys.length * sep.length ≤ 16777216 ∧ Q (.str (Str.join sep ys)) H) := by
  intro pins s σ H x xs v us Q I rx r h
  obtain ⟨sep, p, ys, rfl, rfl, hq, hok, q⟩ := h
  obtain ⟨t, rfl⟩ := rx
  obtain ⟨u, rfl, rp⟩ := vals1 r
  cases (show u = Value.ref p from rp)
  obtain ⟨its, rv, pl, hz⟩ := I.list hq
  refine join_list pl.isList (by simpa using strsAre_of rv) hok fun t' k => ⟨.str _, H, I.tok _, ⟨_, rfl⟩, ?_⟩
  rw [eq_of_beq (join_closes (sep := sep) (sep' := sep) (ys := ys) rfl)]
  exact q
end L2

namespace L2
open PySem PySem.Spec PyProof.Rows
/-- name = [.. for ..] -/
def tSetLC (j : Nat) (wi : TI) (fv : List Nat) (tt : TT) (te : TE) : TS := fun D σ H => wi σ H fun J H1 => ∃ (W : Nat → List V → Hp → Prop) (n : Nat), W 0 [] H1 ∧ n ≤ sizeLine ∧ ∀ i ys H, W i ys H →
  (J.stop i H ∧ ∀ p, H p = none → D.nx (σ.set j (some (.ref p))) (upd H p (.lst ys))) ∨
  (J.go i H ∧ i < n ∧ ∀ x H', J.yld i H x H' → tt (some x :: blkVals fv σ) H' fun c H2 => if c = true then te (some x :: blkVals fv σ) H2 fun y H3 => W (i + 1) (ys ++ [y]) H3 else W (i + 1) ys H2)
end L2

namespace L2
open PySem PySem.Spec PyProof.Rows
open Builtin Builtin.Str
theorem join_many (c : Nat) : ∀ ys : List Str, ys.length ≤ (Str.join ⟨#[c]⟩ ys).length + 1
  | [] => Nat.zero_le _
  | [y] => by simp
  | y :: u :: ys => by
    have ih := join_many c (u :: ys)
    rw [join_cons_cons]
    have e : (y ++ (⟨#[c]⟩ : Str) ++ Str.join ⟨#[c]⟩ (u :: ys)).length = y.length + 1 + (Str.join ⟨#[c]⟩ (u :: ys)).length := by
      show ((y.cps ++ #[c]) ++ (Str.join ⟨#[c]⟩ (u :: ys)).cps).size = _
      rw [Array.size_append, Array.size_append]
      rfl
    rw [e, List.length_cons]
    omega
theorem vals_strs : ∀ (l : List (Str × Tok)), Vals ((l.map (·.1)).map V.str) (strValues l)
  | [] => .nil
  | p :: l => .cons ⟨p.2, rfl⟩ (vals_strs l)
section
variable {X : Cx}
theorem mt_split1 : MtR X "str.split" (fun x vs H Q => ∃ (z : Str) (c : Nat), x = .str z ∧ vs = [.str ⟨#[c]⟩] ∧ z.length ≤ 1000000 ∧ ∀ p, H p = none → Q (.ref p) (upd H p (.lst ((Txt.split z ⟨#[c]⟩).map V.str)))) := by
  intro pins s σ H x xs v us Q I rx r h
  obtain ⟨z, c, rfl, rfl, hz, q⟩ := h
  obtain ⟨t, rfl⟩ := rx
  obtain ⟨u, rfl, ⟨t1, rfl⟩⟩ := vals1 r
  have hs : (1000002 : Nat) ≤ sizeLine := by decide
  have many : (Txt.split z ⟨#[c]⟩).length ≤ sizeLine := by
    have := join_many c (Txt.split z ⟨#[c]⟩)
    rw [StrLaws.join_split] at this
    omega
  have fin : ∀ (l : List (Str × Tok)) (k : Nat), l.map (·.1) = Txt.split z ⟨#[c]⟩ → EP X pins σ Q (.ref s.heap.objs.size) { s with toks := k, heap := s.heap.push { cls := .type "list", data := .seq (strValues l).toArray } } := fun l k el =>
    ⟨.ref s.heap.objs.size, _, I.laid (t' := k) (o := .lst ((Txt.split z ⟨#[c]⟩).map V.str)) (fun b o e => Heap.get?_push_of_some _ e) (Nat.le_refl _)
      (show ObjOk X.prog X.w _ _ _ (.lst ((Txt.split z ⟨#[c]⟩).map V.str)) from ⟨by rw [List.length_map]; exact many, strValues l, 0, el ▸ vals_strs l, Heap.get?_push_size _ rfl⟩), rfl, q _ (I.hok.fresh (Nat.le_refl _))⟩
  have hy : ((⟨#[c]⟩ : Str).length == 0) = false := rfl
  cases h1 : (decide (z.length < (⟨#[c]⟩ : Str).length) || decide (strKind z < strKind ⟨#[c]⟩)) with
  | true =>
    have es : Txt.split z ⟨#[c]⟩ = [z] := by unfold Txt.split; rw [if_pos h1]
    exact call_meets F.slot_str_split (typeIs_str _ _ _) F.entry_str_split (F.args_str_split_2 _ _) (meets_str_split_cannot_occur z ⟨#[c]⟩ t t1 h1) (fin [(z, t)] s.toks es.symm)
  | false =>
    cases hf : (occurrences z ⟨#[c]⟩ 0 z.length (z.length + 1)).isEmpty with
    | true =>
      have es : Txt.split z ⟨#[c]⟩ = [z] := by unfold Txt.split; rw [if_neg (by rw [h1]; decide), if_pos hf]
      exact call_meets F.slot_str_split (typeIs_str _ _ _) F.entry_str_split (F.args_str_split_2 _ _) (meets_str_split_not_found z ⟨#[c]⟩ t t1 h1 hy hf) (fin [(z, t)] s.toks es.symm)
    | false =>
      have es : Txt.split z ⟨#[c]⟩ = partsBetween z (occurrences z ⟨#[c]⟩ 0 z.length (z.length + 1)) (⟨#[c]⟩ : Str).length := by unfold Txt.split; rw [if_neg (by rw [h1]; decide), if_neg (by rw [hf]; decide)]
      refine call_meets F.slot_str_split (typeIs_str _ _ _) F.entry_str_split (F.args_str_split_2 _ _) (meets_str_split_sep z ⟨#[c]⟩ t t1 h1 hy hf (by omega) (by rw [← es]; exact many)) ?_
      rw [strsFrom_eq]
      exact fin _ _ ((numbered_texts _ _).trans es.symm)
end
end L2

namespace L2
open PySem PySem.Spec PyProof.Rows
section
variable {X : Cx}
/-- // by a positive divisor of up to some thousand figures -/
def CDivB (_ j : Int) : Prop := 0 < j ∧ j.natAbs.log2 < 9000
end
end L2

namespace L2
open PySem PySem.Spec PyProof.Rows
section
variable {X : Cx}
end
end L2

namespace L2
open PySem PySem.Spec PyProof.Rows
/-! ### exceptions of the program's own classes -/
/-- what is tracked, and what was there in h0, is in B, but for the frames l -/
def Cov (l : List Env) (h0 : Heap) (H : Hp) (B h : Heap) : Prop := ∀ b o, h.get? b = some o → b ∉ frs l → (H b ≠ none ∨ ∃ o0, h0.get? b = some o0) → B.get? b = some o
/-- an exception at ea, of the class at C, flies through the frames l -/
def Fly (l : List Env) (h0 : Heap) (H : Hp) (ea C : Addr) (h : Heap) : Prop := ∃ B a0, Heap.FlyingW B l ea (.ref C) a0 h ∧ Cov l h0 H B h
def CXE (P : Program) (w : World) : CXT := fun outer H s E e s' => ∃ ea C H', e = .ref ea ∧ s'.os = s.os ∧ AllBare s'.gens ∧ Un (frs outer) [] H H' s.heap s'.heap ∧ HOk P w H' s'.heap ∧ Fly outer s.heap H' ea C s'.heap ∧ E e (some C) H'
section
variable {l : List Env} {H : Hp} {B h h' hc : Heap} {P : Program} {w : World}
theorem Cov.stay (c : Cov l hc H B h) (st : B.StaysIn h') : ∀ b o, h.get? b = some o → b ∉ frs l → (H b ≠ none ∨ ∃ o0, hc.get? b = some o0) → h'.get? b = some o := fun b o e nb hb => st b o (c b o e nb hb)
theorem HOk.moved (x : HOk P w H h) (c : Cov l hc H B h) (st : B.StaysIn h') (fr : ∀ b ∈ frs l, H b = none) : HOk P w H h' := fun a o e => by
  refine (x a o e).stay (fun b u hb q => ?_) (fun b q => q) fun b xs q => q
  have tr : H b ≠ none := by
    rcases hb with rfl | hb
    · rw [e]; intro z; cases z
    · rw [hb]; intro z; cases z
  exact c.stay st b u q (fun z => tr (fr b z)) (.inl tr)
theorem Un.moved {fs : List Addr} {H0 : Hp} {h0 : Heap} (u : Un fs [] H0 H h0 h) (c : Cov l hc H B h) (st : B.StaysIn h') (sm : h.UpToSlots h') (ff : h.FunFrames B l) (hn : ∀ b o, h0.get? b = some o → ∃ o', hc.get? b = some o')
    (hf : ∀ b ∈ fs, b ∈ frs l) (hl : ∀ b o, h0.get? b = some o → b ∈ frs l → b ∈ fs) : Un fs [] H0 H h0 h' := by
  have kp : ∀ b o0 o, h0.get? b = some o0 → b ∉ fs → h.get? b = some o → h'.get? b = some o := fun b o0 o e0 nb e => c.stay st b o e (fun z => nb (hl b o0 e0 z)) (.inr (hn b o0 e0))
  have sl : ∀ b o, b ∈ fs → h.get? b = some o → ∃ sl, h'.get? b = some { o with slots := sl } := fun b o hb e => by
    obtain ⟨_, o', e', d⟩ := ff.mem (show b ∈ l.filterMap (·.frame) from hf b hb)
    rw [e] at e'
    cases e'
    exact sm b o e d
  refine ⟨fun b o e z nb hx => kp b o o e nb (u.keep b o e z nb hx), fun b o e z hb hx => ?_, u.free, fun b o e hx => ?_, u.tups, u.frzs, u.tbls⟩
  · obtain ⟨s1, q⟩ := u.slot b o e z hb hx
    obtain ⟨s2, q2⟩ := sl b _ hb q
    exact ⟨s2, q2⟩
  · obtain ⟨o1, q⟩ := u.there b o e hx
    by_cases hb : b ∈ fs
    · obtain ⟨s2, q2⟩ := sl b _ hb q
      exact ⟨_, q2⟩
    · exact ⟨o1, kp b o o1 e hb q⟩
end
/-- the context of a def's body whose exceptions go on -/
structure Cx.Def (X : Cx) (E : XK) : Prop where
  stk : X.stack = X.env :: X.outer
  fr : X.env.frame = some X.env.locals
  ex : X.ex = []
  xe : X.xe = fun e s' => wpAny (model X.prog X.w) X.A (leaving X.env e) (fun _ s'' => CXE X.prog X.w X.outer X.H₀ X.s₀ E e s'') (fun e' s'' => CXE X.prog X.w X.outer X.H₀ X.s₀ E e' s'') s'
section
variable {X : Cx} {E : XK} {pins : List (Addr × Obj)} {σ : St} {H H' : Hp} {s s' : Shared}
theorem frs_cons (D : X.stack = X.env :: X.outer) (fr : X.env.frame = some X.env.locals) : frs X.stack = X.env.locals :: frs X.outer := by
  rw [D]
  show List.filterMap _ (X.env :: X.outer) = _
  rw [List.filterMap_cons, fr]
  rfl
end
section
variable {P : Program} {w : World} {K : PySem.W.Frag} {mg : Str → Option Value} {base : Heap}
end
end L2

namespace L2
open PySem PySem.Spec PyProof.Rows
/-- an error class of the text's own, as the top keeps it -/
theorem own_in {K : PySem.W.Frag} {h : Heap} {mg : Str → Option Value} {x : Str} {C : Addr} {bm : List Value} {new : String} (kin : K.In h) (hm : mg x = some (.ref C)) (q : PySem.W.excIn K C bm new = true) : OwnCls x C bm new mg h := by
  have key : ∀ o, K.lookup C = some o → ∃ tl N nm qn bs hdct sn sub ab col dd k0 k1 k2 k3 k5 mN, h.get? C = some (excClassObj nm qn C N bs tl hdct sn sub ab col dd k0 k1 k2 k3 k5 new) ∧ h.Ns N mN ∧ mN "__init__" = none ∧ OwnTail h bm tl := fun o lk => by
    unfold PySem.W.excIn at q
    rw [lk] at q
    obtain ⟨oc, od, odt, osl⟩ := o
    split at q
    · rename_i dd cd sl e0
      cases (Option.some.inj e0)
      obtain ⟨nm, bs, mro, ns, qn, hd, sn, sub, ab, col, del⟩ := cd
      split at q
      · rename_i C2 tl k0 k1 k2 k3 n2 k5 em es
        dsimp only at em q
        simp only [Bool.and_eq_true, beq_iff_eq, Bool.not_eq_true'] at q
        obtain ⟨⟨⟨⟨⟨q1, q2⟩, q3⟩, q4⟩, q5⟩, q6⟩ := q
        subst q1 q2 q3 em
        have esl : osl = #[k0, k1, k2, k3, some (.builtin n2), k5] := Array.toList_inj.mp es
        subst esl
        exact ⟨tl, ns, nm, qn, bs, hd, sn, sub, ab, col, od, k0, k1, k2, k3, k5, _, kin _ _ lk, .of_isNs (PySem.W.isNs_of_in kin q5), PySem.W.nsMap_none_of_in kin q5 q6, PySem.W.tail_of_in kin q4⟩
      · cases q
    · cases q
  refine ⟨hm, ?_⟩
  cases lk : K.lookup C with
  | none => unfold PySem.W.excIn at q; rw [lk] at q; cases q
  | some o => exact key o lk
section
variable {X : Cx} {E : XK}
/-- raise C(arg) -/
def tRaise (C : Addr) (E : XK) (ta : TA) : TS := fun _ σ H => ta σ H fun vs H1 => vs.length ≤ 1 ∧ ∀ ea, E (.ref ea) (some C) H1
end
end L2

namespace L2
open PySem PySem.Spec PyProof.Rows
/-- an exception that has come down -/
def ExcO (ea C : Addr) : HO := .ext fun h => ∃ o, h.get? ea = some o ∧ o.cls = .ref C
abbrev Cx.hnd (X : Cx) (ev : Value) : Cx := { X with A := X.A.mark (some ev), calm := false, xe := fun _ _ => False }
section
variable {X : Cx} {pins : List (Addr × Obj)} {σ : St} {H H1 : Hp} {s s1 : Shared} {ev : Value}
theorem Cx.Ok.hnd (ok : X.Ok) (ev : Value) : (X.hnd ev).Ok :=
  ⟨ok.mod, ok.kind, ok.glob, ok.blt, ok.above, ok.inj, ok.has, ok.cab, fun h => (by cases h), ok.frames, ok.stk, ok.exf, ok.bs, ok.bsz, ok.noex, ok.exfs, ok.funs, ok.frf⟩
theorem Inv.hnd (I : Inv X pins σ H s) (ev : Value) : Inv (X.hnd ev) pins σ H s := ⟨I.ok.hnd ev, I.os, I.bare, I.base, I.loc, I.cell, I.free, I.freeC, I.pin, I.hok, I.len⟩
theorem Inv.unhnd (ok : X.Ok) (I : Inv (X.hnd ev) pins σ H s) : Inv X pins σ H s := ⟨ok, I.os, I.bare, I.base, I.loc, I.cell, I.free, I.freeC, I.pin, I.hok, I.len⟩
theorem SP.unhnd {D : Ends} {f : Flow} {s' : Shared} (ok : X.Ok) (h : SP (X.hnd ev) pins D f s') : SP X pins D f s' := by
  cases f with
  | next => obtain ⟨σ', H', I', q⟩ := h; exact ⟨σ', H', I'.unhnd ok, q⟩
  | brk => obtain ⟨σ', H', I', q⟩ := h; exact ⟨σ', H', I'.unhnd ok, q⟩
  | cont => obtain ⟨σ', H', I', q⟩ := h; exact ⟨σ', H', I'.unhnd ok, q⟩
  | ret v => obtain ⟨x, σ', H', I', r, q⟩ := h; exact ⟨x, σ', H', I'.unhnd ok, r, q⟩
theorem UpToSlots.isCell {h h' : Heap} {c : Addr} {v : Option Value} (sm : h.UpToSlots h') (x : h.IsCell c v) : h'.IsCell c v := by
  obtain ⟨o, e, d⟩ := x
  obtain ⟨sl, e2⟩ := sm c o e fun vs q => by rw [d] at q; cases q
  exact ⟨_, e2, d⟩
/-- the flight moves on, the body's state stays -/
theorem Inv.moved {B h2 : Heap} (I1 : Inv X pins σ H1 s1) (I : Inv X pins σ H s) (hst : X.stack = X.env :: X.outer) (fr : X.env.frame = some X.env.locals) (hex : X.ex = []) (c : Cov X.stack s1.heap H B s.heap) (st : B.StaysIn h2) (sm : s.heap.UpToSlots h2)
    (ff : s.heap.FunFrames B X.stack) : Inv X pins σ H { s with heap := h2 } := by
  have fc := frs_cons hst fr
  have b0 : Un X.fs [] X.H₀ H X.s₀.heap s.heap := by have := I.base; rw [hex] at this; exact this
  have sub : ∀ b o, X.s₀.heap.get? b = some o → ∃ o', s1.heap.get? b = some o' := fun b o e => I1.base.there b o e (by rw [hex]; simp)
  have nL : ∀ b o, X.s₀.heap.get? b = some o → b ≠ X.env.locals := fun b o e z => absurd (Heap.lt_size e) (by rw [z]; exact Nat.not_lt.mpr I.ok.above)
  refine ⟨I.ok, I.os, I.bare, ?_, ?_, fun x cc e => ?_, I.free, I.freeC, fun p hp => ?_, I.hok.moved c st I.stkFree, I.len⟩
  · rw [hex]
    refine b0.moved c st sm ff sub (fun b hb => by rw [fc]; exact List.mem_cons_of_mem _ hb) fun b o e hb => ?_
    rw [fc] at hb
    rcases List.mem_cons.mp hb with z | z
    · exact absurd z (nL b o e)
    · exact z
  · obtain ⟨m, hn, hl⟩ := I.loc
    refine ⟨m, sm.ns hn, fun i x v a b cc => ?_⟩
    obtain ⟨u, r, lk⟩ := hl i x v a b cc
    refine ⟨u, r, ?_⟩
    rcases lk with z | ⟨z, cl, e, ic⟩
    · exact .inl z
    · exact .inr ⟨z, cl, e, UpToSlots.isCell sm ic⟩
  · obtain ⟨v, q⟩ := I.cell x cc e
    exact ⟨v, UpToSlots.isCell sm q⟩
  · obtain ⟨e, f, nl, nf, d⟩ := I.pin p hp
    refine ⟨c.stay st p.1 p.2 e (fun z => ?_) (.inr ⟨_, (I1.pin p hp).1⟩), f, nl, nf, d⟩
    rw [fc] at z
    rcases List.mem_cons.mp z with z | z
    · exact nl z
    · exact nf z
/-- the exception is tracked from here on -/
theorem Inv.exc {ea C : Addr} {oe : Obj} (I : Inv X pins σ H s) (hx : H ea = none) (ho : s.heap.get? ea = some oe) (hc : oe.cls = .ref C) (h0 : X.s₀.heap.get? ea = none) (hL : ea ≠ X.env.locals) (hcl : ∀ y c, X.env.cells.lookup y = some c → c ≠ ea)
    (hp : ∀ p ∈ X.pn ++ pins, p.1 ≠ ea) : Inv X pins σ (upd H ea (ExcO ea C)) s := by
  refine ⟨I.ok, I.os, I.bare, ⟨I.base.keep, I.base.slot, fun b o e z nx => ?_, I.base.there, fun b xs e => ?_, fun b o u e => ?_, fun b ps e => ?_⟩, I.loc, I.cell, ?_, fun y c e => ?_, fun p hp' => ?_, fun b u e => ?_, I.len⟩
  · rw [upd_ne (fun z2 => by rw [z2, h0] at e; cases e)]; exact I.base.free b o e z nx
  · have q := I.base.tups b xs e
    rw [upd_ne (ne_of_none q hx)]; exact q
  · have q := I.base.frzs b o u e
    rw [upd_ne (ne_of_none q hx)]; exact q
  · obtain ⟨more, q⟩ := I.base.tbls b ps e
    exact ⟨more, by rw [upd_ne (ne_of_none q hx)]; exact q⟩
  · rw [upd_ne hL.symm]; exact I.free
  · rw [upd_ne (hcl y c e)]; exact I.freeC y c e
  · obtain ⟨e, f, r⟩ := I.pin p hp'
    exact ⟨e, by rw [upd_ne (hp p hp')]; exact f, r⟩
  · by_cases hb : b = ea
    · subst hb
      rw [upd_same] at e
      cases e
      exact ⟨⟨oe, ho, hc⟩, ⟨oe, ho⟩, fun h1 h2 ⟨o, e, c⟩ k => ⟨o, k o e, c⟩⟩
    · rw [upd_ne hb] at e
      exact (I.hok b u e).stay (fun c v _ q => q) (fun c q => by rw [upd_ne (ne_of_none q hx)]; exact q) fun c xs q => by rw [upd_ne (ne_of_none q hx)]; exact q
/-- a handler's class takes the exception -/
def Takes (X : Cx) (C CB : Addr) : Prop := ∀ (A : Around) (s : Shared) (ea : Addr) (ob : Obj) (Q : Bool → Shared → Prop) (E : Value → Shared → Prop), X.K.In s.heap → s.heap.get? ea = some ob → ob.cls = .ref C → Q true s → wpAny (model X.prog X.w) A (excMatches (.ref ea) (.ref CB)) Q E s
theorem takes_self {x : Str} {C : Addr} {bm : List Value} {new : String} (hm : X.mg x = some (.ref C)) (qx : PySem.W.excIn X.K C bm new = true) (hb : bm.contains (.type "BaseException") = true) : Takes X C C := by
  intro A s ea ob Q E k ho hc q
  obtain ⟨tl, N, nm, q', bs, hdct, sn, sub, ab, col, dd, k0, k1, k2, k3, k5, mN, hC, hN, hni, T⟩ := (own_in k hm qx).obj
  obtain ⟨h, g, d, t, os⟩ := s
  exact wpAny_excMatches_sub_self hC ho hc (T.hasType hb) q
/-- the exception comes down at a handler -/
theorem lands {ea C CB : Addr} {cx : Str} {np hpos : Pos} {b₀ : Stmt} {suite : List Stmt} {rest : List ExceptHandler} {D : Ends} {th : TS} {E : Value → Shared → Prop} (I1 : Inv X pins σ H1 s1) (I : Inv X pins σ H s) (hst : X.stack = X.env :: X.outer) (fr : X.env.frame = some X.env.locals) (hex : X.ex = [])
    (fly : Fly X.stack s1.heap H ea C s.heap) (hg : Gl X cx) (hm : X.mg cx = some (.ref CB)) (tk : Takes X C CB) (hs : ∀ ev, PSs (X.hnd ev) (b₀ :: suite) th) (q : H ea = none → th D σ (upd H ea (ExcO ea C))) (hd : (cx == ("__debug__" : Str)) = false) :
    wpAny (model X.prog X.w) X.A (noteFrame (.ref ea) X.env) (fun _ s₂ => wpAny (model X.prog X.w) X.A (setFlight (.ref ea) none) (fun _ s₃ =>
      wpAny (model X.prog X.w) X.A (handleBy (.ref ea) X.env (.ExceptHandler (some (.Name cx np)) none (b₀ :: suite) hpos :: rest)) (SP X pins D) E s₃) E s₂) E s := by
  obtain ⟨B, a0, fl, c⟩ := fly
  have hfr : X.A.frames = some (X.env :: X.outer) := by rw [I.ok.frames, hst]
  have ff := fl.2.2.1
  have fl' : Heap.FlyingW B (X.env :: X.outer) ea (.ref C) a0 s.heap := by rw [← hst]; exact fl
  refine wpAny_looks_onW hfr fr fl' fun h₄ held₄ sm₄ => ?_
  refine wpAny_landsW held₄ fun h₅ fl₅ sm₅ => ?_
  have I5 := Inv.moved I1 I hst fr hex c fl₅.1 (sm₄.trans sm₅) ff
  obtain ⟨ob, hob, hobc⟩ := fl₅.there
  refine wpAny_handleBy_cons (codeAny_handlers_test (ld_glob (X := X.hnd (.ref ea)) (I5.hnd (.ref ea)) hg hm ?_ hd)) (by intro z; cases z)
  refine tk _ _ ea ob _ _ I5.kIn hob hobc (codeAny_handlers_suite ?_)
  refine lands_againW (s := { s with heap := h₅ }) fl₅ fun h₆ fl₆ sm₆ => ?_
  have I6 := Inv.moved I1 I hst fr hex c fl₆.1 ((sm₄.trans sm₅).trans sm₆) ff
  obtain ⟨oe, ws, hoe, hoec, hoed, hoe0⟩ := fl₆.first
  have nfr : ea ∉ frs X.stack := fun z => by
    have ff6 := fl₆.2.2.1
    rw [← hst] at ff6
    obtain ⟨_, o', e', d'⟩ := ff6.mem (show ea ∈ X.stack.filterMap (·.frame) from z)
    rw [hoe] at e'
    cases e'
    exact d' ws hoed
  obtain ⟨o1, e1, _⟩ := fl.there
  have hB := fl.2.1
  have hHe : H ea = none := by
    cases z : H ea with
    | none => rfl
    | some u =>
      have := c ea o1 e1 nfr (.inl (by rw [z]; intro y; cases y))
      rw [hB] at this; cases this
  have h1e : s1.heap.get? ea = none := by
    cases z : s1.heap.get? ea with
    | none => rfl
    | some u =>
      have := c ea o1 e1 nfr (.inr ⟨u, z⟩)
      rw [hB] at this; cases this
  have h0e : X.s₀.heap.get? ea = none := by
    cases z : X.s₀.heap.get? ea with
    | none => rfl
    | some u =>
      obtain ⟨o', e'⟩ := I1.base.there ea u z (by rw [hex]; simp)
      rw [h1e] at e'; cases e'
  have I6x := I6.exc hHe hoe hoec h0e (fun z => nfr (by rw [frs_cons hst fr, z]; exact List.mem_cons_self)) (fun y cc e z => by
    obtain ⟨v, o, e', _⟩ := I1.cell y cc e
    rw [z, h1e] at e'; cases e') fun p hp z => by
      have := (I1.pin p hp).1
      rw [z, h1e] at this; cases this
  exact wpAny_mono (hs (.ref ea) pins _ σ _ D (I6x.hnd _) (q hHe)) (fun f s7 h7 => SP.unhnd I.ok h7) fun _ _ z => z.elim
/-! ### try around one call -/
abbrev TX := St → Hp → VK → XK → Prop
def XP (X : Cx) (pins : List (Addr × Obj)) (σ : St) (E : XK) (ev : Value) (s' : Shared) : Prop := ∃ s1 H1 ea C H', Inv X pins σ H1 s1 ∧ ev = .ref ea ∧ Inv X pins σ H' s' ∧ Fly X.stack s1.heap H' ea C s'.heap ∧ E ev (some C) H'
def PEX (X : Cx) (e : Expr) (t : TX) : Prop :=
  ∀ (pins : List (Addr × Obj)) (s : Shared) (σ : St) (H : Hp) (Q : VK) (E : XK), Inv X pins σ H s → t σ H Q E → wpAny (model X.prog X.w) X.A (eval e X.env) (EP X pins σ Q) (XP X pins σ E) s
def xCall (sp : Sp) (dvs : List V) (t : TA) : TX := fun σ H Q E => t σ H fun vs H1 => sp (vs ++ dvs) H1 Q E
end
section
variable {X : Cx} {k : Nat} {f C : Addr} {fd : FuncData} {ps : List Str} {sp : Sp} {dvs : List V} {ds : List Value} {x : Str} {p pos : Pos} {e : Expr} {es : List Expr} {t : TA}
end
section
variable {X : Cx} {e : Expr} {t : TX} {C CB : Addr} {cx y : Str} {np hpos pos py apos : Pos} {b₀ : Stmt} {suite : List Stmt} {th : TS} {j : Nat}
def tTrySet (j : Nat) (C : Addr) (t : TX) (th : TS) : TS := fun D σ H => t σ H (fun v H1 => D.nx (σ.set j (some v)) H1) fun ev c H1 => ∃ ea, ev = .ref ea ∧ c = some C ∧ (H1 ea = none → th D σ (upd H1 ea (ExcO ea C)))
theorem ps_trySet (hst : X.stack = X.env :: X.outer) (fr : X.env.frame = some X.env.locals) (hex : X.ex = []) (hN : X.N.Nodup) (hj : X.N[j]? = some y) (hy : Loc X.env.scope y) (he : PEX X e t) (hg : Gl X cx) (hm : X.mg cx = some (.ref CB)) (tk : Takes X C CB)
    (hs : ∀ ev, PSs (X.hnd ev) (b₀ :: suite) th) (hd : (cx == ("__debug__" : Str)) = false := by decide) (hsw : swapsWith e (some (.Name y py)) apos.line X.env = pure false := by rfl)
    (hf : X.fn y = true ∨ X.env.scope.names.lookup y = some .local := by first | exact .inl rfl | exact .inr rfl | assumption) :
    PS X (.Try [.Assign [.Name y py] e apos] [.ExceptHandler (some (.Name cx np)) none (b₀ :: suite) hpos] [] [] pos) (tTrySet j C t th) := by
  intro pins s σ H D I h
  refine wpAny_Try_except (wpAny_execs_cons (wpAny_mono (wpAny_Assign_Name (Q := fun f s1 => f = .next ∧ SP X pins D .next s1) (wpAny_mono (he pins s σ H _ _ I h) (fun v s1 ⟨y1, H1, I1, r1, q1⟩ => ?_) fun ev s1 hx => ?_) hsw) (fun f s1 hq => ?_) fun _ _ z => z))
  · exact store_ok I1 hN hj hy r1 (fun s2 I2 => ⟨rfl, _, H1, I2, q1⟩) hf
  · obtain ⟨s0, H0, ea, C', H', I0, rfl, I', fl, ea2, e2, rfl', q⟩ := hx
    cases e2
    obtain rfl : C' = C := Option.some.inj rfl'
    exact lands I0 I' hst fr hex fl hg hm tk hs q hd
  · obtain ⟨rfl, hq⟩ := hq
    exact wpAny_execs_nil (wpAny_execs_nil hq)
def tTryDrop (C : Addr) (t : TX) (th : TS) : TS := fun D σ H => t σ H (fun _ H1 => D.nx σ H1) fun ev c H1 => ∃ ea, ev = .ref ea ∧ c = some C ∧ (H1 ea = none → th D σ (upd H1 ea (ExcO ea C)))
end
end L2

namespace L2
open PySem PySem.Spec PyProof.Rows PySem.Builtin PySem.Builtin.ObjectAttr PySem.Builtin.Getset_descriptor
/-! ### the kind of an exception of an own class -/
section
variable {prog : Program} {w : World} {A : Around} {E : Value → Shared → Prop} {s : Shared} {K : PySem.W.Frag} {x D : Addr} {ox : Obj}
/-- what the top must say of such a class -/
structure ExcK (K : PySem.W.Frag) (D : Addr) : Prop where
  ga : PySem.W.findIn K (.ref D) "__getattribute__" = some (some (.builtin "BaseException.__getattribute__"))
  gh : PySem.W.findIn K (.ref D) "__getattr__" = some none
  ha : PySem.W.findIn K (.ref D) "__class__" = some (some (.builtin "object.__class__"))
  hn : PySem.W.specialIn K (.builtin "object.__class__") "__get__" = some (some (.builtin "getset_descriptor.__get__"))
  htk : PySem.W.takesIn K (.builtin "object.__class__") = some true
  hm : PySem.W.mroIn K D (.type "object") = some true
  hb : PySem.W.mroIn K D (.type "BaseException") = some true
end
end L2

namespace L2
open PySem PySem.Spec PyProof.Rows
section
variable {K : PySem.W.Frag} {x D : Addr}
end
section
variable {X : Cx}
end
section
variable {X : Cx} {pins : List (Addr × Obj)} {σ : St} {H H1 : Hp} {s s1 : Shared} {ev : Value}
def Ends.gone (D : Ends) (i : Nat) : Ends := ⟨fun σ H => D.nx (σ.set i none) H, D.rt, fun σ H => D.bk (σ.set i none) H, fun σ H => D.ct (σ.set i none) H⟩
end
section
variable {X : Cx} {e : Expr} {t : TX} {C CB : Addr} {cx n : Str} {np hpos pos epos : Pos} {b₀ : Stmt} {suite : List Stmt} {th : TS} {i : Nat}
/-- try: one call, dropped; except CB as n -/
def tTryAs (i : Nat) (C : Addr) (t : TX) (th : TS) : TS := fun D σ H => t σ H (fun _ H1 => D.nx σ H1) fun ev c H1 => ∃ ea, ev = .ref ea ∧ c = some C ∧ (H1 ea = none → th (D.gone i) (σ.set i (some (.ref ea))) (upd H1 ea (ExcO ea C)))
end
end L2

/-! data that == compares: flat values and tuples of them; lists of such -/
namespace L2
open PySem PySem.Spec PyProof.Rows
section
variable {P : Program} {w : World} {K : PySem.W.Frag} {H : Hp} {h : Heap} {a b : Addr} {xs ys : List V}
theorem sqL_raw (hok : HOk P w H h) (kin : K.In h) (q : SqL K H a xs) : ∃ its : List Value, Vals xs its ∧ PlainL h a its.toArray ∧ xs.length ≤ sizeLine := by
  rcases q with q | ⟨o, its, n, hk, hc, hd, hs, hz, r⟩
  · obtain ⟨z, its, n, r, e⟩ := q.ok hok
    exact ⟨its, r, ⟨_, n, e, rfl, rfl, rfl⟩, z⟩
  · refine ⟨its.toList, r, ⟨o, n, kin a o hk, hc, hd, by simpa using hs⟩, ?_⟩
    have e := r.length
    simp only [Array.length_toList] at e
    omega
theorem sqT_raw (hok : HOk P w H h) (kin : K.In h) (q : SqT K H a xs) : ∃ its : List Value, Vals xs its ∧ IsTup h a its.toArray ∧ xs.length ≤ sizeLine := by
  rcases q with q | ⟨o, its, n, hk, hc, hs, hz, r⟩
  · obtain ⟨z, its, r, p⟩ := q.ok hok
    exact ⟨its, r, p, z⟩
  · refine ⟨its.toList, r, ⟨o, kin a o hk, hc, n, by simpa using hs⟩, ?_⟩
    have e := r.length
    simp only [Array.length_toList] at e
    omega
theorem sqT_inj (hok : HOk P w H h) (kin : K.In h) (q : SqT K H a xs) (q' : SqT K H a ys) : xs = ys := by
  obtain ⟨its, r, ⟨o, e, _, n, d⟩, _⟩ := sqT_raw hok kin q
  obtain ⟨its', r', ⟨o', e', _, n', d'⟩, _⟩ := sqT_raw hok kin q'
  rw [e] at e'; cases e'
  rw [d] at d'
  injection d' with d1 _
  have : its = its' := by simpa using congrArg Array.toList d1
  subst this
  exact r.inj r'
/-- a tuple: a new one, or one of the module -/
def SqU (K : PySem.W.Frag) (H : Hp) (a : Addr) (xs : List V) : Prop :=
  H a = some (.tup xs) ∨ ∃ (o : Obj) (its : Array Value) (n : Nat), K.lookup a = some o ∧ o.cls = .type "tuple" ∧ o.data = .seq its n ∧ its.size ≤ sizeLine ∧ Vals xs its.toList
theorem SqU.sq (q : SqU K H a xs) : SqT K H a xs := q.elim (fun z => .inl (.inl z)) .inr
/-- the tuples stay -/
def TSame (H H' : Hp) : Prop := ∀ b xs, H b = some (.tup xs) → H' b = some (.tup xs)
theorem Same.ts {H H' : Hp} (e : Same H H') : TSame H H' := fun b xs h => e b _ h
theorem SqU.keep {H' : Hp} (e : TSame H H') (q : SqU K H a xs) : SqU K H' a xs := q.elim (fun z => .inl (e _ _ z)) .inr
end
/-! ### answers of == and != -/
def EqIs (K : PySem.W.Frag) (n : Nat) (H : Hp) (x y : V) (b : Bool) : Prop :=
  ∀ (P : Program) (w : World) (A : Around) (s : Shared) (u v : Value), A.units + n < cLine → HOk P w H s.heap → K.In s.heap → RelV x u → RelV y v → SeqAt.EqAt A s u v b
def RcIs (K : PySem.W.Frag) (n : Nat) (H : Hp) (x y : V) (b : Bool) : Prop :=
  ∀ (P : Program) (w : World) (A : Around) (s : Shared) (u v : Value), A.units + n < cLine → HOk P w H s.heap → K.In s.heap → RelV x u → RelV y v → SeqAt.RcAt A s u v b
def NeIs (K : PySem.W.Frag) (n : Nat) (H : Hp) (x y : V) (b : Bool) : Prop :=
  ∀ (P : Program) (w : World) (A : Around) (s : Shared) (u v : Value), A.units + n < cLine → HOk P w H s.heap → K.In s.heap → RelV x u → RelV y v → SeqAt.RcNeAt A s u v (!b)
section
variable {K : PySem.W.Frag} {H : Hp} {a b : Addr} {n m : Nat} {x y : V} {r : Bool}
theorem EqIs.mono (h : EqIs K n H x y r) (le : n ≤ m) : EqIs K m H x y r := fun P w A s u v hA => h P w A s u v (by omega)
theorem tupRc {us vs : List V} {e : Nat → Bool} (ha : SqT K H a us) (hb : SqT K H b vs) (hl : us.length = vs.length) (he : ∀ (j : Nat) x y, us[j]? = some x → vs[j]? = some y → EqIs K n H x y (e j)) :
    RcIs K (n + 1) H (.ref a) (.ref b) ((List.range us.length).all e) ∧ NeIs K (n + 1) H (.ref a) (.ref b) ((List.range us.length).all e) := by
  have main : ∀ (P : Program) (w : World) (A : Around) (s : Shared) (u v : Value), A.units + (n + 1) < cLine → HOk P w H s.heap → K.In s.heap → RelV (.ref a) u → RelV (.ref b) v →
      SeqAt.RcAt A s u v ((List.range us.length).all e) ∧ SeqAt.RcNeAt A s u v (!(List.range us.length).all e) := by
    intro P w A s u v hA hok kin r1 r2
    cases r1
    cases r2
    obtain ⟨i1, v1, p1, _⟩ := sqT_raw hok kin ha
    obtain ⟨i2, v2, p2, _⟩ := sqT_raw hok kin hb
    have l1 := v1.length
    have l2 := v2.length
    have items : ∀ j (h1 : j < i1.toArray.size) (h2 : j < i2.toArray.size), SeqAt.EqAt A.in1 s i1.toArray[j] i2.toArray[j] (e j) := fun j h1 h2 => by
      have h1' : j < i1.length := by simpa using h1
      have h2' : j < i2.length := by simpa using h2
      have e1 : us[j]? = some us[j] := List.getElem?_eq_getElem (by omega)
      have e2 : vs[j]? = some vs[j] := List.getElem?_eq_getElem (by omega)
      obtain ⟨u, eu, ru⟩ := v1.get e1
      obtain ⟨v, ev, rv⟩ := v2.get e2
      have q := he j _ _ e1 e2 P w A.in1 s u v (by show A.units + 1 + n < cLine; omega) hok kin ru rv
      have z1 : i1.toArray[j] = u := by
        rw [List.getElem?_eq_getElem h1'] at eu
        simpa using Option.some.inj eu
      have z2 : i2.toArray[j] = v := by
        rw [List.getElem?_eq_getElem h2'] at ev
        simpa using Option.some.inj ev
      rw [z1, z2]
      exact q
    have ez : ((List.range (min i1.toArray.size i2.toArray.size)).all e && i1.toArray.size == i2.toArray.size) = (List.range us.length).all e := by
      have s1 : i1.toArray.size = us.length := by simp [l1]
      have s2 : i2.toArray.size = us.length := by simp [← l2, hl]
      rw [s1, s2, Nat.min_self]
      simp
    constructor
    · have q := SeqAt.RcAt.tuples (A := A) (s := s) (e := e) p1 p2 (by omega) items
      rw [ez] at q
      exact q
    · have q := SeqAt.RcNeAt.tuples (A := A) (s := s) (e := e) p1 p2 (by omega) items
      rw [ez] at q
      exact q
  exact ⟨fun P w A s u v h1 h2 h3 h4 h5 => (main P w A s u v h1 h2 h3 h4 h5).1, fun P w A s u v h1 h2 h3 h4 h5 => (main P w A s u v h1 h2 h3 h4 h5).2⟩
theorem eqIs_ref (h : RcIs K n H (.ref a) (.ref b) r) (hs : ∀ (P : Program) (w : World) (h : Heap), HOk P w H h → K.In h → a = b → r = true) : EqIs K n H (.ref a) (.ref b) r := by
  intro P w A s u v hA hok kin r1 r2
  have q := h P w A s u v hA hok kin r1 r2
  cases r1
  cases r2
  by_cases e : a = b
  · rw [hs P w s.heap hok kin e, e]
    exact SeqAt.EqAt.same _
  · exact SeqAt.EqAt.of_refs e q
end
/-- a kind of data: how it lies, that it lies for one thing alone, and what == and != tell of it -/
structure Cod (α : Type) [DecidableEq α] where
  n : Nat
  rp : PySem.W.Frag → Hp → α → V → Prop
  inj : ∀ {P : Program} {w : World} {K : PySem.W.Frag} {H : Hp} {h : Heap} {x y : α} {v : V}, HOk P w H h → K.In h → rp K H x v → rp K H y v → x = y
  eq : ∀ {K : PySem.W.Frag} {H : Hp} {x y : α} {u v : V}, rp K H x u → rp K H y v → EqIs K n H u v (decide (x = y))
  rc : ∀ {K : PySem.W.Frag} {H : Hp} {x y : α} {u v : V}, rp K H x u → rp K H y v → RcIs K n H u v (decide (x = y))
  ne : ∀ {K : PySem.W.Frag} {H : Hp} {x y : α} {u v : V}, rp K H x u → rp K H y v → NeIs K n H u v (decide (x = y))
  keep : ∀ {K : PySem.W.Frag} {H H' : Hp} {x : α} {v : V}, TSame H H' → rp K H x v → rp K H' x v
def cInt : Cod Int where
  n := 0
  rp _ _ i v := v = .int i
  inj _ _ h1 h2 := by
    rw [h1] at h2
    exact V.int.inj h2
  eq h1 h2 := by
    intro P w A s u v _ _ _ r1 r2
    subst h1 h2
    obtain ⟨t, rfl⟩ := r1
    obtain ⟨t', rfl⟩ := r2
    rw [← Bool.beq_eq_decide_eq]
    exact SeqAt.EqAt.int_int _ t _ t'
  rc h1 h2 := by
    intro P w A s u v _ _ _ r1 r2
    subst h1 h2
    obtain ⟨t, rfl⟩ := r1
    obtain ⟨t', rfl⟩ := r2
    rw [← Bool.beq_eq_decide_eq]
    exact SeqAt.RcAt.int_int _ t _ t'
  ne h1 h2 := by
    intro P w A s u v _ _ _ r1 r2
    subst h1 h2
    obtain ⟨t, rfl⟩ := r1
    obtain ⟨t', rfl⟩ := r2
    rw [← Bool.beq_eq_decide_eq]
    exact SeqAt.RcNeAt.int_int _ t _ t'
  keep _ h := h
theorem str_beq_dec (x y : Str) : decide (x = y) = (x == y) := by
  rw [Bool.eq_iff_iff]
  simp
def cStr : Cod Str where
  n := 0
  rp _ _ i v := v = .str i
  inj _ _ h1 h2 := by
    rw [h1] at h2
    exact V.str.inj h2
  eq h1 h2 := by
    intro P w A s u v _ _ _ r1 r2
    subst h1 h2
    obtain ⟨t, rfl⟩ := r1
    obtain ⟨t', rfl⟩ := r2
    rw [str_beq_dec]
    exact SeqAt.EqAt.str_str _ t _ t'
  rc h1 h2 := by
    intro P w A s u v _ _ _ r1 r2
    subst h1 h2
    obtain ⟨t, rfl⟩ := r1
    obtain ⟨t', rfl⟩ := r2
    rw [str_beq_dec]
    exact SeqAt.RcAt.str_str _ t _ t'
  ne h1 h2 := by
    intro P w A s u v _ _ _ r1 r2
    subst h1 h2
    obtain ⟨t, rfl⟩ := r1
    obtain ⟨t', rfl⟩ := r2
    rw [str_beq_dec]
    exact SeqAt.RcNeAt.str_str _ t _ t'
  keep _ h := h
def cBl : Cod Bool where
  n := 0
  rp _ _ i v := v = .bl i
  inj _ _ h1 h2 := by
    rw [h1] at h2
    exact V.bl.inj h2
  eq h1 h2 := by
    intro P w A s u v _ _ _ r1 r2
    subst h1 h2
    cases r1
    cases r2
    rw [← Bool.beq_eq_decide_eq]
    exact SeqAt.EqAt.bool_bool _ _
  rc h1 h2 := by
    intro P w A s u v _ _ _ r1 r2
    subst h1 h2
    cases r1
    cases r2
    rw [← Bool.beq_eq_decide_eq]
    exact SeqAt.RcAt.bool_bool _ _
  ne h1 h2 := by
    intro P w A s u v _ _ _ r1 r2
    subst h1 h2
    cases r1
    cases r2
    rw [← Bool.beq_eq_decide_eq]
    exact SeqAt.RcNeAt.bool_bool _ _
  keep _ h := h
section
variable {α β γ : Type} [DecidableEq α] [DecidableEq β] [DecidableEq γ]
def cVia (f : β → α) (hf : ∀ x y, f x = f y → x = y) (c : Cod α) : Cod β where
  n := c.n
  rp K H x v := c.rp K H (f x) v
  inj h1 h2 h3 h4 := hf _ _ (c.inj h1 h2 h3 h4)
  eq {K H x y u v} h1 h2 := by
    have e : decide (x = y) = decide (f x = f y) := decide_eq_decide.mpr ⟨fun z => by rw [z], fun z => hf _ _ z⟩
    rw [e]
    exact c.eq h1 h2
  rc {K H x y u v} h1 h2 := by
    have e : decide (x = y) = decide (f x = f y) := decide_eq_decide.mpr ⟨fun z => by rw [z], fun z => hf _ _ z⟩
    rw [e]
    exact c.rc h1 h2
  ne {K H x y u v} h1 h2 := by
    have e : decide (x = y) = decide (f x = f y) := decide_eq_decide.mpr ⟨fun z => by rw [z], fun z => hf _ _ z⟩
    rw [e]
    exact c.ne h1 h2
  keep h1 h2 := c.keep h1 h2
def rT2 (c : Cod α) (d : Cod β) (K : PySem.W.Frag) (H : Hp) (x : α × β) (v : V) : Prop := ∃ a u w, v = .ref a ∧ SqU K H a [u, w] ∧ c.rp K H x.1 u ∧ d.rp K H x.2 w
theorem rT2_inj {c : Cod α} {d : Cod β} {P : Program} {w : World} {K : PySem.W.Frag} {H : Hp} {h : Heap} {x y : α × β} {v : V} (hok : HOk P w H h) (kin : K.In h) (h1 : rT2 c d K H x v) (h2 : rT2 c d K H y v) : x = y := by
  obtain ⟨a, u, t, rfl, ha, hu, ht⟩ := h1
  obtain ⟨b, u', t', e, hb, hu', ht'⟩ := h2
  cases e
  have z := sqT_inj hok kin ha.sq hb.sq
  cases z
  exact Prod.ext (c.inj hok kin hu hu') (d.inj hok kin ht ht')
theorem rT2_rc {c : Cod α} {d : Cod β} {K : PySem.W.Frag} {H : Hp} {x y : α × β} {u v : V} (h1 : rT2 c d K H x u) (h2 : rT2 c d K H y v) :
    RcIs K (max c.n d.n + 1) H u v (decide (x = y)) ∧ NeIs K (max c.n d.n + 1) H u v (decide (x = y)) := by
  obtain ⟨a, u, t, rfl, ha, hu, ht⟩ := h1
  obtain ⟨b, u', t', rfl, hb, hu', ht'⟩ := h2
  have T := tupRc (n := max c.n d.n) (e := fun j => if j = 0 then decide (x.1 = y.1) else decide (x.2 = y.2)) ha.sq hb.sq rfl (fun j p q e1 e2 => by
    match j, e1, e2 with
    | 0, e1, e2 => cases e1; cases e2; exact (c.eq hu hu').mono (Nat.le_max_left _ _)
    | 1, e1, e2 => cases e1; cases e2; exact (d.eq ht ht').mono (Nat.le_max_right _ _))
  have e : ((List.range ([u, t] : List V).length).all fun j => if j = 0 then decide (x.1 = y.1) else decide (x.2 = y.2)) = decide (x = y) := by
    show (decide (x.1 = y.1) && (decide (x.2 = y.2) && true)) = decide (x = y)
    rw [Bool.and_true, ← Bool.decide_and]
    exact decide_eq_decide.mpr (Prod.ext_iff (x := x) (y := y)).symm
  rw [e] at T
  exact T
def cT2 (c : Cod α) (d : Cod β) : Cod (α × β) where
  n := max c.n d.n + 1
  rp := rT2 c d
  inj := rT2_inj
  rc h1 h2 := (rT2_rc h1 h2).1
  ne h1 h2 := (rT2_rc h1 h2).2
  eq {K H x y u v} h1 h2 := by
    have r := (rT2_rc h1 h2).1
    have i := fun P w h hok kin => rT2_inj (c := c) (d := d) (P := P) (w := w) (K := K) (H := H) (h := h) (x := x) (y := y) (v := v) hok kin
    obtain ⟨a, _, _, rfl, _⟩ := id h1
    obtain ⟨b, _, _, rfl, _⟩ := id h2
    refine eqIs_ref r fun P w h hok kin e => ?_
    subst e
    exact decide_eq_true (i P w h hok kin h1 h2)
  keep e h := let ⟨a, u, w, h1, h2, h3, h4⟩ := h; ⟨a, u, w, h1, h2.keep e, c.keep e h3, d.keep e h4⟩
def rT3 (c : Cod α) (d : Cod β) (f : Cod γ) (K : PySem.W.Frag) (H : Hp) (x : α × β × γ) (v : V) : Prop := ∃ a u w z, v = .ref a ∧ SqU K H a [u, w, z] ∧ c.rp K H x.1 u ∧ d.rp K H x.2.1 w ∧ f.rp K H x.2.2 z
theorem rT3_inj {c : Cod α} {d : Cod β} {f : Cod γ} {P : Program} {w : World} {K : PySem.W.Frag} {H : Hp} {h : Heap} {x y : α × β × γ} {v : V} (hok : HOk P w H h) (kin : K.In h) (h1 : rT3 c d f K H x v) (h2 : rT3 c d f K H y v) : x = y := by
  obtain ⟨a, u, t, z, rfl, ha, hu, ht, hz⟩ := h1
  obtain ⟨b, u', t', z', e, hb, hu', ht', hz'⟩ := h2
  cases e
  have q := sqT_inj hok kin ha.sq hb.sq
  cases q
  exact Prod.ext (c.inj hok kin hu hu') (Prod.ext (d.inj hok kin ht ht') (f.inj hok kin hz hz'))
theorem rT3_rc {c : Cod α} {d : Cod β} {f : Cod γ} {K : PySem.W.Frag} {H : Hp} {x y : α × β × γ} {u v : V} (h1 : rT3 c d f K H x u) (h2 : rT3 c d f K H y v) :
    RcIs K (max c.n (max d.n f.n) + 1) H u v (decide (x = y)) ∧ NeIs K (max c.n (max d.n f.n) + 1) H u v (decide (x = y)) := by
  obtain ⟨a, u, t, z, rfl, ha, hu, ht, hz⟩ := h1
  obtain ⟨b, u', t', z', rfl, hb, hu', ht', hz'⟩ := h2
  have T := tupRc (n := max c.n (max d.n f.n)) (e := fun j => if j = 0 then decide (x.1 = y.1) else if j = 1 then decide (x.2.1 = y.2.1) else decide (x.2.2 = y.2.2)) ha.sq hb.sq rfl (fun j p q e1 e2 => by
    match j, e1, e2 with
    | 0, e1, e2 => cases e1; cases e2; exact (c.eq hu hu').mono (Nat.le_max_left _ _)
    | 1, e1, e2 => cases e1; cases e2; exact (d.eq ht ht').mono (Nat.le_trans (Nat.le_max_left _ _) (Nat.le_max_right _ _))
    | 2, e1, e2 => cases e1; cases e2; exact (f.eq hz hz').mono (Nat.le_trans (Nat.le_max_right _ _) (Nat.le_max_right _ _)))
  have e : ((List.range ([u, t, z] : List V).length).all fun j => if j = 0 then decide (x.1 = y.1) else if j = 1 then decide (x.2.1 = y.2.1) else decide (x.2.2 = y.2.2)) = decide (x = y) := by
    show (decide (x.1 = y.1) && (decide (x.2.1 = y.2.1) && (decide (x.2.2 = y.2.2) && true))) = decide (x = y)
    rw [Bool.and_true, ← Bool.decide_and, ← Bool.decide_and]
    refine decide_eq_decide.mpr ⟨fun z => Prod.ext z.1 (Prod.ext z.2.1 z.2.2), fun z => ?_⟩
    rw [z]
    exact ⟨rfl, rfl, rfl⟩
  rw [e] at T
  exact T
def cT3 (c : Cod α) (d : Cod β) (f : Cod γ) : Cod (α × β × γ) where
  n := max c.n (max d.n f.n) + 1
  rp := rT3 c d f
  inj := rT3_inj
  rc h1 h2 := (rT3_rc h1 h2).1
  ne h1 h2 := (rT3_rc h1 h2).2
  eq {K H x y u v} h1 h2 := by
    have r := (rT3_rc h1 h2).1
    have i := fun P w h hok kin => rT3_inj (c := c) (d := d) (f := f) (P := P) (w := w) (K := K) (H := H) (h := h) (x := x) (y := y) (v := v) hok kin
    obtain ⟨a, _, _, _, rfl, _⟩ := id h1
    obtain ⟨b, _, _, _, rfl, _⟩ := id h2
    refine eqIs_ref r fun P w h hok kin e => ?_
    subst e
    exact decide_eq_true (i P w h hok kin h1 h2)
  keep e h := let ⟨a, u, w, z, h1, h2, h3, h4, h5⟩ := h; ⟨a, u, w, z, h1, h2.keep e, c.keep e h3, d.keep e h4, f.keep e h5⟩
end
/-! ### lists of such data -/
section
variable {α : Type} [DecidableEq α] {K : PySem.W.Frag} {H : Hp}
theorem _root_.PySem.Paired.get {β γ : Type} {R : β → γ → Prop} : ∀ {xs : List β} {us : List γ}, Paired R xs us → ∀ {j : Nat} {u : γ}, us[j]? = some u → ∃ x, xs[j]? = some x ∧ R x u
  | _, _, .nil, j, u, e => by simp at e
  | _, _, .cons r t, 0, u, e => by simp at e; subst e; exact ⟨_, rfl, r⟩
  | _, _, .cons r t, j + 1, u, e => PySem.Paired.get t (j := j) (by simpa using e)
theorem _root_.PySem.Paired.len {β γ : Type} {R : β → γ → Prop} : ∀ {xs : List β} {us : List γ}, Paired R xs us → xs.length = us.length
  | _, _, .nil => rfl
  | _, _, .cons r t => by simp [PySem.Paired.len t]
theorem range_all_eq {xs ys : List α} {n : Nat} (h1 : xs.length = n) (h2 : ys.length = n) : ((List.range n).all fun j => decide (xs[j]? = ys[j]?)) = decide (xs = ys) := by
  rw [Bool.eq_iff_iff, List.all_eq_true, decide_eq_true_eq]
  constructor
  · intro h
    apply List.ext_getElem?
    intro i
    by_cases hi : i < n
    · exact of_decide_eq_true (h i (List.mem_range.mpr hi))
    · rw [List.getElem?_eq_none (by omega), List.getElem?_eq_none (by omega)]
  · intro h i _
    rw [h]
    exact decide_eq_true rfl
theorem listRc {c : Cod α} {a b : Addr} {us vs : List V} {xs ys : List α} (ha : SqL K H a us) (hb : SqL K H b vs) (px : Paired (c.rp K H) xs us) (py : Paired (c.rp K H) ys vs) :
    RcIs K (c.n + 1) H (.ref a) (.ref b) (decide (xs = ys)) ∧ NeIs K (c.n + 1) H (.ref a) (.ref b) (decide (xs = ys)) := by
  have main : ∀ (P : Program) (w : World) (A : Around) (s : Shared) (u v : Value), A.units + (c.n + 1) < cLine → HOk P w H s.heap → K.In s.heap → RelV (.ref a) u → RelV (.ref b) v →
      SeqAt.RcAt A s u v (decide (xs = ys)) ∧ SeqAt.RcNeAt A s u v (!decide (xs = ys)) := by
    intro P w A s u v hA hok kin r1 r2
    cases r1
    cases r2
    obtain ⟨i1, v1, p1, _⟩ := sqL_raw hok kin ha
    obtain ⟨i2, v2, p2, _⟩ := sqL_raw hok kin hb
    have l1 := v1.length
    have l2 := v2.length
    have m1 := px.len
    have m2 := py.len
    by_cases hl : i1.length = i2.length
    · have items : ∀ j (h1 : j < i1.toArray.size) (h2 : j < i2.toArray.size), SeqAt.EqAt A.in1 s i1.toArray[j] i2.toArray[j] (decide (xs[j]? = ys[j]?)) := fun j h1 h2 => by
        have h1' : j < i1.length := by simpa using h1
        have h2' : j < i2.length := by simpa using h2
        have e1 : us[j]? = some us[j] := List.getElem?_eq_getElem (by omega)
        have e2 : vs[j]? = some vs[j] := List.getElem?_eq_getElem (by omega)
        obtain ⟨u, eu, ru⟩ := v1.get e1
        obtain ⟨v, ev, rv⟩ := v2.get e2
        obtain ⟨x, ex, rx⟩ := px.get e1
        obtain ⟨y, ey, ry⟩ := py.get e2
        have q := c.eq rx ry P w A.in1 s u v (by show A.units + 1 + c.n < cLine; omega) hok kin ru rv
        have z1 : i1.toArray[j] = u := by
          rw [List.getElem?_eq_getElem h1'] at eu
          simpa using Option.some.inj eu
        have z2 : i2.toArray[j] = v := by
          rw [List.getElem?_eq_getElem h2'] at ev
          simpa using Option.some.inj ev
        rw [z1, z2, ex, ey]
        have e : decide ((some x : Option α) = some y) = decide (x = y) := decide_eq_decide.mpr ⟨fun z => Option.some.inj z, fun z => by rw [z]⟩
        rw [e]
        exact q
      have ez : (List.range i1.toArray.size).all (fun j => decide (xs[j]? = ys[j]?)) = decide (xs = ys) := range_all_eq (by rw [List.size_toArray]; omega) (by rw [List.size_toArray]; omega)
      constructor
      · have q := SeqAt.RcAt.lists (A := A) (s := s) p1.isList p2.isList (by simpa using hl) (by omega) items
        rw [ez] at q
        exact q
      · have q := SeqAt.RcNeAt.lists (A := A) (s := s) p1.isList p2.isList (by simpa using hl) (by omega) items
        rw [ez] at q
        exact q
    · have hsz : (i1.toArray.size != i2.toArray.size) = true := by simpa using hl
      have e : decide (xs = ys) = false := decide_eq_false fun z => hl (by rw [← l1, ← l2, ← m1, ← m2, z])
      rw [e]
      exact ⟨SeqAt.RcAt.lists_lengths p1.isList p2.isList hsz (by omega), SeqAt.RcNeAt.lists_lengths p1.isList p2.isList hsz (by omega)⟩
  exact ⟨fun P w A s u v h1 h2 h3 h4 h5 => (main P w A s u v h1 h2 h3 h4 h5).1, fun P w A s u v h1 h2 h3 h4 h5 => (main P w A s u v h1 h2 h3 h4 h5).2⟩
end
section
variable {X : Cx} {α : Type} [DecidableEq α]
theorem hun {c : Nat} {k : Nat} {A : Around} (hr : Room k A) (h : c ≤ 60 := by decide) : A.units + c + 1 < cLine := by
  have := hr.units
  omega
theorem op_eqC (c : Cod α) (hu : X.A.units + c.n + 1 < cLine) : OpR X (compareOp .Eq) (fun x y H Q => ∃ a b, c.rp X.K H a x ∧ c.rp X.K H b y ∧ Q (.bl (decide (a = b))) H) := by
  intro pins s σ H x y v u Q I rx ry h
  obtain ⟨a, b, ha, hb, q⟩ := h
  exact c.rc ha hb X.prog X.w X.A s v u (by omega) I.hok I.kIn rx ry X.prog X.w X.xe _ ⟨.bl _, H, I, rfl, q⟩
/-- a list of such data -/
def LsOf (c : Cod α) (K : PySem.W.Frag) (H : Hp) (xs : List α) (v : V) : Prop := ∃ a us, v = .ref a ∧ SqL K H a us ∧ Paired (c.rp K H) xs us
theorem op_eqL (c : Cod α) (hu : X.A.units + c.n + 1 < cLine) : OpR X (compareOp .Eq) (fun x y H Q => ∃ xs ys, LsOf c X.K H xs x ∧ LsOf c X.K H ys y ∧ Q (.bl (decide (xs = ys))) H) := by
  intro pins s σ H x y v u Q I rx ry h
  obtain ⟨xs, ys, ⟨a, us, rfl, ha, px⟩, ⟨b, vs, rfl, hb, py⟩, q⟩ := h
  exact (listRc ha hb px py).1 X.prog X.w X.A s v u (by omega) I.hok I.kIn rx ry X.prog X.w X.xe _ ⟨.bl _, H, I, rfl, q⟩
noncomputable def eqR (c : Cod α) (K : PySem.W.Frag) (H : Hp) (a : α) (u : Value) : Bool := @decide (∃ v, RelV v u ∧ c.rp K H a v) (Classical.propDecidable _)
def rInC (c : Cod α) (K : PySem.W.Frag) : R2 := fun x y H Q => ∃ a p us xs, c.rp K H a x ∧ y = .ref p ∧ (SqL K H p us ∨ SqT K H p us) ∧ Paired (c.rp K H) xs us ∧ Q (.bl (decide (a ∈ xs))) H
def rNinC (c : Cod α) (K : PySem.W.Frag) : R2 := fun x y H Q => ∃ a p us xs, c.rp K H a x ∧ y = .ref p ∧ (SqL K H p us ∨ SqT K H p us) ∧ Paired (c.rp K H) xs us ∧ Q (.bl (!decide (a ∈ xs))) H
end
end L2

/-! a list made by walking, with several names told at each turn -/
namespace L2
open PySem PySem.Spec PyProof.Rows
structure BlkS (N : List Str) (sc scope : Scope) (mm : Nat) (N' : List Str) (fv : List Nat) : Prop where
  nocell : ∀ y ∈ scope.names, y.2 ≠ .cell
  kind : scope.kind = .function
  names : ∀ y ∈ scope.names, y.2 = .local → scope.names.lookup y.1 = some .local
  free : ∀ y ∈ scope.names, y.2 = .free → sc.names.lookup y.1 = some .cell ∨ sc.names.lookup y.1 = some .free
  nd : N'.Nodup
  len : N'.length = fv.length + mm
  at_ : ∀ j, j < fv.length → (N'[j + mm]?).isSome = true ∧ N'[j + mm]? = (fv[j]?).bind (fun i => N[i]?) ∧ (N'[j + mm]?).bind (fun y => scope.names.lookup y) = some .free
def bv (mm : Nat) (fv : List Nat) (σ : St) : St := List.replicate mm none ++ blkVals fv σ
def Ext (σ σ' : St) : Prop := σ.length = σ'.length ∧ ∀ (j : Nat) v, σ[j]? = some (some v) → σ'[j]? = some (some v)
section
variable {prog : Program} {w : World} {A : Around} {R : Result → Shared → Prop} {s : Shared}
end
section
variable {X : Cx} {N' : List Str} {scope : Scope} {mm : Nat} {fv : List Nat}
end
/-- name = [.. for ..] -/
def tSetLCM (j mm : Nat) (g : TG) (wi : TI) (fv : List Nat) (tt : TT) (te : TE) : TS := fun D σ H => wi σ H fun J H1 => ∃ (W : Nat → List V → Hp → Prop) (n : Nat), W 0 [] H1 ∧ n ≤ sizeLine ∧ ∀ i ys H, W i ys H →
  (J.stop i H ∧ ∀ p, H p = none → D.nx (σ.set j (some (.ref p))) (upd H p (.lst ys))) ∨
  (J.go i H ∧ i < n ∧ ∀ x H', J.yld i H x H' → g x (bv mm fv σ) H' fun σ' H'' => Ext (bv mm fv σ) σ' ∧ tt σ' H'' fun c H2 => if c = true then te σ' H2 fun y H3 => W (i + 1) (ys ++ [y]) H3 else W (i + 1) ys H2)
def tLCM (mm : Nat) (g : TG) (wi : TI) (fv : List Nat) (tt : TT) (te : TE) : TE := fun σ H Q => wi σ H fun J H1 => ∃ (W : Nat → List V → Hp → Prop) (n : Nat), W 0 [] H1 ∧ n ≤ sizeLine ∧ ∀ i ys H, W i ys H →
  (J.stop i H ∧ ∀ p, H p = none → Q (.ref p) (upd H p (.lst ys))) ∨
  (J.go i H ∧ i < n ∧ ∀ x H', J.yld i H x H' → g x (bv mm fv σ) H' fun σ' H'' => Ext (bv mm fv σ) σ' ∧ tt σ' H'' fun c H2 => if c = true then te σ' H2 fun y H3 => W (i + 1) (ys ++ [y]) H3 else W (i + 1) ys H2)
/-- two names, told by a tuple -/
def gPair (K : PySem.W.Frag) : TG := fun v σ H Q => ∃ a x y, v = .ref a ∧ SqT K H a [x, y] ∧ Q ((σ.set 0 (some x)).set 1 (some y)) H
end L2

namespace L2
open PySem PySem.Spec PyProof.Rows
section
variable {X : Cx}
/-! ### sorted, of two texts -/
/-! ### a table of the module: texts to numbers or texts -/
def datL : KTD.Dat → Value → Bool
  | .flat d, v => KTD.flatLooks d v
  | _, _ => false
theorem datL_at {h : Heap} : ∀ (d : KTD.Dat) (v : Value), datL d v = true → d.At h v
  | .flat d, v, e => KTD.flat_of_looks (d := d) e
  | .float _, _, e => by cases e
  | .nums _, _, e => by cases e
  | .words _, _, e => by cases e
  | .tup _, _, e => by cases e
  | .tab _, _, e => by cases e
def TabK (K : PySem.W.Frag) (a : Addr) (D : List (Str × KTD.Dat)) : Prop := KTD.tabLook datL (fun b => K.lookup b) a D = true
theorem TabK.at {K : PySem.W.Frag} {a : Addr} {D : List (Str × KTD.Dat)} {h : Heap} (t : TabK K a D) (kin : K.In h) : KTD.TextTab h a D := KTD.tab_of_look datL_at (fun a o e => kin a o e) t
theorem each_at {h₀ : Heap} {k : Str} {Pr : Value → Prop} : ∀ {D : List (Str × KTD.Dat)} {d : KTD.Dat}, KTD.datumAt k D = some d → KTD.Opened h₀ Pr d → KTD.EachL h₀ k Pr D
  | [], _, e, _ => by cases e
  | (x, d') :: D, d, e, o => by
    have e' : (if decide (k = x) = true then some d' else KTD.datumAt k D) = some d := e
    by_cases hx : k = x
    · rw [if_pos (decide_eq_true hx)] at e'
      cases e'
      exact KTD.eachL_hit hx o
    · rw [if_neg (by simp [hx])] at e'
      exact KTD.eachL_miss hx (each_at e' o)
end
/-! in a walking's block the part of the heap is named: the readings may not hang on the block's own context -/
section
variable {X : Cx} {α : Type} [DecidableEq α]
end
/-! ### functions and methods, bundled -/
structure GF (P : Program) (w : World) (K : PySem.W.Frag) (mg : Str → Option Value) (base : Heap) (CX : CXT) (k : Nat) (x : Str) (ps : List Str) (sp : Sp) where
  f : Addr
  fd : FuncData
  ok : FnOk P w K mg base CX k f fd ps sp
  bd : Binds K fd ps []
  kp : PySem.W.keepIn K (.ref f) = true
  mgx : mg x = some (.ref f)
structure GM (P : Program) (w : World) (K : PySem.W.Frag) (mg : Str → Option Value) (base : Heap) (CX : CXT) (k : Nat) (C : Addr) (m : Str) (ps : List Str) (sp : Sp) where
  f : Addr
  fd : FuncData
  ok : FnOk P w K mg base CX k f fd ps sp
  bd : Binds K fd ps []
  me : Meth K C m f
section
variable {X : Cx} {CX : CXT} {j k : Nat} {x m : Str} {ps : List Str} {sp : Sp} {E : XK} {p pos apos : Pos} {e o : Expr} {es : List Expr} {t : TA} {ta : TE} {C : Addr}
theorem pc (G : GF X.prog X.w X.K X.mg X.base CX j x ps sp) (hr : Room k X.A) (ha : PA X (e :: es) t) (hx : Passes CX X E := by exact pass0) (hk : j ≤ k := by decide) (hg : Gl X x := by rfl)
    (hdb : (x == ("__debug__" : Str)) = false := by decide) (he : starEach (e :: es) X.env = (false, eval e X.env) :: starEach es X.env := by rfl) (hpl : (backTo pos (starEach es X.env)).any (·.1) = false := by rfl) :
    PE X (.Call (.Name x p) (e :: es) [] pos) (tCall sp [] E t) := pe_call G.ok (hr.mono hk) hg G.mgx G.kp G.bd .nil hx ha hdb he hpl
theorem pm0 {pl : Sem Bool} (G : GM X.prog X.w X.K X.mg X.base CX j C m ps sp) (ho : PE X o ta) (cl : Cls X.K C) (hr : Room k X.A) (hx : Passes CX X E := by exact pass0) (hk : j ≤ k := by decide)
    (ht : eval (.Call (.Attribute o m apos) [] [] pos) X.env = (do
      let ov ← eval o X.env
      standAt apos.atName
      let (f, first) ← holding [ov] (getMethod ov m pl)
      callWith pos f first (backTo pos (starEach [] X.env)) (backToKw pos (keywordEach [] X.env))) := by rfl) :
    PE X (.Call (.Attribute o m apos) [] [] pos) (tMeth C m sp [] E ta tNil) := pe_meth0 ho cl G.me G.ok (hr.mono hk) G.bd .nil hx ht
end
end L2

set_option maxHeartbeats 1000000
namespace L2
open PySem PySem.Spec PyProof.Rows
/-! ### walking lists, by an invariant -/
section
variable {K : PySem.W.Frag} {a : Addr} {xs : List V} {tt : TT} {te : TE} {bl : St} {Fin : List V → Hp → Prop} {H : Hp}
theorem lc_list (Pv : Nat → List V → Hp → Prop) (h0 : Pv 0 [] H) (hn : xs.length ≤ sizeLine) (hl : ∀ i ys H, i ≤ xs.length → Pv i ys H → SqL K H a xs)
    (hs : ∀ i x ys H, xs[i]? = some x → Pv i ys H → tt (some x :: bl) H fun c H2 => if c = true then te (some x :: bl) H2 fun y H3 => Pv (i + 1) (ys ++ [y]) H3 else Pv (i + 1) ys H2)
    (hd : ∀ ys H, Pv xs.length ys H → Fin ys H) :
    ∃ (W : Nat → List V → Hp → Prop) (n : Nat), W 0 [] H ∧ n ≤ sizeLine ∧ ∀ i ys H, W i ys H → ((Itl K a).stop i H ∧ Fin ys H) ∨
      ((Itl K a).go i H ∧ i < n ∧ ∀ x H', (Itl K a).yld i H x H' → tt (some x :: bl) H' fun c H2 => if c = true then te (some x :: bl) H2 fun y H3 => W (i + 1) (ys ++ [y]) H3 else W (i + 1) ys H2) := by
  refine ⟨fun i ys H => i ≤ xs.length ∧ Pv i ys H, xs.length, ⟨Nat.zero_le _, h0⟩, hn, ?_⟩
  rintro i ys H ⟨hi, p⟩
  have q := hl i ys H hi p
  by_cases hlt : i < xs.length
  · refine .inr ⟨⟨xs, xs[i], q, by simp [hlt]⟩, hlt, fun x H' y => ?_⟩
    obtain ⟨e, y⟩ := y
    subst e
    have z := hs i x ys _ (y xs q) p
    have e1 : (fun (c : Bool) (H2 : Hp) => if c = true then te (some x :: bl) H2 fun y H3 => i + 1 ≤ xs.length ∧ Pv (i + 1) (ys ++ [y]) H3 else i + 1 ≤ xs.length ∧ Pv (i + 1) ys H2) = fun c H2 => if c = true then te (some x :: bl) H2 fun y H3 => Pv (i + 1) (ys ++ [y]) H3 else Pv (i + 1) ys H2 := by
      have e2 : (i + 1 ≤ xs.length) = True := eq_true hlt
      funext c H2
      simp only [e2, true_and]
    show tt _ _ _
    rw [e1]
    exact z
  · have e : i = xs.length := by omega
    subst e
    exact .inl ⟨⟨xs, q, Nat.le_refl _⟩, hd ys H p⟩
theorem tAllT {σ : St} {A B : Hp → Prop} (h : A H) : tAll σ H (fun c H2 => if c = true then A H2 else B H2) := by
  show if true = true then A H else B H
  exact @iteT (A H) (B H) h
theorem lc_tup (Pv : Nat → List V → Hp → Prop) (h0 : Pv 0 [] H) (hn : xs.length ≤ sizeLine) (hl : ∀ i ys H, i ≤ xs.length → Pv i ys H → SqT K H a xs)
    (hs : ∀ i x ys H, xs[i]? = some x → Pv i ys H → tt (some x :: bl) H fun c H2 => if c = true then te (some x :: bl) H2 fun y H3 => Pv (i + 1) (ys ++ [y]) H3 else Pv (i + 1) ys H2)
    (hd : ∀ ys H, Pv xs.length ys H → Fin ys H) :
    ∃ (W : Nat → List V → Hp → Prop) (n : Nat), W 0 [] H ∧ n ≤ sizeLine ∧ ∀ i ys H, W i ys H → ((Itt K a).stop i H ∧ Fin ys H) ∨
      ((Itt K a).go i H ∧ i < n ∧ ∀ x H', (Itt K a).yld i H x H' → tt (some x :: bl) H' fun c H2 => if c = true then te (some x :: bl) H2 fun y H3 => W (i + 1) (ys ++ [y]) H3 else W (i + 1) ys H2) := by
  refine ⟨fun i ys H => i ≤ xs.length ∧ Pv i ys H, xs.length, ⟨Nat.zero_le _, h0⟩, hn, ?_⟩
  rintro i ys H ⟨hi, p⟩
  have q := hl i ys H hi p
  by_cases hlt : i < xs.length
  · refine .inr ⟨⟨xs, xs[i], q, by simp [hlt]⟩, hlt, fun x H' y => ?_⟩
    obtain ⟨e, y⟩ := y
    subst e
    have z := hs i x ys _ (y xs q) p
    have e1 : (fun (c : Bool) (H2 : Hp) => if c = true then te (some x :: bl) H2 fun y H3 => i + 1 ≤ xs.length ∧ Pv (i + 1) (ys ++ [y]) H3 else i + 1 ≤ xs.length ∧ Pv (i + 1) ys H2) = fun c H2 => if c = true then te (some x :: bl) H2 fun y H3 => Pv (i + 1) (ys ++ [y]) H3 else Pv (i + 1) ys H2 := by
      have e2 : (i + 1 ≤ xs.length) = True := eq_true hlt
      funext c H2
      simp only [e2, true_and]
    show tt _ _ _
    rw [e1]
    exact z
  · have e : i = xs.length := by omega
    subst e
    exact .inl ⟨⟨xs, q, Nat.le_refl _⟩, hd ys H p⟩
theorem lc_range {n : Nat} (Pv : Nat → List V → Hp → Prop) (h0 : Pv 0 [] H) (hn : n ≤ sizeLine)
    (hs : ∀ (i : Nat) ys H, i < n → Pv i ys H → tt (some (.int i) :: bl) H fun c H2 => if c = true then te (some (.int i) :: bl) H2 fun y H3 => Pv (i + 1) (ys ++ [y]) H3 else Pv (i + 1) ys H2)
    (hd : ∀ ys H, Pv n ys H → Fin ys H) :
    ∃ (W : Nat → List V → Hp → Prop) (m : Nat), W 0 [] H ∧ m ≤ sizeLine ∧ ∀ i ys H, W i ys H → ((Itr 0 n).stop i H ∧ Fin ys H) ∨
      ((Itr 0 n).go i H ∧ i < m ∧ ∀ x H', (Itr 0 n).yld i H x H' → tt (some x :: bl) H' fun c H2 => if c = true then te (some x :: bl) H2 fun y H3 => W (i + 1) (ys ++ [y]) H3 else W (i + 1) ys H2) := by
  refine ⟨fun i ys H => i ≤ n ∧ Pv i ys H, n, ⟨Nat.zero_le _, h0⟩, hn, ?_⟩
  rintro i ys H ⟨hi, p⟩
  by_cases hlt : i < n
  · refine .inr ⟨hlt, hlt, fun x H' y => ?_⟩
    obtain ⟨e, y⟩ := y
    subst e
    rw [Int.zero_add] at y
    subst y
    have z := hs i ys _ hlt p
    have e1 : (fun (c : Bool) (H2 : Hp) => if c = true then te (some (.int i) :: bl) H2 fun y H3 => i + 1 ≤ n ∧ Pv (i + 1) (ys ++ [y]) H3 else i + 1 ≤ n ∧ Pv (i + 1) ys H2) = fun c H2 => if c = true then te (some (.int i) :: bl) H2 fun y H3 => Pv (i + 1) (ys ++ [y]) H3 else Pv (i + 1) ys H2 := by
      have e2 : (i + 1 ≤ n) = True := eq_true hlt
      funext c H2
      simp only [e2, true_and]
    show tt _ _ _
    rw [e1]
    exact z
  · have e : i = n := by omega
    subst e
    exact .inl ⟨Nat.le_refl _, hd ys H p⟩
end
end L2
/-! ### locks, as data -/
namespace Lo
open PySem L2
inductive Kd where
  | read | mean | change
  deriving DecidableEq
def kdS : Kd → Str
  | .read => "read"
  | .mean => "mean"
  | .change => "change"
theorem s_rm : ¬ (("read" : Str) = "mean") := by decide +kernel
theorem s_rc : ¬ (("read" : Str) = "change") := by decide +kernel
theorem s_mc : ¬ (("mean" : Str) = "change") := by decide +kernel
theorem kdS_inj : ∀ x y, kdS x = kdS y → x = y
  | .read, .read, _ => rfl
  | .mean, .mean, _ => rfl
  | .change, .change, _ => rfl
  | .read, .mean, h => absurd h s_rm
  | .read, .change, h => absurd h s_rc
  | .mean, .change, h => absurd h s_mc
  | .mean, .read, h => absurd h.symm s_rm
  | .change, .read, h => absurd h.symm s_rc
  | .change, .mean, h => absurd h.symm s_mc
def rank : Kd → Int
  | .read => 0
  | .mean => 1
  | .change => 2
def kdOf (i : Int) : Kd := if i = 0 then .read else if i = 1 then .mean else .change
abbrev Lk := Kd × Int × Int
abbrev Pa := Int × Int
abbrev Pr := Pa × Lk
def share : Kd → Kd → Bool
  | .read, .read => true
  | .read, .mean => true
  | .mean, .read => true
  | _, _ => false
def besideB (a b : Lk) : Bool := (decide (a.2.2 < b.2.1) || decide (b.2.2 < a.2.1)) || share a.1 b.1
def coversB (a b : Lk) : Bool := (decide (a.2.1 ≤ b.2.1) && decide (b.2.2 ≤ a.2.2)) && decide (rank b.1 ≤ rank a.1)
def toldT (k : Lk) : Str × Int × Int := (kdS k.1, k.2)
theorem toldT_inj : ∀ x y, toldT x = toldT y → x = y := fun x y h => by
  obtain ⟨a, b⟩ := x
  obtain ⟨c, d⟩ := y
  have h1 := congrArg Prod.fst h
  have h2 := congrArg Prod.snd h
  exact Prod.ext (kdS_inj _ _ h1) h2
def cLk : Cod Lk := cVia toldT toldT_inj (cT3 cStr cInt cInt)
def cPa : Cod Pa := cT2 cInt cInt
def cPr : Cod Pr := cT2 cPa cLk
theorem cLk_mk {K : PySem.W.Frag} {H : Hp} {a : Addr} {k : Lk} (h : H a = some (.tup [.str (kdS k.1), .int k.2.1, .int k.2.2])) : cLk.rp K H k (.ref a) := ⟨a, _, _, _, rfl, .inl h, rfl, rfl, rfl⟩
/-! ### what stays -/
def Fix (CL : Addr) : HO → Prop
  | .tup _ => True
  | .ins C _ _ => C ≠ CL
  | _ => False
def FSame (CL : Addr) (H H' : Hp) : Prop := ∀ b o, H b = some o → Fix CL o → H' b = some o
theorem same_new {H : Hp} {p : Addr} {o : HO} (h : H p = none) : Same H (upd H p o) := fun b u e => by
  rw [upd_ne (ne_of_none e h)]
  exact e
/-- all but p stays -/
def Kp (p : Addr) (H H' : Hp) : Prop := ∀ b o, b ≠ p → H b = some o → H' b = some o
theorem kp_upd {p : Addr} {H : Hp} {o : HO} : Kp p H (upd H p o) := fun b u n e => by
  rw [upd_ne n]
  exact e
/-! ### a lock's object -/
theorem fl : ¬ (("first" : Str) = "last") := by decide +kernel
def lf (f l : Int) : List (Str × V) := putF "last" (.int l) (putF "first" (.int f) [])
theorem lf_first (f l : Int) : (lf f l).lookup ("first" : Str) = some (.int f) := by
  unfold lf
  rw [lookup_putF, if_neg fl, lookup_putF, if_pos rfl]
theorem lf_last (f l : Int) : (lf f l).lookup ("last" : Str) = some (.int l) := by
  unfold lf
  rw [lookup_putF, if_pos rfl]
theorem lf_no (f l : Int) {m : Str} (h1 : ¬ m = "last") (h2 : ¬ m = "first") : (lf f l).lookup m = none := by
  unfold lf
  rw [lookup_putF, if_neg h1, lookup_putF, if_neg h2]
  rfl
def LkO (C : Kd → Addr) (H : Hp) (k : Lk) (v : V) : Prop := ∃ a dx, v = .ref a ∧ H a = some (.ins (C k.1) dx (lf k.2.1 k.2.2))
def PrO (C : Kd → Addr) (K : PySem.W.Frag) (H : Hp) (x : Pr) (v : V) : Prop := ∃ a u l, v = .ref a ∧ SqU K H a [u, l] ∧ cPa.rp K H x.1 u ∧ LkO C H x.2 l
/-! ### a house's locks -/
def LS (C : Kd → Addr) (CL : Addr) (K : PySem.W.Frag) (H : Hp) (l p : Addr) (ps : List Pr) : Prop :=
  ∃ dx vs, H l = some (.ins CL dx [("pairs", .ref p)]) ∧ H p = some (.lst vs) ∧ Paired (PrO C K H) ps vs
/-! ### what waits, what is held -/
def hb (ps : List Pr) (k j : Nat) : Bool := match ps[j]?, ps[k]? with
  | some a, some b => !decide (a.1 = b.1) && !besideB a.2 b.2
  | _, _ => false
def hind (ps : List Pr) (k : Nat) : Option Nat := (List.range k).find? (hb ps k)
def optV : Option Nat → V
  | none => .non
  | some j => .int j
def pick {α : Type} (xs : List α) (ix : List Nat) : List α := ix.filterMap (xs[·]?)
def heldIx (ps : List Pr) : List Nat := (List.range ps.length).filter fun k => (hind ps k).isNone
def waitIx (ps : List Pr) : List Nat := (List.range ps.length).filter fun k => (hind ps k).isSome
def heldL (ps : List Pr) : List Pr := pick ps (heldIx ps)
def waitL (ps : List Pr) : List Pr := pick ps (waitIx ps)
def wpl (ps : List Pr) (p : Pa) (k : Nat) : Bool := match ps[k]? with
  | some a => decide (a.1 = p) && (hind ps k).isSome
  | none => false
def wplace (ps : List Pr) (p : Pa) : Option Nat := (List.range ps.length).find? (wpl ps p)
def covered (ps : List Pr) (p : Pa) (k : Lk) : Bool := ps.any fun x => decide (x.1 = p) && coversB x.2 k
def askPs (ps : List Pr) (p : Pa) (k : Lk) : List Pr := if covered ps p k = true then ps else ps ++ [(p, k)]
def askR (ps : List Pr) (p : Pa) (k : Lk) : Bool := covered ps p k || (hind (ps ++ [(p, k)]) ps.length).isNone
def freePs (ps : List Pr) (p : Pa) : List Pr := ps.filter fun x => !decide (x.1 = p)
def freeR (ps : List Pr) (p : Pa) : List Pa := ((waitL ps).filter fun x => !decide (x.1 = p) && !decide (x.1 ∈ (waitL (freePs ps p)).map (·.1))).map (·.1)
def standsB (ps : List Pr) (p : Pa) (k : Lk) : Bool := (heldL ps).all fun x => decide (x.1 = p) || besideB x.2 k
def behindO (ps : List Pr) (p : Pa) : Option Pa := (wplace ps p).bind fun k => (hind ps k).bind fun j => (ps[j]?).map (·.1)
end Lo

set_option maxHeartbeats 1000000
/-! what the functions about locks do, and what of the top they ask -/
namespace Lo
open PySem L2
theorem gint {X : Cx} {x : Str} {i : Int} {pos : Pos} (hm : ∃ t, X.mg x = some (.int i t)) (hg : Gl X x) (hd : (x == ("__debug__" : Str)) = false := by decide) : PE X (.Name x pos) (tC (.int i)) := by
  obtain ⟨t, e⟩ := hm
  exact pe_glob hg e ⟨t, rfl⟩ hd
/-- a tuple of the module -/
def ModT (K : PySem.W.Frag) (a : Addr) (xs : List V) : Prop := ∃ (o : Obj) (its : Array Value) (n : Nat), K.lookup a = some o ∧ o.cls = .type "tuple" ∧ o.data = .seq its n ∧ its.size ≤ sizeLine ∧ Vals xs its.toList
/-- built-in names that the program leaves alone -/
structure TxB (mg : Str → Option Value) : Prop where
  isi : mg "isinstance" = none
  int : mg "int" = none
  bool : mg "bool" = none
  str : mg "str" = none
  len : mg "len" = none
  range : mg "range" = none
  tuple : mg "tuple" = none
  list : mg "list" = none
  any : mg "any" = none
  all : mg "all" = none
  max : mg "max" = none
  sorted : mg "sorted" = none
structure TxK (K : PySem.W.Frag) (C : Kd → Addr) : Prop where
  cl : ∀ k, Cls K (C k)
  nF : ∀ k, NoAttr K (C k) "first"
  nL : ∀ k, NoAttr K (C k) "last"
def ranksD : List (Str × PyProof.Rows.KTD.Dat) := [("read", .flat (.int 0)), ("mean", .flat (.int 1)), ("change", .flat (.int 2))]
structure TxS (K : PySem.W.Frag) (mg : Str → Option Value) : Prop where
  sh : ∃ aS a0 a1 a2, mg "SHARING" = some (.ref aS) ∧ ModT K aS [.ref a0, .ref a1, .ref a2] ∧ ModT K a0 [.str "read", .str "read"] ∧ ModT K a1 [.str "read", .str "mean"] ∧ ModT K a2 [.str "mean", .str "read"]
structure TxR (K : PySem.W.Frag) (mg : Str → Option Value) : Prop where
  rk : ∃ aR, mg "RANKS" = some (.ref aR) ∧ TabK K aR ranksD
structure TxL (K : PySem.W.Frag) (C : Kd → Addr) (CL : Addr) : Prop where
  cl : Cls K CL
  nP : NoAttr K CL "pairs"
  ne : ∀ k, C k ≠ CL
theorem tab_mk {K : PySem.W.Frag} {a : Addr} {es : Array DictEntry} {n : Nat} {D : List (Str × PyProof.Rows.KTD.Dat)} (h : K.lookup a = some ⟨.type "dict", none, .dict es n, #[]⟩) (z : (a == sysModules) = false) (r : PyProof.Rows.KTD.rowsLook datL es.toList D = true) : TabK K a D := by
  unfold TabK PyProof.Rows.KTD.tabLook
  rw [z]
  show (true && (match K.lookup a with | some o => _ | none => false)) = true
  rw [h]
  simp [r]
def kdN : Kd → Str
  | .read => "Read"
  | .mean => "Mean"
  | .change => "Change"
/-! ### promises -/
def spKind (k : Kd) : Sp := fun vs H Q _ => ∃ v, vs = [v] ∧ Q (.str (kdS k)) H
def spLInit (C : Kd → Addr) : Sp := fun vs H Q _ => ∃ a dx k f l, vs = [.ref a, .int f, .int l] ∧ H a = some (.ins (C k) dx []) ∧ Q .non (upd (upd H a (.ins (C k) dx (putF "first" (.int f) []))) a (.ins (C k) dx (lf f l)))
def spTold (C : Kd → Addr) : Sp := fun vs H Q _ => ∃ v k, vs = [v] ∧ LkO C H k v ∧ ∀ a, H a = none → Q (.ref a) (upd H a (.tup [.str (kdS k.1), .int k.2.1, .int k.2.2]))
def spBeside (C : Kd → Addr) : Sp := fun vs H Q _ => ∃ v u k j, vs = [v, u] ∧ LkO C H k v ∧ LkO C H j u ∧ ∀ H', Same H H' → Q (.bl (besideB k j)) H'
def spCovers (C : Kd → Addr) : Sp := fun vs H Q _ => ∃ v u k j, vs = [v, u] ∧ LkO C H k v ∧ LkO C H j u ∧ ∀ H', Same H H' → Q (.bl (coversB k j)) H'
def spLockOf (C : Kd → Addr) (K : PySem.W.Frag) : Sp := fun vs H Q _ => ∃ v k, vs = [v] ∧ cLk.rp K H k v ∧ ∀ u H', Same H H' → LkO C H' k u → Q u H'
theorem mk_same {H : Hp} {x dx : Addr} {o1 o2 o3 o4 : HO} (nx : H x = none) (nd : H dx = none) : Same H (upd (upd (upd (upd H dx o1) x o2) x o3) x o4) := fun b o e => by
  have n1 : b ≠ x := ne_of_none e nx
  have n2 : b ≠ dx := ne_of_none e nd
  rw [upd_ne n1, upd_ne n1, upd_ne n1, upd_ne n2]
  exact e
section
variable (C : Kd → Addr) (CL : Addr) (K : PySem.W.Frag)
def spLsInit : Sp := fun vs H Q _ => ∃ l dx, vs = [.ref l] ∧ H l = some (.ins CL dx []) ∧ ∀ p H', H p = none → H' p = some (.lst []) → H' l = some (.ins CL dx [("pairs", .ref p)]) → Kp l H H' → Q .non H'
def spHind : Sp := fun vs H Q _ => ∃ l p ps k, vs = [.ref l, .int (k : Nat)] ∧ LS C CL K H l p ps ∧ k < ps.length ∧ ps.length ≤ 1000 ∧ ∀ H', Same H H' → Q (optV (hind ps k)) H'
def spPairs (f : List Pr → List Pr) : Sp := fun vs H Q _ => ∃ l p ps, vs = [.ref l] ∧ LS C CL K H l p ps ∧ ps.length ≤ 1000 ∧ ∀ q H' us, Same H H' → H q = none → H' q = some (.lst us) → Paired (PrO C K H') (f ps) us → Q (.ref q) H'
def spTolds (f : List Pr → List Pr) : Sp := fun vs H Q _ => ∃ l p ps, vs = [.ref l] ∧ LS C CL K H l p ps ∧ ps.length ≤ 1000 ∧ ∀ q H' us, Same H H' → H q = none → H' q = some (.lst us) → Paired (cPr.rp K H') (f ps) us → Q (.ref q) H'
def spWPlace : Sp := fun vs H Q _ => ∃ l p ps v x, vs = [.ref l, v] ∧ LS C CL K H l p ps ∧ ps.length ≤ 1000 ∧ cPa.rp K H x v ∧ ∀ H', Same H H' → Q (optV (wplace ps x)) H'
def spAsk : Sp := fun vs H Q _ => ∃ l p ps v x u k, vs = [.ref l, v, u] ∧ LS C CL K H l p ps ∧ ps.length < 1000 ∧ cPa.rp K H x v ∧ LkO C H k u ∧ wplace ps x = none ∧ ∀ H', LS C CL K H' l p (askPs ps x k) → Kp p H H' → Q (.bl (askR ps x k)) H'
def spFree : Sp := fun vs H Q _ => ∃ l p ps v x, vs = [.ref l, v] ∧ LS C CL K H l p ps ∧ ps.length ≤ 1000 ∧ cPa.rp K H x v ∧ ∀ q p' H' us, LS C CL K H' l p' (freePs ps x) → H p' = none → Kp l H H' → H q = none → H' q = some (.lst us) → Paired (cPa.rp K H') (freeR ps x) us → Q (.ref q) H'
def spStands : Sp := fun vs H Q _ => ∃ l p ps v x u k, vs = [.ref l, v, u] ∧ LS C CL K H l p ps ∧ ps.length ≤ 1000 ∧ cPa.rp K H x v ∧ LkO C H k u ∧ ∀ H', Same H H' → Q (.bl (standsB ps x k)) H'
def spBehind : Sp := fun vs H Q _ => ∃ l p ps v x, vs = [.ref l, v] ∧ LS C CL K H l p ps ∧ ps.length ≤ 1000 ∧ cPa.rp K H x v ∧
  ((behindO ps x = none ∧ ∀ H', Same H H' → Q .non H') ∨ ∃ y, behindO ps x = some y ∧ ∀ u H', Same H H' → cPa.rp K H' y u → Q u H')
end
/-! ### the laws' own -/
def cellAt (ns : List Int) (k : Nat) : Int := (ns[k]?).getD 0
def spCell (K : PySem.W.Frag) : Sp := fun vs H Q _ => ∃ a ns k, vs = [.ref a, .int (k : Nat)] ∧ SqL K H a ((ns : List Int).map V.int) ∧ Q (.int (cellAt ns k)) H
def namesL (c : Int) : List Pa := [(c % 5, c / 5 % 17), (c % 5, c / 5 % 17 + 1), ((c % 5 + 1) % 5, c / 5 % 17), ((c % 5 + 3) % 5, c / 5 % 17 + 2)]
def spNames (K : PySem.W.Frag) : Sp := fun vs H Q _ => ∃ c, vs = [.int c] ∧ ∀ q H' us, Same H H' → H q = none → H' q = some (.lst us) → Paired (cPa.rp K H') (namesL c) us → Q (.ref q) H'
def toldL (c b : Int) : Lk := (kdOf (c % 3), b + c / 3 % 9, b + c / 3 % 9 + c / 27 % 10)
def spLTold (K : PySem.W.Frag) : Sp := fun vs H Q _ => ∃ c b, vs = [.int c, .int b] ∧ ∀ v H', Same H H' → cLk.rp K H' (toldL c b) v → Q v H'
def spLBeside (K : PySem.W.Frag) : Sp := fun vs H Q _ => ∃ v u k j, vs = [v, u] ∧ cLk.rp K H k v ∧ cLk.rp K H j u ∧ ∀ H', Same H H' → Q (.bl (besideB k j)) H'
def spLCovers (K : PySem.W.Frag) : Sp := fun vs H Q _ => ∃ v u k j, vs = [v, u] ∧ cLk.rp K H k v ∧ cLk.rp K H j u ∧ ∀ H', Same H H' → Q (.bl (coversB k j)) H'
def rkN : Kd → Nat
  | .read => 0
  | .mean => 1
  | .change => 2
def srt (a b : Str) : List Str := if b.cps.toList < a.cps.toList then [b, a] else [a, b]
end Lo
namespace Lo
open PySem L2
end Lo
namespace Lo
open PySem L2
section
variable {K : PySem.W.Frag}
theorem kit_ii : PySem.W.kitOne K (.type "int") (.type "int") = some true := rfl
theorem kit_ss : PySem.W.kitOne K (.type "str") (.type "str") = some true := rfl
theorem kit_bb : PySem.W.kitOne K (.type "bool") (.type "bool") = some true := rfl
theorem kit_tt : PySem.W.kitOne K (.type "tuple") (.type "tuple") = some true := rfl
theorem kit_ib : PySem.W.kitOne K (.type "int") (.type "bool") = some false := by kernel_rfl
end
def spWhole : Sp := fun vs H Q _ => ∃ i, vs = [.int i] ∧ Q (.bl true) H
def spNum : Sp := fun vs H Q _ => ∃ c, vs = [.int c] ∧ ∀ i, Q (.int i) H
def spIs : Sp := fun vs H Q _ => ∃ a b, vs = [.bl a, .bl b] ∧ Q (.bl (decide (a = b))) H
structure TxI (K : PySem.W.Frag) (mg : Str → Option Value) (C : Kd → Addr) (CB : Addr) : Prop where
  mgB : mg "Lock" = some (.ref CB)
  ha : ∀ k, PySem.W.findIn K (.ref (C k)) "__class__" = some (some (.builtin "object.__class__"))
  hn : PySem.W.specialIn K (.builtin "object.__class__") "__get__" = some (some (.builtin "getset_descriptor.__get__"))
  htk : PySem.W.takesIn K (.builtin "object.__class__") = some true
  hm : ∀ k, PySem.W.mroIn K (C k) (.type "object") = some true
  isB : ∀ k, PySem.W.kitOne K (.ref (C k)) (.ref CB) = some true
structure TxJ (K : PySem.W.Frag) (C : Kd → Addr) : Prop where
  isK : ∀ k j, PySem.W.kitOne K (.ref (C k)) (.ref (C j)) = some (decide (k = j))
def spLaw (K : PySem.W.Frag) : Sp := fun vs H Q _ => ∃ a ns, vs = [.ref a] ∧ SqL K H a ((ns : List Int).map V.int) ∧ ns.length ≤ 63 ∧ ∀ H', Q (.bl true) H'
end Lo
namespace Lo
open PySem L2
theorem pss_weak {X : Cx} {st : List Stmt} {t : TS} (u : TS) (h : PSs X st t) (hw : ∀ D σ H, u D σ H → t D σ H) : PSs X st u := fun pins s σ H D I q => h pins s σ H D I (hw D σ H q)
end Lo

set_option maxHeartbeats 1000000
namespace Lo
open PySem L2
section
variable {K : PySem.W.Frag} {a : Addr} {tt : TT} {te : TE} {bl : St} {Fin : List V → Hp → Prop} {H : Hp}
end
/-! ### one pact alone -/
end Lo
namespace Lo
open PySem L2
end Lo
namespace Lo
open PySem L2
theorem cut_ints (ns : List Int) (lo hi : Option Int) : ∃ cs : List Int, cutV (ns.map V.int) lo hi = cs.map V.int ∧ cs.length ≤ ns.length := by
  refine ⟨(ns.drop (HT.sIx (ns.map V.int).length 0 lo)).take (HT.sIx (ns.map V.int).length (ns.map V.int).length hi - HT.sIx (ns.map V.int).length 0 lo), ?_, ?_⟩
  · unfold cutV
    rw [List.map_take, List.map_drop]
  · rw [List.length_take, List.length_drop]
    omega
end Lo

set_option maxHeartbeats 1000000
/-! the list of pairs, by what stands ahead -/
namespace Lo
open PySem L2
def clear (pre : List Pr) (x : Pr) : Bool := pre.all fun a => decide (a.1 = x.1) || besideB a.2 x.2
def heldR : List Pr → List Pr → List Pr
  | _, [] => []
  | pre, x :: r => if clear pre x = true then x :: heldR (pre ++ [x]) r else heldR (pre ++ [x]) r
def waitR : List Pr → List Pr → List Pr
  | _, [] => []
  | pre, x :: r => if clear pre x = true then waitR (pre ++ [x]) r else x :: waitR (pre ++ [x]) r
def Ok2 (a b : Pr) : Prop := a.1 = b.1 ∨ besideB a.2 b.2 = true
/-! ### tuples that are told -/
section
variable {X : Cx}
end
end Lo

set_option maxHeartbeats 1000000
/-! a house's locks beside lists of the law's own -/
namespace Lo
open PySem L2
section
variable {C : Kd → Addr} {CL : Addr} {K : PySem.W.Frag} {H H' : Hp} {l pl pl' d : Addr} {ps ps' : List Pr} {own : List (Addr × List V)} {xs ys : List V}
def HS (C : Kd → Addr) (CL : Addr) (K : PySem.W.Frag) (l pl : Addr) (ps : List Pr) (own : List (Addr × List V)) (H : Hp) : Prop :=
  LS C CL K H l pl ps ∧ (∀ q ∈ own, H q.1 = some (.lst q.2)) ∧ (∀ q ∈ own, q.1 ≠ pl) ∧ (own.map (·.1)).Nodup
end
/-- names and base are told; n names more to come -/
def uN (n : Nat) (K : PySem.W.Frag) : TS := fun D σ H => ∃ a ns nl nus names b, σ = [some (.ref a), some (.ref nl), some (.int b)] ++ List.replicate n none ∧ SqL K H a ((ns : List Int).map V.int) ∧ ns.length ≤ 63 ∧ H nl = some (.lst nus) ∧ Paired (cPa.rp K H) names nus ∧ names.length = 4 ∧ ∀ H', D.rt (.bl true) H'
end Lo

set_option maxHeartbeats 1000000
/-! who is behind whom, by a cut of the list -/
namespace Lo
open PySem L2
/-- x waits, and the first that hinders it is y's -/
def Beh (ps : List Pr) (x y : Pa) : Prop := ∃ (pre1 pre2 post : List Pr) (h z : Pr), ps = (pre1 ++ h :: pre2) ++ z :: post ∧ z.1 = x ∧ h.1 = y ∧ y ≠ x ∧ besideB h.2 z.2 = false ∧ clear pre1 z = true ∧ x ∉ (waitL (pre1 ++ h :: pre2)).map (·.1)
/-! ### None or a pact -/
def orp (K : PySem.W.Frag) (H : Hp) : Option Pa → V → Prop
  | none, v => v = .non
  | some y, v => cPa.rp K H y v
section
variable {X : Cx}
end
end Lo

set_option maxHeartbeats 1000000
/-! cuts, numbers -/
namespace Lo
open PySem L2
/-- k-th to wait is x's -/
def wat (ps : List Pr) (x : Pa) (k : Nat) : Bool := ((waitL ps)[k]?).any fun z => decide (z.1 = x)
/-- whom a pact is behind stays, unless one of the two was freed -/
def Lasts (fo : Option Pa) (ps ps' : List Pr) : Prop := ∀ x y, behindO ps x = some y → fo ≠ some y → fo ≠ some x → behindO ps' x = some y
/-- what is known of whom the pacts were behind -/
def Kn (K : PySem.W.Frag) (H : Hp) (names : List Pa) (kus : List V) (i : Nat) (ps ps' : List Pr) : Prop :=
  kus.length = names.length ∧ ∀ j x u, names[j]? = some x → kus[j]? = some u → orp K H (if j < i then behindO ps' x else behindO ps x) u
def spBehindO (C : Kd → Addr) (CL : Addr) (K : PySem.W.Frag) : Sp := fun vs H Q _ => ∃ l p ps v x, vs = [.ref l, v] ∧ LS C CL K H l p ps ∧ ps.length ≤ 1000 ∧ cPa.rp K H x v ∧ ∀ u H', Same H H' → orp K H' (behindO ps x) u → Q u H'
def _root_.L2.GM.imp {P : Program} {w : World} {K : PySem.W.Frag} {mg : Str → Option Value} {base : Heap} {CX : CXT} {k : Nat} {C : Addr} {m : Str} {ps : List Str} {sp sp' : Sp} (G : GM P w K mg base CX k C m ps sp) (h : ∀ vs H Q E, sp' vs H Q E → sp vs H Q E) : GM P w K mg base CX k C m ps sp' := ⟨G.f, G.fd, G.ok.imp h, G.bd, G.me⟩
end Lo

set_option maxHeartbeats 1000000
/-! what a freeing lets in -/
namespace Lo
open PySem L2
/-! ### two lists of the law's own that change -/
section
variable {C : Kd → Addr} {CL : Addr} {K : PySem.W.Frag} {H H' : Hp} {l pl : Addr} {ps : List Pr} {own : List (Addr × List V)}
def Kq (a b : Addr) (H H' : Hp) : Prop := ∀ c o, c ≠ a → c ≠ b → H c = some o → H' c = some o
end
/-- the pairs that wait behind a freeing -/
def goneB (ps : List Pr) (p : Pa) (x : Pr) : Bool := decide (x.1 ∈ (waitL (freePs ps p)).map (·.1))
def notP (p : Pa) (x : Pr) : Bool := !decide (x.1 = p)
end Lo

set_option maxHeartbeats 1000000
namespace L2
open PySem PySem.Spec PyProof.Rows
/-! ### lists of pairs as tables -/
section
variable {κ : Type} [DecidableEq κ]
def valV (kvs : List (κ × V)) (k : κ) : Option V := (kvs.find? fun kv => decide (kv.1 = k)).map (·.2)
/-- in its place, or at the end -/
def putK (kvs : List (κ × V)) (k : κ) (v : V) : List (κ × V) :=
  if (kvs.any fun kv => decide (kv.1 = k)) = true then kvs.map (fun kv => if kv.1 = k then (kv.1, v) else kv) else kvs ++ [(k, v)]
def dropK (kvs : List (κ × V)) (k : κ) : List (κ × V) := kvs.filter fun kv => decide (kv.1 ≠ k)

theorem valV_pos {p : κ × V} {r : List (κ × V)} {k : κ} (e : p.1 = k) : valV (p :: r) k = some p.2 := by simp [valV, List.find?_cons, e]
theorem valV_neg {p : κ × V} {r : List (κ × V)} {k : κ} (e : ¬ p.1 = k) : valV (p :: r) k = valV r k := by simp [valV, List.find?_cons, e]
theorem length_putK (kvs : List (κ × V)) (k : κ) (v : V) : (putK kvs k v).length ≤ kvs.length + 1 := by
  unfold putK
  split
  · rw [List.length_map]; omega
  · rw [List.length_append, List.length_cons, List.length_nil]; omega
/-- raw tables of the same keys -/
theorem KV.val {kvs : List (κ × V)} {vs : List (κ × Value)} (r : KV kvs vs) (k : κ) : RelO (valV kvs k) (valueAt vs k) := by
  unfold KV at r
  induction r with
  | nil => exact True.intro
  | @cons p q ps qs h t ih =>
    obtain ⟨h1, h2⟩ := h
    by_cases e : p.1 = k
    · have e' : q.1 = k := h1.symm.trans e
      have b : valueAt (q :: qs) k = some q.2 := by simp [valueAt, List.find?_cons, e']
      rw [valV_pos e, b]; exact h2
    · have e' : ¬ q.1 = k := fun z => e (h1.trans z)
      have b : valueAt (q :: qs) k = valueAt qs k := by simp [valueAt, List.find?_cons, e']
      rw [valV_neg e, b]; exact ih
theorem KV.any {kvs : List (κ × V)} {vs : List (κ × Value)} (r : KV kvs vs) (k : κ) : (kvs.any fun kv => decide (kv.1 = k)) = vs.any fun kv => decide (kv.1 = k) := by
  unfold KV at r
  induction r with
  | nil => rfl
  | cons h t ih => rw [List.any_cons, List.any_cons, ih, h.1]
theorem KV.repl {kvs : List (κ × V)} {vs : List (κ × Value)} (r : KV kvs vs) (k : κ) {y : V} {u : Value} (ry : RelV y u) :
    KV (kvs.map fun kv => if kv.1 = k then (kv.1, y) else kv) (vs.map fun kv => if kv.1 = k then (kv.1, u) else kv) := by
  unfold KV at r ⊢
  induction r with
  | nil => exact .nil
  | @cons p q ps qs h t ih =>
    rw [List.map_cons, List.map_cons]
    refine .cons ?_ ih
    obtain ⟨h1, h2⟩ := h
    by_cases e : p.1 = k
    · rw [if_pos e, if_pos (h1.symm.trans e)]; exact ⟨h1, ry⟩
    · rw [if_neg e, if_neg (fun z => e (h1.trans z))]; exact ⟨h1, h2⟩
theorem KV.put {kvs : List (κ × V)} {vs : List (κ × Value)} (r : KV kvs vs) (k : κ) {y : V} {u : Value} (ry : RelV y u) : KV (putK kvs k y) (stored vs k u) := by
  unfold putK stored
  rw [r.any k]
  by_cases e : (vs.any fun kv => decide (kv.1 = k)) = true
  · rw [if_pos e, if_pos e]; exact r.repl k ry
  · rw [if_neg e, if_neg e]; exact Paired.snoc r ⟨rfl, ry⟩
end


/-! ### a tracked dict, its keys ints and texts or tuples of these -/
theorem kV_is {P : Program} {w : World} {k : Key} {u : Value} (r : RelV (kV k) u) : (mixKind P w).is k u = true := by
  cases k with
  | inl i => obtain ⟨t, e⟩ := (show ∃ t, u = Value.int i t from r); subst e; exact mixKind_int P w i t
  | inr x => obtain ⟨t, e⟩ := (show ∃ t, u = Value.str x t from r); subst e; exact mixKind_str P w x t
theorem items_are {P : Program} {w : World} : ∀ {ks : List Key} {us : List Value}, Vals (ks.map kV) us → ItemsAre (mixKind P w) ks us
  | [], _, r => by rw [List.map_nil] at r; cases r; exact .nil
  | k :: ks, _, r => by
    rw [List.map_cons] at r
    cases r with
    | cons h t => exact .cons (kV_is h) (items_are t)

/-- raw entries of a dict with tuple keys -/
abbrev KT (H : Hp) : List (List Key × V) → List (List Key × Addr × Value) → Prop := Paired fun p q => p.1 = q.1 ∧ H q.2.1 = some (.tup (p.1.map kV)) ∧ RelV p.2 q.2.2
theorem KT.val {H : Hp} {kvs : List (List Key × V)} {xs : List (List Key × Addr × Value)} (r : KT H kvs xs) (k : List Key) : RelO (valV kvs k) ((atKey xs k).map (·.2)) := by
  induction r with
  | nil => exact True.intro
  | @cons p q ps qs h t ih =>
    obtain ⟨h1, _, h2⟩ := h
    by_cases e : p.1 = k
    · have e' : q.1 = k := h1.symm.trans e
      have b : atKey (q :: qs) k = some q.2 := by simp [atKey, List.find?_cons, e']
      rw [valV_pos e, b]; exact h2
    · have e' : ¬ q.1 = k := fun z => e (h1.trans z)
      have b : atKey (q :: qs) k = atKey qs k := by simp [atKey, List.find?_cons, e']
      rw [valV_neg e, b]; exact ih
section
variable {P : Program} {w : World} {H : Hp} {h : Heap} {a : Addr}
theorem rd_of {u : HO} (ok : HOk P w H h) (e : Rd H a u) : ObjOk P w H h a u := e.ok ok
theorem dk_rd {kvs : List (Key × V)} (ok : HOk P w H h) (e : Rd H a (.dK kvs)) : kvs.length ≤ sizeLine ∧ (a == sysModules) = false ∧ ∃ vs, KV kvs vs ∧ h.DictOf (mixKind P w) a vs :=
  show ObjOk P w H h a (.dK kvs) from rd_of ok e
theorem dk_of {kvs : List (Key × V)} (ok : HOk P w H h) (e : H a = some (.dK kvs)) : kvs.length ≤ sizeLine ∧ (a == sysModules) = false ∧ ∃ vs, KV kvs vs ∧ h.DictOf (mixKind P w) a vs := dk_rd ok (.inl e)
/-- a tracked tuple of ints and texts is a key -/
theorem key_of {ks : List Key} (ok : HOk P w H h) (e : H a = some (.tup (ks.map kV))) : (tupleKind (mixKind P w)).is h ks a := by
  obtain ⟨_, its, r, o, h1, h2, n, h3⟩ := (show ObjOk P w H h a (.tup (ks.map kV)) from ok a _ e)
  exact ⟨o, its.toArray, n, h1, h2, h3, by simpa using items_are r⟩
theorem dt_rd {kvs : List (List Key × V)} (ok : HOk P w H h) (e : Rd H a (.dT kvs)) : kvs.length ≤ sizeLine ∧ (a == sysModules) = false ∧
    ∃ xs, KT H kvs xs ∧ h.DictOfH (tupleKind (mixKind P w)) a xs := by
  obtain ⟨z, y, xs, r, o, es, ep, h1, h2, h3, h4, h5⟩ := (show ObjOk P w H h a (.dT kvs) from rd_of ok e)
  refine ⟨z, y, xs, r, o, es, ep, h1, h2, h3, h4, fun x hx => ?_, h5⟩
  have all : ∀ {l : List (List Key × V)} {m : List (List Key × Addr × Value)}, KT H l m → ∀ x ∈ m, (tupleKind (mixKind P w)).is h x.1 x.2.1 := by
    intro l m q
    induction q with
    | nil => intro x hx; exact nomatch hx
    | @cons p q ps qs hq t ih =>
      intro x hx
      rcases List.mem_cons.mp hx with e | hx
      · subst e
        exact key_of ok (by rw [← hq.1]; exact hq.2.1)
      · exact ih x hx
  exact all r x hx
end

/-- what the dict at a holds at the key y -/
def DGet (H : Hp) (a : Addr) (y : V) (r : Option V) : Prop :=
  (∃ kvs k, Rd H a (.dK kvs) ∧ y = kV k ∧ r = valV kvs k) ∨ ∃ kvs k b, Rd H a (.dT kvs) ∧ y = .ref b ∧ H b = some (.tup (k.map kV)) ∧ r = valV kvs k
/-- the heap behind a[y] = v -/
def DPut (H : Hp) (a : Addr) (y v : V) (H' : Hp) : Prop :=
  (∃ kvs k, H a = some (.dK kvs) ∧ y = kV k ∧ kvs.length < sizeLine ∧ H' = upd H a (.dK (putK kvs k v))) ∨
  ∃ kvs k b, H a = some (.dT kvs) ∧ y = .ref b ∧ H b = some (.tup (k.map kV)) ∧ kvs.length < sizeLine ∧ H' = upd H a (.dT (putK kvs k v))
theorem DGet.k {H : Hp} {a : Addr} {kvs : List (Key × V)} {k : Key} (e : H a = some (.dK kvs)) : DGet H a (kV k) (valV kvs k) := .inl ⟨kvs, k, .inl e, rfl, rfl⟩
section
variable {X : Cx} {pins : List (Addr × Obj)} {σ : St} {H : Hp} {s : Shared} {a : Addr} {y v : V} {u r : Value} {o : Option V} {A : Around} {E : Value → Shared → Prop}

theorem Inv.big (I : Inv X pins σ H s) : sysModules < s.heap.objs.size := by
  have h : mainGlobals < s.heap.objs.size := (I.mod.glob.keeps I.bk).lt
  exact Nat.lt_trans (by decide) h

/-- d[y], there -/
theorem d_getItem {Q : Value → Shared → Prop} (hu : A.units + 1 < cLine) (I : Inv X pins σ H s) (g : DGet H a y (some v)) (ry : RelV y u) (h : ∀ w' s', Inv X pins σ H s' → RelV v w' → Q w' s') :
    wpAny (model X.prog X.w) A (getItem (.ref a) u) Q E s := by
  rcases g with ⟨kvs, k, e, ey, l⟩ | ⟨kvs, k, b, e, ey, eb, l⟩
  · subst ey
    obtain ⟨z, hd, vs, rel, dd⟩ := dk_rd I.hok e
    obtain ⟨w', hw, rw'⟩ := RelO.some_of (v := v) (o := valueAt vs k) (by rw [l]; exact rel.val k)
    exact wpAny_getItem_of (kV_is ry) dd.mapOf hw (h w' _ (I.tok _) rw')
  · subst ey
    cases (show u = Value.ref b from ry)
    obtain ⟨z, hd, xs, rel, dd⟩ := dt_rd I.hok e
    obtain ⟨w', hw, rw'⟩ := RelO.some_of (v := v) (o := (atKey xs k).map (·.2)) (by rw [l]; exact rel.val k)
    obtain ⟨p, hp, hp2⟩ := Option.map_eq_some_iff.mp hw
    refine wpAny_getItem_heap (tupleKind_room_in1 hu) (key_of I.hok eb) dd hp ?_
    rw [hp2]
    exact h w' _ (I.tok _) rw'
/-- a dict's object is replaced -/
theorem d_write {h' : Heap} {t' : Nat} {ob : HO} (I : Inv X pins σ H s) (mu : Mut (H a)) (hs : Heap.SameBut a s.heap h') (he : ∃ q, h'.get? a = some q) (new : ObjOk X.prog X.w (upd H a ob) h' a ob) :
    Inv X pins σ (upd H a ob) { s with heap := h', toks := t' } :=
  I.write (x := a) (e := a) mu (.inl rfl) (fun b q hb z => (hs.2 b hb).trans z) he new
theorem dk_new {P : Program} {w : World} {H' : Hp} {h' : Heap} {kvs : List (Key × V)} {vs : List (Key × Value)} (z : kvs.length ≤ sizeLine) (hd : (a == sysModules) = false) (rel : KV kvs vs) (dd : h'.DictOf (mixKind P w) a vs) :
    ObjOk P w H' h' a (.dK kvs) := ⟨z, hd, vs, rel, dd⟩
end

section
variable {X : Cx} {pins : List (Addr × Obj)} {σ : St} {H : Hp} {s : Shared} {a : Addr} {kvs : List (Key × V)} {k : Key} {u : Value} {A : Around} {E : Value → Shared → Prop}
end


/-! ### readings and rules -/
/-- the element of a subscription, not a slice -/
def NoSl (i : Expr) : Prop := ∀ ov iv, subscripted i false ov iv = operate [ov, iv] (getItem ov iv)
theorem subD_of {prog : Program} {w : World} {A : Around} {E : Value → Shared → Prop} {s : Shared} {env : Env} {value slice : Expr} {pos : Pos} {T id : String} {Q : Value → Shared → Prop}
    (hl : typeLookup (.type T) "__getitem__" = pure (some (.builtin id))) (hs : NoSl slice)
    (h : wpAny (model prog w) A (eval value env) (fun o s₁ => wpAny (model prog w) A (eval slice env) (fun i s₂ => s₂.TypeIs o T ∧ wpAny (model prog w) A (getItem o i) Q E s₂) E s₁) E s) :
    wpAny (model prog w) A (eval (.Subscript value slice pos) env) Q E s := by
  refine Subscript_ (wpAny_mono h (fun o s₁ h₁ => wpAny_mono h₁ (fun i s₂ h₂ => ?_) fun _ _ x => x) fun _ _ x => x)
  obtain ⟨hT, h₂⟩ := h₂
  unfold subscriptTail
  refine wpAny_bind ?_
  rw [getitemInPython_of_ne hT.not_modules]
  refine wpAny_bind (wpAny_specialOf hT hl ?_)
  have fin : wpAny (model prog w) A (subscripted slice false o i) (fun r s₃ => wpAny (model prog w) A (letTemporaryGo value o r >>= fun _ => pure r) Q E s₃) E s₂ := by
    rw [hs o i]
    exact wpAny_operating (wpAny_mono h₂ (fun r s₃ h₃ => wpAny_bind (wpAny_letTemporaryGo (wpAny_pure h₃))) fun _ _ x => x)
  first
    | exact wpAny_pure (wpAny_bind fin)
    | exact wpAny_bind (wpAny_pure (wpAny_bind fin))
    | exact wpAny_bind fin

theorem dict_typeIs {X : Cx} {pins : List (Addr × Obj)} {σ : St} {H : Hp} {s : Shared} {a : Addr} {y : V} {o : Option V} (I : Inv X pins σ H s) (g : DGet H a y o) : s.TypeIs (.ref a) "dict" := by
  rcases g with ⟨kvs, k, e, _, _⟩ | ⟨kvs, k, b, e, _, _, _⟩
  · obtain ⟨_, _, vs, _, dd⟩ := dk_rd I.hok e
    exact dd.typeIs
  · obtain ⟨_, _, xs, _, dd⟩ := dt_rd I.hok e
    exact dd.typeIs
/-- d[y] -/
def tDGet (td ty : TE) : TE := fun σ H Q => td σ H fun x H1 => ty σ H1 fun y H2 => ∃ a v, x = .ref a ∧ DGet H2 a y (some v) ∧ Q v H2
/-- y in d, y not in d -/
def tDIn (ty td : TE) : TE := fun σ H Q => ty σ H fun y H1 => td σ H1 fun x H2 => ∃ a o, x = .ref a ∧ DGet H2 a y o ∧ Q (.bl o.isSome) H2
def tDNotIn (ty td : TE) : TE := fun σ H Q => ty σ H fun y H1 => td σ H1 fun x H2 => ∃ a o, x = .ref a ∧ DGet H2 a y o ∧ Q (.bl (!o.isSome)) H2
/-- d[y] = v -/
def sDPut (td ty tv : TE) : TS := fun D σ H => tv σ H fun v H1 => td σ H1 fun x H2 => ty σ H2 fun y H3 => ∃ a H4, x = .ref a ∧ DPut H3 a y v H4 ∧ D.nx σ H4
/-- d[y] op= v -/
def sDAug (td ty tv : TE) (rd : V → V → Hp → VK → Prop) : TS := fun D σ H => td σ H fun x H1 => ty σ H1 fun y H2 => ∃ a v, x = .ref a ∧ DGet H2 a y (some v) ∧
  tv σ H2 fun y2 H3 => rd v y2 H3 fun z H4 => ∃ H5, DPut H4 a y z H5 ∧ D.nx σ H5
/-- del d[y] -/
def sDDel (td ty : TE) : TS := fun D σ H => td σ H fun x H1 => ty σ H1 fun y H2 => ∃ a kvs k, x = .ref a ∧ H2 a = some (.dK kvs) ∧ y = kV k ∧ (valV kvs k).isSome = true ∧ D.nx σ (upd H2 a (.dK (dropK kvs k)))

section
variable {X : Cx} {o i e value : Expr} {pos pos' tpos : Pos} {td ty tv : TE}
theorem pe_dget (hu : X.A.units + 1 < cLine) (ho : PE X o td) (hi : PE X i ty) (hs : NoSl i) : PE X (.Subscript o i pos) (tDGet td ty) := by
  intro pins s σ H Q I h
  refine subD_of PySem.F.slot_dict_getitem.lookup hs (thn (ho pins s σ H _ I h) fun u s1 ⟨x, H1, I1, rx, q1⟩ => thn (hi pins s1 σ H1 _ I1 q1) fun iv s2 ⟨y, H2, I2, ry, a, v, ex, g, q2⟩ => ?_)
  subst ex
  obtain rfl : u = Value.ref a := rx
  exact ⟨dict_typeIs I2 g, d_getItem hu I2 g ry fun w' s3 I3 rw' => ⟨v, H2, I3, rw', q2⟩⟩
end


/-! ### displays -/
theorem dk_empty {P : Program} {w : World} {H : Hp} (h : Heap) (hb : sysModules < h.objs.size) : ObjOk P w H (h.push { cls := .type "dict", data := .dict #[] }) h.objs.size (.dK []) :=
  ⟨Nat.zero_le _, beq_eq_false_iff_ne.mpr (Ne.symm (Nat.ne_of_lt hb)), [], .nil, Heap.DictOf.new h⟩
/-- {}, to be a dict of the kind that is wanted -/
def tDNewK : TE := fun _ H Q => ∀ p, H p = none → Q (.ref p) (upd H p (.dK []))
def tDNewT : TE := fun _ H Q => ∀ p, H p = none → Q (.ref p) (upd H p (.dT []))
section
variable {X : Cx} {pos : Pos}
end

/-- the pairs of a display, from the left -/
def tPairs : List (TE × TE) → St → Hp → (List (V × V) → Hp → Prop) → Prop
  | [], _, H, Q => Q [] H
  | (tk, tv) :: r, σ, H, Q => tk σ H fun x H1 => tv σ H1 fun y H2 => tPairs r σ H2 fun ps H3 => Q ((x, y) :: ps) H3
abbrev VV : List (V × V) → List (Value × Value) → Prop := Paired fun p q => RelV p.1 q.1 ∧ RelV p.2 q.2
def PPs (X : Cx) (pos : Pos) (keys : List (Option Expr)) (values : List Expr) (trs : List (TE × TE)) : Prop :=
  ∀ (pins : List (Addr × Obj)) (s : Shared) (σ : St) (H : Hp) (Q : List (V × V) → Hp → Prop), Inv X pins σ H s → tPairs trs σ H Q →
    wpAny (model X.prog X.w) X.A (evalPairs (pairTrees keys values X.env pos)) (fun vs s' => ∃ ps H', Inv X pins σ H' s' ∧ VV ps vs ∧ Q ps H') X.xe s
theorem pps_nil {X : Cx} {pos : Pos} : PPs X pos [] [] [] := fun pins s σ H Q I h => pairTrees_nil_walk ⟨[], H, I, .nil, h⟩
theorem pps_cons {X : Cx} {pos : Pos} {k v : Expr} {ks : List (Option Expr)} {vs : List Expr} {tk tv : TE} {trs : List (TE × TE)} (hk : PE X k tk) (hv : PE X v tv) (hr : PPs X pos ks vs trs) :
    PPs X pos (some k :: ks) (v :: vs) ((tk, tv) :: trs) := fun pins s σ H Q I h =>
  pairTrees_cons_walk (thn (hk pins s σ H _ I h) fun u s1 ⟨x, H1, I1, rx, q1⟩ => thn (hv pins s1 σ H1 _ I1 q1) fun w2 s2 ⟨y, H2, I2, ry, q2⟩ =>
    thn (hr pins s2 σ H2 _ I2 q2) fun ws s3 ⟨ps, H3, I3, rel, q3⟩ => ⟨(x, y) :: ps, H3, I3, .cons ⟨rx, ry⟩ rel, q3⟩)

def mergeK (kvs more : List (Key × V)) : List (Key × V) := more.foldl (fun acc kv => putK acc kv.1 kv.2) kvs
theorem KV.merge : ∀ {more : List (Key × V)} {rs : List (Key × Value)} {kvs : List (Key × V)} {vs : List (Key × Value)}, KV more rs → KV kvs vs → KV (mergeK kvs more) (merged vs rs) := by
  intro more rs kvs vs r
  unfold KV at r
  induction r generalizing kvs vs with
  | nil => intro q; exact q
  | @cons p q ps qs h t ih =>
    intro r0
    have e : KV (putK kvs p.1 p.2) (stored vs q.1 q.2) := by
      have := r0.put p.1 h.2
      rw [← h.1]; exact this
    exact ih e
theorem length_mergeK : ∀ (more kvs : List (Key × V)), (mergeK kvs more).length ≤ kvs.length + more.length
  | [], kvs => by show kvs.length ≤ kvs.length + 0; omega
  | p :: r, kvs => by
    have h1 := length_mergeK r (putK kvs p.1 p.2)
    have h2 := length_putK kvs p.1 p.2
    show (mergeK (putK kvs p.1 p.2) r).length ≤ _
    rw [List.length_cons]; omega
theorem carries_of {P : Program} {w : World} : ∀ {kvs : List (Key × V)} {ws : List (Value × Value)}, VV (kvs.map fun kv => (kV kv.1, kv.2)) ws → ∃ rs, Carries (mixKind P w) ws rs ∧ KV kvs rs
  | [], _, r => by rw [List.map_nil] at r; cases r; exact ⟨[], True.intro, .nil⟩
  | p :: kvs, _, r => by
    rw [List.map_cons] at r
    cases r with
    | @cons a b as bs h t =>
      obtain ⟨rs, c, q⟩ := carries_of (P := P) (w := w) t
      obtain ⟨b1, b2⟩ := b
      exact ⟨(p.1, b2) :: rs, ⟨kV_is h.1, rfl, c⟩, .cons ⟨rfl, h.2⟩ q⟩
/-- {k: v, ..} with keys ints and texts; the new dict stands empty while the pairs are made -/
def tDisp (trs : List (TE × TE)) : TE := fun σ H Q => ∀ p, H p = none → tPairs trs σ (upd H p (.dK [])) fun ps H2 => H2 p = some (.dK []) ∧ ∃ kvs : List (Key × V), ps = kvs.map (fun kv => (kV kv.1, kv.2)) ∧ kvs.length ≤ 15 ∧ Q (.ref p) (upd H2 p (.dK (mergeK [] kvs)))
theorem pe_disp {X : Cx} {pos : Pos} {keys : List (Option Expr)} {values : List Expr} {trs : List (TE × TE)} (h : PPs X pos keys values trs) (hall : keys.all (·.isSome) = true) (hl : keys.length = values.length) (h0 : keys ≠ [])
    (h15 : keys.length ≤ 15) : PE X (.Dict keys values pos) (tDisp trs) := by
  intro pins s σ H Q I q
  have hn := I.hok.fresh (Nat.le_refl s.heap.objs.size)
  have I1 := I.laid (a := s.heap.objs.size) (o := .dK []) (h' := s.heap.push { cls := .type "dict", data := .dict #[] }) (t' := s.toks) (fun _ _ q => Heap.get?_push_of_some _ q) (Nat.le_refl _) (dk_empty s.heap I.big)
  refine wpAny_Dict_walk (knd := mixKind X.prog X.w) hall hl h0 h15 (thn (h pins _ σ _ _ I1 (q _ hn)) fun ws s2 ⟨ps, H2, I2, rel, e, kvs, ep, lk, q2⟩ => ?_)
  subst ep
  obtain ⟨rs, c, rk⟩ := carries_of (P := X.prog) (w := X.w) rel
  obtain ⟨z, hd, vs0, r0, dd⟩ := dk_of I2.hok e
  cases r0
  refine ⟨rs, c, dd, fun h' dd' hs => ⟨.ref s.heap.objs.size, _, ?_, rfl, q2⟩⟩
  have hz : (mergeK [] kvs).length ≤ sizeLine := by
    have h1 := length_mergeK kvs []
    rw [List.length_nil] at h1
    rw [sizeLine_eq]; omega
  have he : ∃ q, h'.get? s.heap.objs.size = some q := let ⟨q, _, _, hq, _⟩ := dd'; ⟨q, hq⟩
  exact d_write I2 (by rw [e]; exact True.intro) hs he (dk_new hz hd (rk.merge .nil) dd')


/-! ### methods -/
/-- a method call o.m(e) of a built-in, with one argument: what must be seen of the text -/
structure M1 (X : Cx) (o : Expr) (m : Str) (apos : Pos) (e : Expr) (cpos : Pos) : Prop where
  base : attributeBase o m X.env (eval o X.env) = eval o X.env
  few : ((backTo cpos (starEach [e] X.env)).all (fun x => !x.1) && (backToKw cpos (keywordEach [] X.env)).all (fun x => x.1.isSome)
    && decide (([e] : List Expr).length + ([] : List Keyword).length + (if ([] : List Keyword).isEmpty then 0 else 1) < 30)) = true
  line : (apos.endLine == cpos.line) = true
  trees : backTo cpos (starEach [e] X.env) = [(false, eval e X.env)]
structure M2 (X : Cx) (o : Expr) (m : Str) (apos : Pos) (e f : Expr) (cpos : Pos) : Prop where
  base : attributeBase o m X.env (eval o X.env) = eval o X.env
  few : ((backTo cpos (starEach [e, f] X.env)).all (fun x => !x.1) && (backToKw cpos (keywordEach [] X.env)).all (fun x => x.1.isSome)
    && decide (([e, f] : List Expr).length + ([] : List Keyword).length + (if ([] : List Keyword).isEmpty then 0 else 1) < 30)) = true
  line : (apos.endLine == cpos.line) = true
  trees : backTo cpos (starEach [e, f] X.env) = [(false, eval e X.env), (false, eval f X.env)]

/-- a is a dict, whatever its keys -/
def IsD (H : Hp) (a : Addr) : Prop := (∃ kvs, Rd H a (.dK kvs)) ∨ ∃ kvs, Rd H a (.dT kvs)
section
variable {X : Cx} {pins : List (Addr × Obj)} {σ : St} {H : Hp} {s : Shared} {a : Addr} {y d : V} {u r : Value} {o : Option V} {A : Around} {E : Value → Shared → Prop}
end

def tDGet1 (td ty : TE) : TE := fun σ H Q => td σ H fun x H1 => ∃ a, x = .ref a ∧ IsD H1 a ∧ ty σ H1 fun y H2 => ∃ o, DGet H2 a y o ∧ Q (o.getD .non) H2
def tDGet2 (td ty tx : TE) : TE := fun σ H Q => td σ H fun x H1 => ∃ a, x = .ref a ∧ IsD H1 a ∧ ty σ H1 fun y H2 => tx σ H2 fun z H3 => ∃ o, DGet H3 a y o ∧ Q (o.getD z) H3
/-- d.pop(k): there; d.pop(k, x): there or not -/
def tDPop1 (td ty : TE) : TE := fun σ H Q => td σ H fun x H1 => ∃ a, x = .ref a ∧ IsD H1 a ∧ ty σ H1 fun y H2 => ∃ kvs k v, H2 a = some (.dK kvs) ∧ y = kV k ∧ valV kvs k = some v ∧ Q v (upd H2 a (.dK (dropK kvs k)))
def tDPop2 (td ty tx : TE) : TE := fun σ H Q => td σ H fun x H1 => ∃ a, x = .ref a ∧ IsD H1 a ∧ ty σ H1 fun y H2 => tx σ H2 fun z H3 => ∃ kvs k, H3 a = some (.dK kvs) ∧ y = kV k ∧
  (∀ v, valV kvs k = some v → Q v (upd H3 a (.dK (dropK kvs k)))) ∧ (valV kvs k = none → Q z H3)
section
variable {X : Cx} {o e f : Expr} {apos cpos : Pos} {td ty tx : TE}
end

end L2

set_option maxHeartbeats 1000000
/-! names that are keys, and what hinders -/
namespace Lo
open PySem L2
/-- a pact's name, made at run time -/
def sPa (_ : PySem.W.Frag) (H : Hp) (x : Pa) (v : V) : Prop := ∃ a, v = .ref a ∧ H a = some (.tup [.int x.1, .int x.2])
theorem sPa.c {K : PySem.W.Frag} {H : Hp} {x : Pa} {v : V} (h : sPa K H x v) : cPa.rp K H x v := by
  obtain ⟨a, rfl, e⟩ := h
  exact ⟨a, _, _, rfl, .inl e, rfl, rfl⟩
theorem sPa.keep {K : PySem.W.Frag} {H H' : Hp} {x : Pa} {v : V} (e : TSame H H') (h : sPa K H x v) : sPa K H' x v := by
  obtain ⟨a, rfl, q⟩ := h
  exact ⟨a, rfl, e _ _ q⟩
def sPr (K : PySem.W.Frag) (H : Hp) (x : Pr) (v : V) : Prop := ∃ a pu tu, v = .ref a ∧ SqU K H a [pu, tu] ∧ sPa K H x.1 pu ∧ cLk.rp K H x.2 tu
theorem sPr.c {K : PySem.W.Frag} {H : Hp} {x : Pr} {v : V} (h : sPr K H x v) : cPr.rp K H x v := by
  obtain ⟨a, pu, tu, rfl, e, p, t⟩ := h
  exact ⟨a, pu, tu, rfl, e, p.c, t⟩
theorem sPr.keep {K : PySem.W.Frag} {H H' : Hp} {x : Pr} {v : V} (e : TSame H H') (h : sPr K H x v) : sPr K H' x v := by
  obtain ⟨a, pu, tu, rfl, q, p, t⟩ := h
  exact ⟨a, pu, tu, rfl, q.keep e, p.keep e, cLk.keep e t⟩
def pk (x : Pa) : List Key := [.inl x.1, .inl x.2]
/-- those that hinder a lock, from the left -/
def hins (xs : List Pr) (p : Pa) (k : Lk) : List Pa := (xs.filter fun x => !decide (x.1 = p) && !besideB x.2 k).map (·.1)
def cSub {α : Type} [DecidableEq α] (c : Cod α) (R : PySem.W.Frag → Hp → α → V → Prop) (h : ∀ {K H x v}, R K H x v → c.rp K H x v) (keep : ∀ {K : PySem.W.Frag} {H H' : Hp} {x : α} {v : V}, TSame H H' → R K H x v → R K H' x v) : Cod α where
  n := c.n
  rp := R
  inj h1 h2 h3 h4 := c.inj h1 h2 (h h3) (h h4)
  eq h1 h2 := c.eq (h h1) (h h2)
  rc h1 h2 := c.rc (h h1) (h h2)
  ne h1 h2 := c.ne (h h1) (h h2)
  keep := keep
def cPrS : Cod Pr := cSub cPr sPr (fun h => h.c) (fun e h => h.keep e)
def cPaS : Cod Pa := cSub cPa sPa (fun h => h.c) (fun e h => h.keep e)
def uNS (n : Nat) (K : PySem.W.Frag) : TS := fun D σ H => ∃ a ns nl nus names b, σ = [some (.ref a), some (.ref nl), some (.int b)] ++ List.replicate n none ∧ SqL K H a ((ns : List Int).map V.int) ∧ ns.length ≤ 63 ∧ H nl = some (.lst nus) ∧ Paired (sPa K H) names nus ∧ names.length = 4 ∧ ∀ H', D.rt (.bl true) H'
/-! ### two houses -/
section
variable {C : Kd → Addr} {CL : Addr} {K : PySem.W.Frag} {H H' : Hp}
def Kr (l pl q : Addr) (H H' : Hp) : Prop := ∀ b o, b ≠ l → b ≠ pl → b ≠ q → H b = some o → H' b = some o
def Ho (C : Kd → Addr) (CL : Addr) (K : PySem.W.Frag) (H : Hp) (l pl q : Addr) (ps : List Pr) (us : List V) : Prop := LS C CL K H l pl ps ∧ H q = some (.lst us) ∧ Paired (sPr K H) ps us ∧ ((waitL ps).map (·.1)).Nodup
def W18 (C : Kd → Addr) (CL : Addr) (K : PySem.W.Frag) (l0 pl0 q0 : Addr) (ps0 : List Pr) (us0 : List V) (l1 pl1 q1 : Addr) (ps1 : List Pr) (us1 : List V) (own : List (Addr × List V)) (H : Hp) : Prop :=
  Ho C CL K H l0 pl0 q0 ps0 us0 ∧ Ho C CL K H l1 pl1 q1 ps1 us1 ∧ l0 ≠ l1 ∧ (∀ x ∈ own, H x.1 = some (.lst x.2)) ∧ (q0 ≠ pl0 ∧ q1 ≠ pl1 ∧ pl0 ≠ pl1 ∧ pl0 ≠ q1 ∧ q0 ≠ pl1 ∧ q0 ≠ q1) ∧ ∀ x ∈ own, x.1 ≠ pl0 ∧ x.1 ≠ q0 ∧ x.1 ≠ pl1 ∧ x.1 ≠ q1
variable {l0 pl0 q0 l1 pl1 q1 : Addr} {ps0 ps1 : List Pr} {us0 us1 : List V} {own : List (Addr × List V)}
end
section
variable {X : Cx}
end
end Lo

namespace Km
open PySem PySem.NumText PyProof.Rows
/-! ### figures -/
def isDig (c : Nat) : Bool := decide (48 ≤ c) && decide (c ≤ 57)
def okSign (c : Nat) : Bool := decide (32 ≤ c) && decide (c ≤ 126) && decide (c ≠ 37)
def digs (m : Nat) : List Nat := (Nat.toDigits 10 m).map Char.toNat
def numCs (n : Int) : List Nat := if n < 0 then 45 :: digs n.natAbs else digs n.natAbs
theorem digs_all (m : Nat) : AllDigits (digs m) := by
  intro c hc
  obtain ⟨ch, hch, e⟩ := List.mem_map.mp hc
  have r := digit_range (Nat.isDigit_of_mem_toDigits (by decide) (by decide) hch)
  rw [← e]
  exact r
theorem digs_ne (m : Nat) : digs m ≠ [] := by
  intro e
  have h := toDigits_len_ge 10 m
  rw [List.map_eq_nil_iff.mp e] at h
  exact absurd h (by decide)
theorem digs_val (m : Nat) : digitsVal (digs m) = m := PySem.W.KIN.val_back m
theorem digs_zero : digs 0 = [48] := rfl
theorem digs_head (m : Nat) (h : m ≠ 0) : ∀ c r, digs m = c :: r → c ≠ 48 := by
  induction m using Nat.strongRecOn with
  | _ m ih =>
    intro c r e
    by_cases hm : m < 10
    · unfold digs at e
      rw [Nat.toDigits_of_lt_base hm] at e
      have hc : (Nat.digitChar m).toNat = c := by simpa using (List.cons.inj e).1
      have key : ∀ d : Nat, d < 10 → d ≠ 0 → (Nat.digitChar d).toNat ≠ 48 := by decide
      rw [← hc]
      exact key m hm h
    · have t : Nat.toDigits 10 (m / 10) ++ Nat.toDigits 10 (m % 10) = Nat.toDigits 10 (10 * (m / 10) + m % 10) := Nat.toDigits_append_toDigits (by decide) (by omega) (Nat.mod_lt m (by decide))
      rw [Nat.div_add_mod] at t
      have e2 : digs m = digs (m / 10) ++ digs (m % 10) := by unfold digs; rw [← t, List.map_append]
      cases q : digs (m / 10) with
      | nil => exact absurd q (digs_ne _)
      | cons c' r' =>
        rw [e2, q] at e
        have : c' = c := (List.cons.inj e).1
        rw [← this]
        exact ih (m / 10) (by omega) (by omega) c' r' q
theorem digs_len {m k : Nat} (hk : 1 ≤ k) (h : m < 10 ^ k) : (digs m).length ≤ k := by
  induction k generalizing m with
  | zero => omega
  | succ k ih =>
    by_cases hm : m < 10
    · unfold digs
      rw [Nat.toDigits_of_lt_base hm]
      simp
    · have hk1 : 1 ≤ k := by
        cases k with
        | zero => exfalso; simp at h; omega
        | succ k => omega
      have t : Nat.toDigits 10 (m / 10) ++ Nat.toDigits 10 (m % 10) = Nat.toDigits 10 (10 * (m / 10) + m % 10) := Nat.toDigits_append_toDigits (by decide) (by omega) (Nat.mod_lt m (by decide))
      rw [Nat.div_add_mod] at t
      have e2 : digs m = digs (m / 10) ++ digs (m % 10) := by unfold digs; rw [← t, List.map_append]
      have e3 : digs (m % 10) = [(Nat.digitChar (m % 10)).toNat] := by unfold digs; rw [Nat.toDigits_of_lt_base (Nat.mod_lt m (by decide))]; rfl
      have h2 : m / 10 < 10 ^ k := by
        rw [Nat.pow_succ] at h
        exact Nat.div_lt_of_lt_mul (by rw [Nat.mul_comm]; exact h)
      have := ih hk1 h2
      rw [e2, e3, List.length_append]
      simpa using this
theorem str_num (n : Int) : (Str.ofString (toString n)).cps.toList = numCs n := by
  cases n with
  | ofNat m =>
    unfold numCs
    rw [if_neg (show ¬ Int.ofNat m < 0 from Int.not_lt.mpr (Int.natCast_nonneg m))]
    exact PySem.W.KIN.signs_num m
  | negSucc m =>
    unfold numCs
    rw [if_pos (by omega)]
    have e : toString (Int.negSucc m) = "-" ++ Nat.repr (m + 1) := rfl
    rw [e, signs_ofString, String.toList_append, List.map_append, Nat.toList_repr]
    rfl
theorem log_ok {n : Int} (h : n.natAbs < 10 ^ 400) : n.natAbs.log2 < 1920 := by
  by_cases h0 : n.natAbs = 0
  · rw [h0]; decide
  · exact (Nat.log2_lt h0).mpr (Nat.lt_of_lt_of_le h (by decide +kernel))
end Km

namespace Km
open PySem PySem.NumText L2
/-! ### things -/
inductive Th where
  | num (i : Int)
  | txt (cs : List Nat)
  | tup (ts : List Th)
mutual
def Th.cs : Th → List Nat
  | .num i => numCs i
  | .txt cs => digs cs.length ++ 58 :: cs
  | .tup ts => 40 :: (Th.css ts ++ [41])
def Th.css : List Th → List Nat
  | [] => []
  | t :: ts => Th.cs t ++ Th.tl ts
def Th.tl : List Th → List Nat
  | [] => []
  | t :: ts => 32 :: (Th.cs t ++ Th.tl ts)
end
mutual
def Th.dp : Th → Nat
  | .num _ => 0
  | .txt _ => 0
  | .tup ts => Th.dps ts + 1
def Th.dps : List Th → Nat
  | [] => 0
  | t :: ts => max (Th.dp t) (Th.dps ts)
end
mutual
def Th.Ok : Th → Prop
  | .num i => i.natAbs < 10 ^ 400
  | .txt cs => cs.length ≤ 2000
  | .tup ts => ts.length ≤ 2000 ∧ Th.Oks ts
def Th.Oks : List Th → Prop
  | [] => True
  | t :: ts => Th.Ok t ∧ Th.Oks ts
end
mutual
def Th.Sg : Th → Prop
  | .num _ => True
  | .txt cs => ∀ c ∈ cs, okSign c = true
  | .tup ts => Th.Sgs ts
def Th.Sgs : List Th → Prop
  | [] => True
  | t :: ts => Th.Sg t ∧ Th.Sgs ts
end
mutual
def Rep (H : Hp) : Th → V → Prop
  | .num i, v => v = .int i
  | .txt cs, v => v = .str ⟨cs.toArray⟩
  | .tup ts, v => ∃ a xs, v = .ref a ∧ H a = some (.tup xs) ∧ Reps H ts xs
def Reps (H : Hp) : List Th → List V → Prop
  | [], xs => xs = []
  | t :: ts, xs => ∃ x r, xs = x :: r ∧ Rep H t x ∧ Reps H ts r
end
/-- tuples stay -/
def TupsIn (H H' : Hp) : Prop := ∀ a xs, H a = some (.tup xs) → H' a = some (.tup xs)
/-! ### joined texts -/
end Km

namespace Km
open PySem PySem.NumText L2 PyProof.Rows
/-! ### marks and lines -/
def mkTerm (cs : List Nat) (k : Nat) : Int := ((k : Int) + 1) * ((cs.getD k 0 : Nat) : Int)
def mkTerms (cs : List Nat) : List Int := (List.range cs.length).map (mkTerm cs)
def markI (cs : List Nat) : Int := (mkTerms cs).sum % 1000003
def bodyCs (t : Th) : List Nat := t.cs ++ 32 :: numCs (markI t.cs)
def lineCs (t : Th) : List Nat := bodyCs t ++ [10]
def linesCs (ts : List Th) : List Nat := ts.flatMap lineCs
/-! ### cutting at the last blank -/
/-! ### parting at each line end -/
def joinC (c : Nat) : List (List Nat) → List Nat
  | [] => []
  | [x] => x
  | x :: y :: r => x ++ c :: joinC c (y :: r)
theorem join_one_cs (c : Nat) : ∀ ys : List Str, (Str.join ⟨#[c]⟩ ys).cps.toList = joinC c (ys.map fun y => y.cps.toList)
  | [] => rfl
  | [y] => rfl
  | y :: u :: ys => by
    have ih := join_one_cs c (u :: ys)
    rw [join_cons_cons]
    show ((y.cps ++ #[c]) ++ (Str.join ⟨#[c]⟩ (u :: ys)).cps).toList = _
    rw [Array.toList_append, Array.toList_append, ih]
    simp [joinC]
theorem cut_first {c : Nat} {a b a' b' : List Nat} (ha : c ∉ a) (ha' : c ∉ a') (e : a ++ c :: b = a' ++ c :: b') : a = a' ∧ b = b' := by
  induction a generalizing a' with
  | nil =>
    cases a' with
    | nil => exact ⟨rfl, (List.cons.inj e).2⟩
    | cons x a' => exact absurd (List.mem_cons.mpr (.inl (List.cons.inj e).1)) ha'
  | cons x a ih =>
    cases a' with
    | nil => exact absurd (List.mem_cons.mpr (.inl (List.cons.inj e).1.symm)) ha
    | cons y a' =>
      obtain ⟨e1, e2⟩ := List.cons.inj e
      obtain ⟨r1, r2⟩ := ih (fun h => ha (List.mem_cons_of_mem _ h)) (fun h => ha' (List.mem_cons_of_mem _ h)) e2
      exact ⟨by rw [e1, r1], r2⟩
theorem joinC_inj {c : Nat} : ∀ {xs ys : List (List Nat)}, xs ≠ [] → ys ≠ [] → (∀ x ∈ xs, c ∉ x) → (∀ y ∈ ys, c ∉ y) → joinC c xs = joinC c ys → xs = ys
  | [], _, h, _, _, _, _ => absurd rfl h
  | _ :: _, [], _, h, _, _, _ => absurd rfl h
  | [x], [y], _, _, _, _, e => by rw [show x = y from e]
  | [x], y :: u :: ys, _, _, hx, _, e => by
    have e' : x = y ++ c :: joinC c (u :: ys) := e
    exact absurd (by rw [e']; simp) (hx x List.mem_cons_self)
  | x :: u :: xs, [y], _, _, _, hy, e => by
    have e' : x ++ c :: joinC c (u :: xs) = y := e
    exact absurd (by rw [← e']; simp) (hy y List.mem_cons_self)
  | x :: u :: xs, y :: v :: ys, _, _, hx, hy, e => by
    have e' : x ++ c :: joinC c (u :: xs) = y ++ c :: joinC c (v :: ys) := e
    obtain ⟨e1, e2⟩ := cut_first (hx x List.mem_cons_self) (hy y List.mem_cons_self) e'
    rw [e1, joinC_inj (by simp) (by simp) (fun z hz => hx z (List.mem_cons_of_mem _ hz)) (fun z hz => hy z (List.mem_cons_of_mem _ hz)) e2]
theorem split_at {z : Str} {c : Nat} {ps : List (List Nat)} (ez : z.cps.toList = joinC c ps) (h0 : ps ≠ []) (hp : ∀ p ∈ ps, c ∉ p) : Txt.split z ⟨#[c]⟩ = ps.map fun p => (⟨p.toArray⟩ : Str) := by
  have e1 := join_one_cs c (Txt.split z ⟨#[c]⟩)
  rw [StrLaws.join_split, ez] at e1
  have n1 : (Txt.split z ⟨#[c]⟩).map (fun y => y.cps.toList) ≠ [] := by
    intro e
    have := split_pos z ⟨#[c]⟩
    rw [List.map_eq_nil_iff.mp e] at this
    exact absurd this (by decide)
  have e2 := joinC_inj h0 n1 hp (fun y hy => by
    obtain ⟨p, hp', rfl⟩ := List.mem_map.mp hy
    exact StrLaws.split_free z c p hp') e1
  rw [e2, List.map_map]
  have e3 : ((fun p : List Nat => (⟨p.toArray⟩ : Str)) ∘ fun y : Str => y.cps.toList) = id := by
    funext y
    obtain ⟨a⟩ := y
    simp
  rw [e3, List.map_id]
end Km

set_option maxHeartbeats 1000000
/-! steps as data -/
namespace St
open PySem L2 Lo Km PySem.NumText
inductive Wd where
  | take | mean | sum | give | add | plus | need
  deriving DecidableEq
def wS : Wd → Str
  | .take => "take" | .mean => "mean" | .sum => "sum" | .give => "give" | .add => "add" | .plus => "plus" | .need => "need"
/-- the classes' names -/
def wN : Wd → Str
  | .take => "TakeStep" | .mean => "MeanStep" | .sum => "SumStep" | .give => "GiveStep" | .add => "AddStep" | .plus => "PlusStep" | .need => "NeedStep"
def inN (i : Int) : Prop := 0 ≤ i ∧ i < 10 ^ 40
def inV (i : Int) : Prop := i.natAbs < 10 ^ 40
theorem inN.v {i : Int} (h : inN i) : inV i := by
  unfold inN at h
  unfold inV
  omega
/-- the numbers that a step's word takes -/
def Ar : Wd → List Int → Prop
  | .take, [h, c] => inN h ∧ inN c
  | .mean, [h, c] => inN h ∧ inN c
  | .give, [h, c] => inN h ∧ inN c
  | .sum, [h, a, b] => inN h ∧ inN a ∧ inN b ∧ a ≤ b
  | .add, [h, c, v] => inN h ∧ inN c ∧ inV v
  | .plus, [v] => inV v
  | .need, [v] => inV v
  | _, _ => False
theorem Ar.all {w : Wd} {ns : List Int} (h : Ar w ns) : ∀ i ∈ ns, inV i := by
  unfold Ar at h
  split at h
  · intro i hi; simp only [List.mem_cons, List.mem_nil_iff, or_false] at hi; rcases hi with rfl | rfl <;> first | exact h.1.v | exact h.2.v
  · intro i hi; simp only [List.mem_cons, List.mem_nil_iff, or_false] at hi; rcases hi with rfl | rfl <;> first | exact h.1.v | exact h.2.v
  · intro i hi; simp only [List.mem_cons, List.mem_nil_iff, or_false] at hi; rcases hi with rfl | rfl <;> first | exact h.1.v | exact h.2.v
  · intro i hi; simp only [List.mem_cons, List.mem_nil_iff, or_false] at hi; rcases hi with rfl | rfl | rfl <;> first | exact h.1.v | exact h.2.1.v | exact h.2.2.1.v
  · intro i hi; simp only [List.mem_cons, List.mem_nil_iff, or_false] at hi; rcases hi with rfl | rfl | rfl <;> first | exact h.1.v | exact h.2.1.v | exact h.2.2
  · intro i hi; simp only [List.mem_cons, List.mem_nil_iff, or_false] at hi; rcases hi with rfl; exact h
  · intro i hi; simp only [List.mem_cons, List.mem_nil_iff, or_false] at hi; rcases hi with rfl; exact h
  · exact h.elim
/-! ### the text -/
def iS (i : Int) : Str := Str.ofString (toString i)
theorem iS_len {i : Int} (h : inV i) : (iS i).length ≤ 41 := by
  have e : (iS i).length = (numCs i).length := by
    unfold iS
    rw [← str_num]
    simp [Str.length]
  rw [e]
  unfold numCs
  have := digs_len (k := 40) (by decide) h
  split
  · rw [List.length_cons]; omega
  · omega
theorem num_32 (i : Int) : 32 ∉ numCs i := by
  have hd : ∀ m, 32 ∉ digs m := fun m hm => by
    have := digs_all m
    have h := this 32 hm
    omega
  unfold numCs
  split
  · intro hm
    rcases List.mem_cons.mp hm with e | e
    · cases e
    · exact hd _ e
  · exact hd _
def txt (w : Wd) (ns : List Int) : Str := Str.join (Str.ofString " ") (wS w :: ns.map iS)
theorem wS_32 (w : Wd) : 32 ∉ (wS w).cps.toList := by cases w <;> decide +kernel
theorem wS_len (w : Wd) : (wS w).length ≤ 4 := by cases w <;> decide +kernel
theorem sep_eq : (Str.ofString " ") = ⟨#[32]⟩ := by decide +kernel
theorem split_txt (w : Wd) (ns : List Int) : Txt.split (txt w ns) ⟨#[32]⟩ = wS w :: ns.map iS := by
  have e := join_one_cs 32 (wS w :: ns.map iS)
  have e2 : (txt w ns).cps.toList = joinC 32 ((wS w :: ns.map iS).map fun y => y.cps.toList) := by
    unfold txt
    rw [sep_eq]
    exact e
  rw [split_at e2 (by simp) (fun p hp => ?_)]
  · rw [List.map_map]
    have e3 : ((fun p : List Nat => (⟨p.toArray⟩ : Str)) ∘ fun y : Str => y.cps.toList) = id := by
      funext y
      obtain ⟨a⟩ := y
      simp
    rw [e3, List.map_id]
  · obtain ⟨y, hy, rfl⟩ := List.mem_map.mp hp
    rcases List.mem_cons.mp hy with e | hy
    · rw [e]; exact wS_32 w
    · obtain ⟨i, _, rfl⟩ := List.mem_map.mp hy
      have e4 : (iS i).cps.toList = numCs i := str_num i
      rw [e4]
      exact num_32 i
theorem Ar.len {w : Wd} {ns : List Int} (h : Ar w ns) : 1 ≤ ns.length ∧ ns.length ≤ 3 := by
  unfold Ar at h
  split at h <;> first | exact h.elim | (constructor <;> simp)
theorem sum_le {ys : List Str} {k : Nat} (h : ∀ y ∈ ys, y.length ≤ k) : (ys.map (·.length)).sum ≤ ys.length * k := by
  induction ys with
  | nil => simp
  | cons y ys ih =>
    have h1 := h y List.mem_cons_self
    have h2 := ih fun y hy => h y (List.mem_cons_of_mem _ hy)
    rw [List.map_cons, List.sum_cons, List.length_cons, Nat.succ_mul]
    omega
theorem words_le {w : Wd} {ns : List Int} (h : Ar w ns) : ∀ y ∈ wS w :: ns.map iS, y.length ≤ 41 := fun y hy => by
  rcases List.mem_cons.mp hy with e | hy
  · rw [e]; exact Nat.le_trans (wS_len w) (by decide)
  · obtain ⟨i, hi, rfl⟩ := List.mem_map.mp hy
    exact iS_len (h.all i hi)
theorem words_sum {w : Wd} {ns : List Int} (h : Ar w ns) : ((wS w :: ns.map iS).map (·.length)).sum + (wS w :: ns.map iS).length * (Str.ofString " ").length ≤ 1000 := by
  have h1 := sum_le (words_le h)
  have h2 := h.len
  have h3 : (Str.ofString " ").length = 1 := by decide +kernel
  rw [h3]
  have h4 : (wS w :: ns.map iS).length ≤ 4 := by rw [List.length_cons, List.length_map]; omega
  have h5 : (wS w :: ns.map iS).length * 41 ≤ 4 * 41 := Nat.mul_le_mul_right _ h4
  omega
/-! ### the objects -/
def fsOf : Wd → List Int → List (Str × V)
  | .take, [h, c] => putF "cell" (.int c) (putF "where" (.int h) [])
  | .mean, [h, c] => putF "cell" (.int c) (putF "where" (.int h) [])
  | .give, [h, c] => putF "cell" (.int c) (putF "where" (.int h) [])
  | .sum, [h, a, b] => putF "high" (.int b) (putF "low" (.int a) (putF "where" (.int h) []))
  | .add, [h, c, v] => putF "amount" (.int v) (putF "cell" (.int c) (putF "where" (.int h) []))
  | .plus, [v] => putF "amount" (.int v) []
  | .need, [v] => putF "amount" (.int v) []
  | _, _ => []
def StO (C : Wd → Addr) (H : Hp) (w : Wd) (ns : List Int) (v : V) : Prop := ∃ a dx, v = .ref a ∧ H a = some (.ins (C w) dx (fsOf w ns))
/-- the tuple that tells a step -/
def tSt (H : Hp) (w : Wd) (ns : List Int) (v : V) : Prop := ∃ a, v = .ref a ∧ H a = some (.tup (.str (wS w) :: ns.map V.int))
theorem tSt.keep {H H' : Hp} {w : Wd} {ns : List Int} {v : V} (e : Same H H') (h : tSt H w ns v) : tSt H' w ns v := by
  obtain ⟨a, rfl, q⟩ := h
  exact ⟨a, rfl, e _ _ q⟩
def houseV : Wd → List Int → V
  | .plus, _ => .non
  | .need, _ => .non
  | _, h :: _ => .int h
  | _, [] => .non
def lockO : Wd → List Int → Option Lk
  | .take, [_, c] => some (.read, c, c)
  | .mean, [_, c] => some (.mean, c, c)
  | .give, [_, c] => some (.change, c, c)
  | .sum, [_, a, b] => some (.read, a, b)
  | .add, [_, c, _] => some (.change, c, c)
  | _, _ => none
def orl (K : PySem.W.Frag) (H : Hp) : Option Lk → V → Prop
  | none, v => v = .non
  | some k, v => ∃ a, v = .ref a ∧ H a = some (.tup [.str (kdS k.1), .int k.2.1, .int k.2.2])
end St

set_option maxHeartbeats 1000000
namespace L2
open PySem PySem.Spec PyProof.Rows
section
variable {X : Cx} {CX : CXT} {E : XK} {k : Nat} {C f : Addr} {fd : FuncData} {ps : List Str} {sp : Sp} {m : Str} {o e : Expr} {es : List Expr} {t : TA} {ty : TE} {pos apos cpos p : Pos} {mc : Value}
/-- what the top must say of a class whose function is called by the class's name -/
structure ClsFn (K : PySem.W.Frag) (C : Addr) (m : Str) (f : Addr) : Prop where
  ga : PySem.W.specialIn K (.ref C) "__getattribute__" = some (some (.builtin "type.__getattribute__"))
  rd : PySem.W.readsIn K C (.type "type") = true
  fc : PySem.W.findCls K (.ref C) (.type "type") m = some (.val (.ref f))
  hi : PySem.W.handedIn (.ref f) = true
  kp : PySem.W.keepIn K (.ref f) = true
/-- C.m(e, ..) -/
theorem pe_clsm {pl : Sem Bool} (ho : PE X o (tC (.ref C))) (c : ClsFn X.K C m f) (F : FnOk X.prog X.w X.K X.mg X.base CX k f fd ps sp) (hr : Room k X.A) (hb : Binds X.K fd ps []) (hx : Passes CX X E) (ha : PA X (e :: es) t)
    (hst : starEach (e :: es) X.env = (false, eval e X.env) :: starEach es X.env := by rfl) (hpl : (backTo pos (starEach es X.env)).any (·.1) = false := by rfl)
    (ht : eval (.Call (.Attribute o m apos) (e :: es) [] pos) X.env = (do
      let ov ← eval o X.env
      standAt apos.atName
      let (f, first) ← holding [ov] (getMethod ov m pl)
      callWith pos f first (backTo pos (starEach (e :: es) X.env)) (backToKw pos (keywordEach [] X.env))) := by rfl) :
    PE X (.Call (.Attribute o m apos) (e :: es) [] pos) (tCall sp [] E t) := by
  intro pins s σ H Q I h
  refine PySem.W.methodCall_KW (pl := pl) (thn (ho pins s σ H (fun x H1 => x = .ref C ∧ t σ H1 fun vs H2 => sp (vs ++ []) H2 Q E) I ⟨rfl, h⟩) fun u s1 ⟨x, H1, I1, rx, ex, q⟩ => ?_) ht
  subst ex
  obtain rfl : u = Value.ref C := rx
  refine PySem.W.method_cls I1.kIn c.ga (PySem.W.cls_value I1.kIn c.rd c.fc c.hi ?_)
  have I2 : Inv X pins σ H1 { s1 with toks := s1.toks + 1 } := I1.tok _
  refine PySem.W.callWith_K (first := []) (h₀ := X.base) I.ok.mod.kin c.kp (thn (ha pos pins _ σ H1 _ I2 q) fun us s2 ⟨vs, H2, I3, r, q2⟩ => ⟨I3.kIn, ?_⟩) hst hpl
  exact run_fn (us := us) (vs := vs) F hr hb .nil hx I3 r q2
/-- the module's dict of texts: d.get(k), there -/
theorem pe_tabS {a : Addr} {D : List (Str × KTD.Dat)} (ho : PE X o (tC (.ref a))) (he : PE X e ty) (mm : M1 X o "get" apos e cpos) (ht : TabK X.K a D) :
    PE X (.Call (.Attribute o "get" apos) [e] [] cpos) (fun σ H Q => ty σ H fun y H1 => ∃ k z, y = .str k ∧ KTD.datumAt k D = some (.flat (.str z)) ∧ Q (.str z) H1) := by
  intro pins s σ H Q I h
  refine wpAny_Call_method mm.base mm.few mm.line PySem.F.plainAttrs_dict PySem.F.slot_dict_get PySem.F.type_dict_get (thn (ho pins s σ H (fun x H1 => x = .ref a ∧ ty σ H1 fun y H1 => ∃ k z, y = .str k ∧ KTD.datumAt k D = some (.flat (.str z)) ∧ Q (.str z) H1) I ⟨rfl, h⟩) fun u s1 ⟨x, H1, I1, rx, ex, q1⟩ => ?_)
  subst ex
  obtain rfl : u = Value.ref a := rx
  have T1 : KTD.Here s1.heap s1.heap a D := ⟨ht.at I1.kIn, fun _ _ e => e⟩
  refine ⟨T1.typeIs, T1.noDict, ?_⟩
  rw [mm.trees]
  refine Calls.callWith_builtin rfl (Calls.evalArgs_plain (Calls.spliced_cons (thn (he pins s1 σ H1 _ I1 q1) fun iv s2 ⟨y, H2, I2, ry, k, z, ek, hd, q2⟩ => Calls.spliced_nil ?_)))
  subst ek
  obtain ⟨tk, rfl⟩ := ry
  refine KTD.get1_textL (h₀ := s2.heap) ⟨ht.at I2.kIn, fun _ _ e => e⟩ ?_ (each_at hd (KTD.opened_str fun t' => ⟨.str z, H2, I2.tok _, ⟨_, rfl⟩, q2⟩))
  rw [← KTD.isSome_datumAt, hd]
  rfl
/-- text.lstrip(chars) -/
theorem mt_lstripC : MtR X "str.lstrip" (fun x vs H Q => ∃ z y, x = .str z ∧ vs = [.str y] ∧ z.length ≤ sizeLine ∧ Q (.str (Txt.lstripChars z y)) H) := by
  intro pins s σ H x xs v us Q I rx r h
  obtain ⟨z, y, rfl, rfl, hz, q⟩ := h
  obtain ⟨t, rfl⟩ := rx
  obtain ⟨u, rfl, ⟨t1, rfl⟩⟩ := vals1 r
  exact SC.lstripChars (fun t' k => ⟨.str _, H, I.tok _, ⟨_, rfl⟩, q⟩) hz
/-- a call that raises nothing, in a try -/
theorem pex_of {te : TE} (h : PE X.nox e te) : PEX X e (fun σ H Q _ => te σ H Q) := by
  intro pins s σ H Q E I q
  exact nox (h pins s σ H _ (I.wish _) q) fun v s1 ⟨x, H1, I1, r, q1⟩ => ⟨x, H1, I1.unwish, r, q1⟩
end
end L2

set_option maxHeartbeats 1000000
/-! promises of the steps' functions -/
namespace St
open PySem L2 Lo Km PySem.NumText
structure TxW (K : PySem.W.Frag) (CW : Wd → Addr) : Prop where
  cl : ∀ w, Cls K (CW w)
  nW : ∀ w, NoAttr K (CW w) "where"
  nC : ∀ w, NoAttr K (CW w) "cell"
  nL : ∀ w, NoAttr K (CW w) "low"
  nH : ∀ w, NoAttr K (CW w) "high"
  nA : ∀ w, NoAttr K (CW w) "amount"
/-- words at one cell -/
def isC : Wd → Bool
  | .take => true | .mean => true | .give => true | _ => false
theorem lk_hit {f : Str} {v : V} {fs : List (Str × V)} : (putF f v fs).lookup f = some v := by rw [lookup_putF, if_pos rfl]
theorem lk_miss {f g : Str} {v : V} {fs : List (Str × V)} (h : ¬ g = f) : (putF f v fs).lookup g = fs.lookup g := by rw [lookup_putF, if_neg h]
section
variable (CW : Wd → Addr)
def spWInit (w : Wd) : Sp := fun vs H Q _ => ∃ a dx ns, vs = .ref a :: (ns : List Int).map V.int ∧ Ar w ns ∧ H a = some (.ins (CW w) dx []) ∧ ∀ H', H' a = some (.ins (CW w) dx (fsOf w ns)) → Kp a H H' → Q .non H'
/-- CellStep.__init__, whatever the class -/
def spCInit : Sp := fun vs H Q _ => ∃ a dx w h c, vs = [.ref a, .int h, .int c] ∧ H a = some (.ins (CW w) dx []) ∧ ∀ H', H' a = some (.ins (CW w) dx (putF "cell" (.int c) (putF "where" (.int h) []))) → Kp a H H' → Q .non H'
def spHouse (w : Wd) : Sp := fun vs H Q _ => ∃ v ns, vs = [v] ∧ Ar w ns ∧ StO CW H w ns v ∧ Q (houseV w ns) H
def spSLock (K : PySem.W.Frag) (w : Wd) : Sp := fun vs H Q _ => ∃ v ns, vs = [v] ∧ Ar w ns ∧ StO CW H w ns v ∧ ∀ u H', Same H H' → orl K H' (lockO w ns) u → Q u H'
def spSure (w : Wd) : Sp := fun vs H Q _ => ∃ v, vs = [v] ∧ Q (.bl (decide (w = .give))) H
def spSpelled (w : Wd) : Sp := fun vs H Q _ => ∃ v ns, vs = [v] ∧ Ar w ns ∧ StO CW H w ns v ∧ ∀ H', Same H H' → Q (.str (txt w ns)) H'
end
def spSpell : Sp := fun vs H Q _ => ∃ w q ns, vs = [.str (wS w), .ref q] ∧ H q = some (.lst ((ns : List Int).map V.int)) ∧ Ar w ns ∧ ∀ H', Same H H' → Q (.str (txt w ns)) H'
theorem log_v {i : Int} (h : inV i) : i.natAbs.log2 < 1920 := by
  by_cases h0 : i.natAbs = 0
  · rw [h0]; decide
  · exact (Nat.log2_lt h0).mpr (Nat.lt_trans h (by decide +kernel))
/-- the numbers' shapes, one by one -/
theorem Ar.c {w : Wd} {ns : List Int} (hw : isC w = true) (h : Ar w ns) : ∃ a b, ns = [a, b] ∧ inN a ∧ inN b ∧ fsOf w ns = putF "cell" (.int b) (putF "where" (.int a) []) := by
  cases w <;> first | cases hw | skip
  all_goals
    match ns, h with
    | [a, b], h => exact ⟨a, b, rfl, h.1, h.2, rfl⟩
theorem Ar.s {ns : List Int} (h : Ar .sum ns) : ∃ a b c, ns = [a, b, c] ∧ inN a ∧ inN b ∧ inN c ∧ b ≤ c := by
  match ns, h with
  | [a, b, c], h => exact ⟨a, b, c, rfl, h⟩
theorem Ar.a {ns : List Int} (h : Ar .add ns) : ∃ a b c, ns = [a, b, c] ∧ inN a ∧ inN b ∧ inV c := by
  match ns, h with
  | [a, b, c], h => exact ⟨a, b, c, rfl, h⟩
theorem Ar.p {ns : List Int} (h : Ar .plus ns) : ∃ a, ns = [a] ∧ inV a := by
  match ns, h with
  | [a], h => exact ⟨a, rfl, h⟩
theorem Ar.n {ns : List Int} (h : Ar .need ns) : ∃ a, ns = [a] ∧ inV a := by
  match ns, h with
  | [a], h => exact ⟨a, rfl, h⟩
end St

set_option maxHeartbeats 1000000
/-! more of steps -/
namespace St
open PySem PySem.Spec PyProof.Rows L2 Lo Km PySem.NumText
section
variable {K : PySem.W.Frag} {H : Hp} {a : Addr} {bl : L2.St} {te : TE} {Fin : List V → Hp → Prop}
/-- [f(i) for i in a list of ints] -/
theorem lc_ints {g : Int → V} {ns : List Int} (hq : SqL K H a (ns.map V.int)) (hn : ns.length ≤ sizeLine)
    (he : ∀ i H1 (Q : VK), i ∈ ns → Same H H1 → (∀ H2, Same H1 H2 → Q (g i) H2) → te (some (.int i) :: bl) H1 Q)
    (hd : ∀ H1, Same H H1 → Fin (ns.map g) H1) :
    ∃ (W : Nat → List V → Hp → Prop) (n : Nat), W 0 [] H ∧ n ≤ sizeLine ∧ ∀ i ys H, W i ys H → ((Itl K a).stop i H ∧ Fin ys H) ∨
      ((Itl K a).go i H ∧ i < n ∧ ∀ x H', (Itl K a).yld i H x H' → tAll (some x :: bl) H' fun c H2 => if c = true then te (some x :: bl) H2 fun y H3 => W (i + 1) (ys ++ [y]) H3 else W (i + 1) ys H2) := by
  refine lc_list (tt := tAll) (xs := ns.map V.int) (fun i ys H1 => Same H H1 ∧ ys = (ns.take i).map g) ⟨Same.refl _, rfl⟩ (by rw [List.length_map]; exact hn) (fun i ys H1 _ z => z.1.seq hq) ?_ ?_
  · rintro i x ys H1 hx ⟨s1, rfl⟩
    rw [List.getElem?_map] at hx
    obtain ⟨n, hn, rfl⟩ := Option.map_eq_some_iff.mp hx
    refine tAllT (he n H1 _ (List.mem_of_getElem? hn) s1 fun H2 s2 => ⟨s1.trans s2, ?_⟩)
    rw [List.take_add_one, hn]
    simp
  · rintro ys H1 ⟨s1, rfl⟩
    rw [List.length_map, List.take_length]
    exact hd H1 s1
/-- the same over a tuple of ints -/
theorem lc_intsT {g : Int → V} {ns : List Int} (hq : H a = some (.tup (ns.map V.int))) (hn : ns.length ≤ sizeLine)
    (he : ∀ i H1 (Q : VK), i ∈ ns → Same H H1 → (∀ H2, Same H1 H2 → Q (g i) H2) → te (some (.int i) :: bl) H1 Q)
    (hd : ∀ H1, Same H H1 → Fin (ns.map g) H1) :
    ∃ (W : Nat → List V → Hp → Prop) (n : Nat), W 0 [] H ∧ n ≤ sizeLine ∧ ∀ i ys H, W i ys H → ((Itt K a).stop i H ∧ Fin ys H) ∨
      ((Itt K a).go i H ∧ i < n ∧ ∀ x H', (Itt K a).yld i H x H' → tAll (some x :: bl) H' fun c H2 => if c = true then te (some x :: bl) H2 fun y H3 => W (i + 1) (ys ++ [y]) H3 else W (i + 1) ys H2) := by
  refine lc_tup (tt := tAll) (xs := ns.map V.int) (fun i ys H1 => Same H H1 ∧ ys = (ns.take i).map g) ⟨Same.refl _, rfl⟩ (by rw [List.length_map]; exact hn) (fun i ys H1 _ z => SqT.of (z.1 _ _ hq)) ?_ ?_
  · rintro i x ys H1 hx ⟨s1, rfl⟩
    rw [List.getElem?_map] at hx
    obtain ⟨n, hn, rfl⟩ := Option.map_eq_some_iff.mp hx
    refine tAllT (he n H1 _ (List.mem_of_getElem? hn) s1 fun H2 s2 => ⟨s1.trans s2, ?_⟩)
    rw [List.take_add_one, hn]
    simp
  · rintro ys H1 ⟨s1, rfl⟩
    rw [List.length_map, List.take_length]
    exact hd H1 s1
end
theorem pInts (K : PySem.W.Frag) (H : Hp) : ∀ ns : List Int, Paired (cInt.rp K H) ns (ns.map V.int)
  | [] => .nil
  | n :: ns => .cons rfl (pInts K H ns)
theorem at0 {x : V} {xs : List V} : atI (x :: xs) 0 = some x := atI_nat (j := 0) rfl
theorem at1 {x y : V} {xs : List V} : atI (x :: y :: xs) 1 = some y := atI_nat (j := 1) rfl
theorem at2 {x y z : V} {xs : List V} : atI (x :: y :: z :: xs) 2 = some z := atI_nat (j := 2) rfl
/-! ### words -/
theorem wS_inj {a b : Wd} (h : wS a = wS b) : a = b := by
  cases a <;> cases b <;> first | rfl | exact absurd h (by decide +kernel)
theorem w_hit {a b : Wd} (c : decide (V.str (wS a) = V.str (wS b)) = true) : a = b := wS_inj (V.str.inj (of_decide_eq_true c))
theorem w_miss {a b : Wd} (c : ¬ decide (V.str (wS a) = V.str (wS b)) = true) : a ≠ b := fun e => c (by rw [e]; exact decide_eq_true rfl)
theorem w_need {a : Wd} (h1 : a ≠ .take) (h2 : a ≠ .mean) (h3 : a ≠ .sum) (h4 : a ≠ .give) (h5 : a ≠ .add) (h6 : a ≠ .plus) : a = .need := by
  cases a <;> first | rfl | contradiction
def shp : Wd → Str
  | .take => "HC" | .mean => "HC" | .sum => "HAB" | .give => "HC" | .add => "HCV" | .plus => "V" | .need => "V"
def shapesD : List (Str × PyProof.Rows.KTD.Dat) := [("take", .flat (.str "HC")), ("mean", .flat (.str "HC")), ("sum", .flat (.str "HAB")), ("give", .flat (.str "HC")), ("add", .flat (.str "HCV")), ("plus", .flat (.str "V")), ("need", .flat (.str "V"))]
theorem shape_at (w : Wd) : PyProof.Rows.KTD.datumAt (wS w) shapesD = some (.flat (.str (shp w))) := by
  cases w <;> kernel_rfl
theorem shp_len {w : Wd} {ns : List Int} (h : Ar w ns) : (shp w).length = ns.length := by
  unfold Ar at h
  split at h <;> first | exact h.elim | kernel_rfl
theorem shp_line (w : Wd) : (shp w).length ≤ sizeLine := by cases w <;> decide +kernel
theorem neg_no {i : Int} {p : Prop} (h : inN i) : i < 0 → p := fun z => absurd z (by unfold inN at h; omega)
theorem shp_at {w : Wd} {ns : List Int} {k : Nat} {i : Int} (h : Ar w ns) (hi : ns[k]? = some i) : ∃ c, (shp w).cps.toList[k]? = some c ∧ (i < 0 → c = 86) := by
  unfold Ar at h
  split at h
  · rcases k with _ | _ | k
    · cases hi; exact ⟨72, by decide +kernel, neg_no h.1⟩
    · cases hi; exact ⟨67, by decide +kernel, neg_no h.2⟩
    · simp at hi
  · rcases k with _ | _ | k
    · cases hi; exact ⟨72, by decide +kernel, neg_no h.1⟩
    · cases hi; exact ⟨67, by decide +kernel, neg_no h.2⟩
    · simp at hi
  · rcases k with _ | _ | k
    · cases hi; exact ⟨72, by decide +kernel, neg_no h.1⟩
    · cases hi; exact ⟨67, by decide +kernel, neg_no h.2⟩
    · simp at hi
  · rcases k with _ | _ | _ | k
    · cases hi; exact ⟨72, by decide +kernel, neg_no h.1⟩
    · cases hi; exact ⟨65, by decide +kernel, neg_no h.2.1⟩
    · cases hi; exact ⟨66, by decide +kernel, neg_no h.2.2.1⟩
    · simp at hi
  · rcases k with _ | _ | _ | k
    · cases hi; exact ⟨72, by decide +kernel, neg_no h.1⟩
    · cases hi; exact ⟨67, by decide +kernel, neg_no h.2.1⟩
    · cases hi; exact ⟨86, by decide +kernel, fun _ => rfl⟩
    · simp at hi
  · rcases k with _ | k
    · cases hi; exact ⟨86, by decide +kernel, fun _ => rfl⟩
    · simp at hi
  · rcases k with _ | k
    · cases hi; exact ⟨86, by decide +kernel, fun _ => rfl⟩
    · simp at hi
  · exact h.elim
/-! ### a number's text -/
theorem iS_cs (i : Int) : (iS i).cps.toList = numCs i := str_num i
theorem num_in {i : Int} {c : Nat} (h : c ∈ numCs i) : c = 45 ∨ (48 ≤ c ∧ c ≤ 57) := by
  have hd : ∀ m, c ∈ digs m → 48 ≤ c ∧ c ≤ 57 := fun m hm => digs_all m c hm
  unfold numCs at h
  split at h
  · rcases List.mem_cons.mp h with e | e
    · exact .inl e
    · exact .inr (hd _ e)
  · exact .inr (hd _ h)
theorem lstrip_len {i : Int} (h : inV i) : (Txt.lstripChars (iS i) (Str.ofString "-")).length ≤ 40 := by
  have e : (Str.ofString "-") = ⟨#[45]⟩ := by decide +kernel
  have hd := digs_len (k := 40) (by decide) h
  have hs : (iS i).cps.size = (numCs i).length := by rw [← iS_cs]; simp
  rw [e]
  unfold Txt.lstripChars
  rw [stripBy_eq]
  generalize hL : stripLo ((⟨#[45]⟩ : Str).cps.contains) true (iS i) = lo
  show ((iS i).cps.extract lo (iS i).length).size ≤ 40
  rw [Array.size_extract]
  by_cases hi : i < 0
  · have h1 : 1 ≤ lo := by
      rw [← hL]
      show 1 ≤ ((iS i).cps.toList.takeWhile (fun c => (⟨#[45]⟩ : Str).cps.contains c)).length
      rw [iS_cs]
      unfold numCs
      rw [if_pos hi, List.takeWhile_cons, if_pos (by decide +kernel)]
      simp
    have h2 : (numCs i).length ≤ 41 := by
      unfold numCs
      rw [if_pos hi, List.length_cons]
      omega
    omega
  · have h2 : (numCs i).length ≤ 40 := by
      unfold numCs
      rw [if_neg hi]
      exact hd
    omega
theorem iS_line {i : Int} (h : inV i) : (iS i).length ≤ 100000 := Nat.le_trans (iS_len h) (by decide)
theorem joinC_len (c : Nat) : ∀ ls : List (List Nat), (joinC c ls).length ≤ (ls.map (·.length)).sum + ls.length
  | [] => Nat.zero_le _
  | [x] => by simp [joinC]
  | x :: y :: r => by
    have h := joinC_len c (y :: r)
    show (x ++ c :: joinC c (y :: r)).length ≤ _
    rw [List.length_append, List.length_cons, List.map_cons, List.sum_cons, List.length_cons (a := x)]
    omega
theorem txt_len {wd : Wd} {ns : List Int} (h : Ar wd ns) : (txt wd ns).length ≤ 1000000 := by
  have e2 : (txt wd ns).cps.toList = joinC 32 ((wS wd :: ns.map iS).map fun y => y.cps.toList) := by
    unfold txt
    rw [sep_eq]
    exact join_one_cs 32 _
  have e3 : (txt wd ns).length = (txt wd ns).cps.toList.length := by simp [Str.length]
  have h1 := joinC_len 32 ((wS wd :: ns.map iS).map fun y => y.cps.toList)
  have h2 := words_sum h
  have e4 : ((wS wd :: ns.map iS).map fun y => y.cps.toList).map (·.length) = (wS wd :: ns.map iS).map (·.length) := by
    rw [List.map_map]
    refine List.map_congr_left fun y _ => ?_
    simp [Str.length]
  have e5 : (Str.ofString " ").length = 1 := by decide +kernel
  rw [e4, List.length_map] at h1
  rw [e5, Nat.mul_one] at h2
  rw [e3, e2]
  omega
/-! ### for the law -/
theorem cut_one (x : V) (xs : List V) : cutV (x :: xs) (some 1) none = xs := by
  unfold cutV
  rw [HT.sIx_none, show (some (1 : Int)) = some ((1 : Nat) : Int) from rfl, HT.sIx_nat, List.length_cons, Nat.min_eq_left (by omega)]
  simp
theorem cut_one_no (x : V) (xs : List V) : ¬ (HT.sIx (x :: xs).length 0 (some (1 : Int)) = 0 ∧ HT.sIx (x :: xs).length (x :: xs).length none = (x :: xs).length) := by
  rintro ⟨h, _⟩
  rw [show (some (1 : Int)) = some ((1 : Nat) : Int) from rfl, HT.sIx_nat, List.length_cons] at h
  omega
def kdW : Wd → Kd
  | .take => .read | .mean => .mean | .give => .change | .add => .change | .sum => .read | .plus => .read | .need => .read
theorem Ar.cell {w : Wd} {ns : List Int} (h1 : w ≠ .plus) (h2 : w ≠ .need) (h3 : w ≠ .sum) (h : Ar w ns) : ∃ x c r, ns = x :: c :: r ∧ lockO w ns = some (kdW w, c, c) := by
  unfold Ar at h
  split at h <;> first | contradiction | exact h.elim | exact ⟨_, _, _, rfl, rfl⟩
theorem Ar.home {w : Wd} {ns : List Int} (h1 : w ≠ .plus) (h2 : w ≠ .need) (h : Ar w ns) : ∃ x r, ns = x :: r ∧ houseV w ns = .int x := by
  unfold Ar at h
  split at h <;> first | contradiction | exact h.elim | exact ⟨_, _, rfl, rfl⟩
theorem Ar.homeless {w : Wd} {ns : List Int} (h1 : w = .plus ∨ w = .need) : houseV w ns = .non := by
  rcases h1 with rfl | rfl <;> rfl
theorem Ar.lockless {w : Wd} {ns : List Int} (h1 : w = .plus ∨ w = .need) : lockO w ns = none := by
  rcases h1 with rfl | rfl <;> rfl
theorem w_give (w : Wd) : decide (V.str (wS w) = V.str (wS .give)) = decide (w = .give) := by
  cases w <;> first | rfl | (refine (decide_eq_false fun h => ?_).trans (decide_eq_false (by intro h; cases h)).symm; exact absurd (w_hit (decide_eq_true h)) (by intro h; cases h))
theorem w_of (i : Int) (h0 : 0 ≤ i) (h7 : i < 7) : ∃ w, atI ([.str "take", .str "mean", .str "sum", .str "give", .str "add", .str "plus", .str "need"] : List V) i = some (.str (wS w)) := by
  have : i = 0 ∨ i = 1 ∨ i = 2 ∨ i = 3 ∨ i = 4 ∨ i = 5 ∨ i = 6 := by omega
  rcases this with rfl | rfl | rfl | rfl | rfl | rfl | rfl
  · exact ⟨.take, rfl⟩
  · exact ⟨.mean, rfl⟩
  · exact ⟨.sum, rfl⟩
  · exact ⟨.give, rfl⟩
  · exact ⟨.add, rfl⟩
  · exact ⟨.plus, rfl⟩
  · exact ⟨.need, rfl⟩
theorem fs_no {m : Str} (h1 : ¬ m = "where") (h2 : ¬ m = "cell") (h3 : ¬ m = "low") (h4 : ¬ m = "high") (h5 : ¬ m = "amount") (w : Wd) (ns : List Int) : (fsOf w ns).lookup m = none := by
  unfold fsOf
  split <;> simp only [lk_miss h1, lk_miss h2, lk_miss h3, lk_miss h4, lk_miss h5, List.lookup_nil]
def kindsD : List (Key × V) := [(Sum.inr "take", .str "read"), (Sum.inr "mean", .str "mean"), (Sum.inr "give", .str "change"), (Sum.inr "add", .str "change")]
theorem kinds_at {w : Wd} (h1 : w ≠ .plus) (h2 : w ≠ .need) (h3 : w ≠ .sum) : valV (mergeK [] kindsD) (Sum.inr (wS w)) = some (.str (kdS (kdW w))) := by
  cases w <;> first | contradiction | kernel_rfl
/-- the types of steps -/
structure TxY (K : PySem.W.Frag) (mg : Str → Option Value) (CW : Wd → Addr) (CB : Addr) : Prop where
  mgB : mg "Step" = some (.ref CB)
  ha : ∀ k, PySem.W.findIn K (.ref (CW k)) "__class__" = some (some (.builtin "object.__class__"))
  hn : PySem.W.specialIn K (.builtin "object.__class__") "__get__" = some (some (.builtin "getset_descriptor.__get__"))
  htk : PySem.W.takesIn K (.builtin "object.__class__") = some true
  hm : ∀ k, PySem.W.mroIn K (CW k) (.type "object") = some true
  isB : ∀ k, PySem.W.kitOne K (.ref (CW k)) (.ref CB) = some true
theorem TxY.ty {K : PySem.W.Frag} {mg : Str → Option Value} {CW : Wd → Addr} {CB : Addr} (I : TxY K mg CW CB) (T : TxW K CW) {H : Hp} {a dx : Addr} {k : Wd} {fs : List (Str × V)} (h : H a = some (.ins (CW k) dx fs)) : TyOf K H (.ref a) (.ref (CW k)) := TyOf.ins h (T.cl k) (I.ha k) I.hn I.htk (I.hm k)
/-! ### what is made -/
theorem mk_kp {H H' : Hp} {x dx : Addr} {o1 o2 : HO} (nx : H x = none) (nd : H dx = none) (k : Kp x (upd (upd H dx o1) x o2) H') : Same H H' := fun b o e => by
  have hx : b ≠ x := fun z => by rw [z, nx] at e; cases e
  have hd : b ≠ dx := fun z => by rw [z, nd] at e; cases e
  exact k b o hx (by rw [upd_ne hx, upd_ne hd]; exact e)
/-- what the makers of steps promise -/
structure WI (P : Program) (w : World) (K : PySem.W.Frag) (mg : Str → Option Value) (base : Heap) (CW : Wd → Addr) (wd : Wd) where
  fI : Addr
  dI : FuncData
  ps : List Str
  M : Mk K (CW wd) fI
  ok : FnOk P w K mg base CX0 2 fI dI ps (spWInit CW wd)
  b : Binds K dI ps []
  m : mg (wN wd) = some (.ref (CW wd))
section
variable (CW : Wd → Addr)
def spMade : Sp := fun vs H Q _ => ∃ wd q ns, vs = [.str (wS wd), .ref q] ∧ H q = some (.lst ((ns : List Int).map V.int)) ∧ Ar wd ns ∧ ∀ v H', Same H H' → StO CW H' wd ns v → Q v H'
def spMSum : Sp := fun vs H Q _ => ∃ x y z, vs = [.int x, .int y, .int z] ∧ Ar .sum [x, y, z] ∧ ∀ v H', Same H H' → StO CW H' .sum [x, y, z] v → Q v H'
def spRStep : Sp := fun vs H Q _ => ∃ wd ns, vs = [.str (txt wd ns)] ∧ Ar wd ns ∧ ∀ v H', Same H H' → StO CW H' wd ns v → Q v H'
def spLMade : Sp := fun vs H Q _ => ∃ wd ns v, vs = [v] ∧ tSt H wd ns v ∧ Ar wd ns ∧ ∀ u H', Same H H' → StO CW H' wd ns u → Q u H'
def spLRight : Sp := fun vs H Q _ => ∃ wd ns u v, vs = [u, v] ∧ StO CW H wd ns u ∧ tSt H wd ns v ∧ Ar wd ns ∧ ∀ H', Same H H' → Q (.bl true) H'
end
def spRNum : Sp := fun vs H Q _ => ∃ i c, vs = [.str (iS i), .str ⟨#[c]⟩] ∧ inV i ∧ (i < 0 → c = 86) ∧ ∀ H', Same H H' → Q (.int i) H'
def spMixed : Sp := fun vs H Q _ => ∃ c k, vs = [.int c, .int k] ∧ ∀ r, 0 ≤ r → r < 2147483647 → Q (.int r) H
def spNumber : Sp := fun vs H Q _ => ∃ c k, vs = [.int c, .int k] ∧ ∀ r, inN r → Q (.int r) H
def spEither : Sp := fun vs H Q _ => ∃ c k, vs = [.int c, .int k] ∧ ∀ r, inV r → Q (.int r) H
def spLStep : Sp := fun vs H Q _ => ∃ c, vs = [.int c] ∧ ∀ wd ns v H', Ar wd ns → Same H H' → tSt H' wd ns v → Q v H'
def spLText : Sp := fun vs H Q _ => ∃ wd ns v, vs = [v] ∧ tSt H wd ns v ∧ Ar wd ns ∧ ∀ H', Same H H' → Q (.str (txt wd ns)) H'
def spLLock (K : PySem.W.Frag) : Sp := fun vs H Q _ => ∃ wd ns u v, vs = [u, v] ∧ orl K H (lockO wd ns) u ∧ tSt H wd ns v ∧ Ar wd ns ∧ ∀ H', Same H H' → Q (.bl true) H'
end St

set_option maxHeartbeats 4000000
namespace K21
open PySem L2 Lo
def top (i : Nat) : Stmt := PySem.Challenge.pw_pactroom_k21_steps_there_and_back.main.body.getD i (.Pass ⟨0, 0, 0, 0⟩)
abbrev s__wall : Stmt := top 0
abbrev m_NoText_init : Stmt := inClass (top 4) 0
abbrev m_Lock_init : Stmt := inClass (top 6) 0
abbrev m_Lock_kind : Stmt := inClass (top 6) 1
abbrev m_Lock_beside : Stmt := inClass (top 6) 2
abbrev m_Lock_covers : Stmt := inClass (top 6) 3
abbrev m_Lock_told : Stmt := inClass (top 6) 4
abbrev m_Read_kind : Stmt := inClass (top 7) 0
abbrev m_Mean_kind : Stmt := inClass (top 8) 0
abbrev m_Change_kind : Stmt := inClass (top 9) 0
abbrev s_is_whole : Stmt := top 19
abbrev s_shown : Stmt := top 20
abbrev s_read_thing : Stmt := top 21
abbrev s_is_sign : Stmt := top 22
abbrev m_Reader_init : Stmt := inClass (top 23) 0
abbrev m_Reader_passes : Stmt := inClass (top 23) 1
abbrev m_Reader_read_any : Stmt := inClass (top 23) 2
abbrev m_Reader_read_parts : Stmt := inClass (top 23) 3
abbrev m_Reader_read_below : Stmt := inClass (top 23) 4
abbrev m_Reader_read_number : Stmt := inClass (top 23) 5
abbrev m_Reader_read_signs : Stmt := inClass (top 23) 6
abbrev m_Step_house : Stmt := inClass (top 27) 0
abbrev m_Step_lock : Stmt := inClass (top 27) 1
abbrev m_Step_step_done : Stmt := inClass (top 27) 2
abbrev m_Step_back : Stmt := inClass (top 27) 3
abbrev m_Step_sure : Stmt := inClass (top 27) 4
abbrev m_Step_spelled : Stmt := inClass (top 27) 5
abbrev m_CellStep_init : Stmt := inClass (top 28) 0
abbrev m_CellStep_house : Stmt := inClass (top 28) 1
abbrev m_TakeStep_lock : Stmt := inClass (top 29) 0
abbrev m_TakeStep_step_done : Stmt := inClass (top 29) 1
abbrev m_TakeStep_spelled : Stmt := inClass (top 29) 2
abbrev m_MeanStep_lock : Stmt := inClass (top 30) 0
abbrev m_MeanStep_step_done : Stmt := inClass (top 30) 1
abbrev m_MeanStep_spelled : Stmt := inClass (top 30) 2
abbrev m_SumStep_init : Stmt := inClass (top 31) 0
abbrev m_SumStep_house : Stmt := inClass (top 31) 1
abbrev m_SumStep_lock : Stmt := inClass (top 31) 2
abbrev m_SumStep_step_done : Stmt := inClass (top 31) 3
abbrev m_SumStep_spelled : Stmt := inClass (top 31) 4
abbrev m_GiveStep_lock : Stmt := inClass (top 32) 0
abbrev m_GiveStep_step_done : Stmt := inClass (top 32) 1
abbrev m_GiveStep_sure : Stmt := inClass (top 32) 2
abbrev m_GiveStep_spelled : Stmt := inClass (top 32) 3
abbrev m_AddStep_init : Stmt := inClass (top 33) 0
abbrev m_AddStep_lock : Stmt := inClass (top 33) 1
abbrev m_AddStep_step_done : Stmt := inClass (top 33) 2
abbrev m_AddStep_back : Stmt := inClass (top 33) 3
abbrev m_AddStep_spelled : Stmt := inClass (top 33) 4
abbrev m_PlusStep_init : Stmt := inClass (top 34) 0
abbrev m_PlusStep_step_done : Stmt := inClass (top 34) 1
abbrev m_PlusStep_spelled : Stmt := inClass (top 34) 2
abbrev m_NeedStep_init : Stmt := inClass (top 35) 0
abbrev m_NeedStep_step_done : Stmt := inClass (top 35) 1
abbrev m_NeedStep_spelled : Stmt := inClass (top 35) 2
abbrev s_spell : Stmt := top 36
abbrev s_read_step : Stmt := top 37
abbrev s_read_number : Stmt := top 38
abbrev s_made_step : Stmt := top 39
abbrev s_made_sum : Stmt := top 40
abbrev s__law_whole : Stmt := top 42
abbrev s__law_mixed : Stmt := top 43
abbrev s__law_number : Stmt := top 44
abbrev s__law_either : Stmt := top 45
abbrev s__law_step : Stmt := top 46
abbrev s__law_text : Stmt := top 47
abbrev s__law_made : Stmt := top 48
abbrev s__law_lock_right : Stmt := top 49
abbrev s__law_right : Stmt := top 50
abbrev s_law : Stmt := top 51
theorem sc_Lock_init : FnScope ["self", "first", "last"] ["self", "first", "last"] (defScope m_Lock_init) := ⟨rfl, rfl, rfl, by decide +kernel, rfl, by decide +kernel, by decide +kernel⟩
theorem sc_Lock_told : FnScope ["self"] ["self"] (defScope m_Lock_told) := ⟨rfl, rfl, rfl, by decide +kernel, rfl, by decide +kernel, by decide +kernel⟩
theorem sc_Read_kind : FnScope ["self"] ["self"] (defScope m_Read_kind) := ⟨rfl, rfl, rfl, by decide +kernel, rfl, by decide +kernel, by decide +kernel⟩
theorem sc_Mean_kind : FnScope ["self"] ["self"] (defScope m_Mean_kind) := ⟨rfl, rfl, rfl, by decide +kernel, rfl, by decide +kernel, by decide +kernel⟩
theorem sc_Change_kind : FnScope ["self"] ["self"] (defScope m_Change_kind) := ⟨rfl, rfl, rfl, by decide +kernel, rfl, by decide +kernel, by decide +kernel⟩
def cm_shown_0 : Scope := match defBody s_shown with
  | _ :: _ :: .Return (some (.BinOp (.BinOp _ _ (.Call _ [.ListComp _ _ sc _] _ _) _) _ _ _)) _ :: _ => sc
  | _ => default
def cm_read_thing_0 : Scope := match defBody s_read_thing with
  | _ :: .If (.UnaryOp _ (.Call _ [.ListComp _ _ sc _] _ _) _) _ _ _ :: _ => sc
  | _ => default
theorem sc_Step_house : FnScope ["self"] ["self"] (defScope m_Step_house) := ⟨rfl, rfl, rfl, by decide +kernel, rfl, by decide +kernel, by decide +kernel⟩
theorem sc_Step_lock : FnScope ["self"] ["self"] (defScope m_Step_lock) := ⟨rfl, rfl, rfl, by decide +kernel, rfl, by decide +kernel, by decide +kernel⟩
theorem sc_Step_sure : FnScope ["self"] ["self"] (defScope m_Step_sure) := ⟨rfl, rfl, rfl, by decide +kernel, rfl, by decide +kernel, by decide +kernel⟩
theorem sc_CellStep_init : FnScope ["self", "where", "cell"] ["self", "where", "cell"] (defScope m_CellStep_init) := ⟨rfl, rfl, rfl, by decide +kernel, rfl, by decide +kernel, by decide +kernel⟩
theorem sc_CellStep_house : FnScope ["self"] ["self"] (defScope m_CellStep_house) := ⟨rfl, rfl, rfl, by decide +kernel, rfl, by decide +kernel, by decide +kernel⟩
theorem sc_TakeStep_lock : FnScope ["self"] ["self"] (defScope m_TakeStep_lock) := ⟨rfl, rfl, rfl, by decide +kernel, rfl, by decide +kernel, by decide +kernel⟩
theorem sc_TakeStep_spelled : FnScope ["self"] ["self"] (defScope m_TakeStep_spelled) := ⟨rfl, rfl, rfl, by decide +kernel, rfl, by decide +kernel, by decide +kernel⟩
theorem sc_MeanStep_lock : FnScope ["self"] ["self"] (defScope m_MeanStep_lock) := ⟨rfl, rfl, rfl, by decide +kernel, rfl, by decide +kernel, by decide +kernel⟩
theorem sc_MeanStep_spelled : FnScope ["self"] ["self"] (defScope m_MeanStep_spelled) := ⟨rfl, rfl, rfl, by decide +kernel, rfl, by decide +kernel, by decide +kernel⟩
theorem sc_SumStep_init : FnScope ["self", "where", "low", "high"] ["self", "where", "low", "high"] (defScope m_SumStep_init) := ⟨rfl, rfl, rfl, by decide +kernel, rfl, by decide +kernel, by decide +kernel⟩
theorem sc_SumStep_house : FnScope ["self"] ["self"] (defScope m_SumStep_house) := ⟨rfl, rfl, rfl, by decide +kernel, rfl, by decide +kernel, by decide +kernel⟩
theorem sc_SumStep_lock : FnScope ["self"] ["self"] (defScope m_SumStep_lock) := ⟨rfl, rfl, rfl, by decide +kernel, rfl, by decide +kernel, by decide +kernel⟩
theorem sc_SumStep_spelled : FnScope ["self"] ["self"] (defScope m_SumStep_spelled) := ⟨rfl, rfl, rfl, by decide +kernel, rfl, by decide +kernel, by decide +kernel⟩
theorem sc_GiveStep_lock : FnScope ["self"] ["self"] (defScope m_GiveStep_lock) := ⟨rfl, rfl, rfl, by decide +kernel, rfl, by decide +kernel, by decide +kernel⟩
theorem sc_GiveStep_sure : FnScope ["self"] ["self"] (defScope m_GiveStep_sure) := ⟨rfl, rfl, rfl, by decide +kernel, rfl, by decide +kernel, by decide +kernel⟩
theorem sc_GiveStep_spelled : FnScope ["self"] ["self"] (defScope m_GiveStep_spelled) := ⟨rfl, rfl, rfl, by decide +kernel, rfl, by decide +kernel, by decide +kernel⟩
theorem sc_AddStep_init : FnScope ["self", "where", "cell", "amount"] ["self", "where", "cell", "amount"] (defScope m_AddStep_init) := ⟨rfl, rfl, rfl, by decide +kernel, rfl, by decide +kernel, by decide +kernel⟩
theorem sc_AddStep_lock : FnScope ["self"] ["self"] (defScope m_AddStep_lock) := ⟨rfl, rfl, rfl, by decide +kernel, rfl, by decide +kernel, by decide +kernel⟩
theorem sc_AddStep_spelled : FnScope ["self"] ["self"] (defScope m_AddStep_spelled) := ⟨rfl, rfl, rfl, by decide +kernel, rfl, by decide +kernel, by decide +kernel⟩
theorem sc_PlusStep_init : FnScope ["self", "amount"] ["self", "amount"] (defScope m_PlusStep_init) := ⟨rfl, rfl, rfl, by decide +kernel, rfl, by decide +kernel, by decide +kernel⟩
theorem sc_PlusStep_spelled : FnScope ["self"] ["self"] (defScope m_PlusStep_spelled) := ⟨rfl, rfl, rfl, by decide +kernel, rfl, by decide +kernel, by decide +kernel⟩
theorem sc_NeedStep_init : FnScope ["self", "amount"] ["self", "amount"] (defScope m_NeedStep_init) := ⟨rfl, rfl, rfl, by decide +kernel, rfl, by decide +kernel, by decide +kernel⟩
theorem sc_NeedStep_spelled : FnScope ["self"] ["self"] (defScope m_NeedStep_spelled) := ⟨rfl, rfl, rfl, by decide +kernel, rfl, by decide +kernel, by decide +kernel⟩
theorem sc_spell : FnScope ["word", "numbers"] ["word", "numbers"] (defScope s_spell) := ⟨rfl, rfl, rfl, by decide +kernel, rfl, by decide +kernel, by decide +kernel⟩
def cm_spell_0 : Scope := match defBody s_spell with
  | .Return (some (.Call _ [(.BinOp _ _ (.ListComp _ _ sc _) _)] _ _)) _ :: _ => sc
  | _ => default
theorem sb_spell_0 : BlkScope ["word", "numbers"] (defScope s_spell) cm_spell_0 "number" ["number"] [] := ⟨by decide +kernel, rfl, by decide +kernel, rfl, by decide +kernel, by decide +kernel, rfl, rfl, fun j h => absurd h (Nat.not_lt_zero j)⟩
theorem sc_read_step : FnScope ["text", "words", "shape"] ["text"] (defScope s_read_step) := ⟨rfl, rfl, rfl, by decide +kernel, rfl, by decide +kernel, by decide +kernel⟩
def cm_read_step_0 : Scope := match defBody s_read_step with
  | _ :: _ :: _ :: .Return (some (.Call _ [_, .ListComp _ _ sc _] _ _)) _ :: _ => sc
  | _ => default
theorem sb_read_step_0 : BlkScope ["text", "words", "shape"] (defScope s_read_step) cm_read_step_0 "k" ["k", "words", "shape"] [1, 2] := ⟨by decide +kernel, rfl, by decide +kernel, rfl, by decide +kernel, by decide +kernel, rfl, rfl, by decide +kernel⟩
theorem sc_read_number : FnScope ["word", "letter", "number"] ["word", "letter"] (defScope s_read_number) := ⟨rfl, rfl, rfl, by decide +kernel, rfl, by decide +kernel, by decide +kernel⟩
theorem sc_made_step : FnScope ["word", "numbers"] ["word", "numbers"] (defScope s_made_step) := ⟨rfl, rfl, rfl, by decide +kernel, rfl, by decide +kernel, by decide +kernel⟩
theorem sc_made_sum : FnScope ["where", "low", "high"] ["where", "low", "high"] (defScope s_made_sum) := ⟨rfl, rfl, rfl, by decide +kernel, rfl, by decide +kernel, by decide +kernel⟩
theorem sc__law_whole : FnScope ["_law_found"] ["_law_found"] (defScope s__law_whole) := ⟨rfl, rfl, rfl, by decide +kernel, rfl, by decide +kernel, by decide +kernel⟩
theorem sc__law_mixed : FnScope ["_law_cell", "_law_k", "_law_number_here"] ["_law_cell", "_law_k"] (defScope s__law_mixed) := ⟨rfl, rfl, rfl, by decide +kernel, rfl, by decide +kernel, by decide +kernel⟩
theorem sc__law_number : FnScope ["_law_cell", "_law_k", "_law_number_here", "_law_j"] ["_law_cell", "_law_k"] (defScope s__law_number) := ⟨rfl, rfl, rfl, by decide +kernel, rfl, by decide +kernel, by decide +kernel⟩
theorem sc__law_either : FnScope ["_law_cell", "_law_k"] ["_law_cell", "_law_k"] (defScope s__law_either) := ⟨rfl, rfl, rfl, by decide +kernel, rfl, by decide +kernel, by decide +kernel⟩
theorem sc__law_step : FnScope ["_law_cell", "_law_word", "_law_where", "_law_one", "_law_other"] ["_law_cell"] (defScope s__law_step) := ⟨rfl, rfl, rfl, by decide +kernel, rfl, by decide +kernel, by decide +kernel⟩
theorem sc__law_text : FnScope ["_law_step_here"] ["_law_step_here"] (defScope s__law_text) := ⟨rfl, rfl, rfl, by decide +kernel, rfl, by decide +kernel, by decide +kernel⟩
def cm__law_text_0 : Scope := match defBody s__law_text with
  | .Return (some (.Call _ [(.BinOp _ _ (.ListComp _ _ sc _) _)] _ _)) _ :: _ => sc
  | _ => default
theorem sb__law_text_0 : BlkScope ["_law_step_here"] (defScope s__law_text) cm__law_text_0 "_law_number_here" ["_law_number_here"] [] := ⟨by decide +kernel, rfl, by decide +kernel, rfl, by decide +kernel, by decide +kernel, rfl, rfl, fun j h => absurd h (Nat.not_lt_zero j)⟩
theorem sc__law_made : FnScope ["_law_step_here"] ["_law_step_here"] (defScope s__law_made) := ⟨rfl, rfl, rfl, by decide +kernel, rfl, by decide +kernel, by decide +kernel⟩
theorem sc__law_lock_right : FnScope ["_law_found", "_law_step_here", "_law_kinds"] ["_law_found", "_law_step_here"] (defScope s__law_lock_right) := ⟨rfl, rfl, rfl, by decide +kernel, rfl, by decide +kernel, by decide +kernel⟩
theorem sc__law_right : FnScope ["_law_found", "_law_step_here"] ["_law_found", "_law_step_here"] (defScope s__law_right) := ⟨rfl, rfl, rfl, by decide +kernel, rfl, by decide +kernel, by decide +kernel⟩
theorem sc_law : FnScope ["_law_script", "_law_cells", "_law_cell", "_law_step_here"] ["_law_script"] (defScope s_law) := ⟨rfl, rfl, rfl, by decide +kernel, rfl, by decide +kernel, by decide +kernel⟩
end K21

set_option maxHeartbeats 4000000
namespace K21T
open PySem L2 Km PySem.NumText
abbrev sWhole : Stmt := K21.s_is_whole
abbrev sShown : Stmt := K21.s_shown
abbrev sRead : Stmt := K21.s_read_thing
abbrev sSign : Stmt := K21.s_is_sign
abbrev sInit : Stmt := K21.m_Reader_init
abbrev sPass : Stmt := K21.m_Reader_passes
abbrev sAny : Stmt := K21.m_Reader_read_any
abbrev sBelow : Stmt := K21.m_Reader_read_below
abbrev sNum : Stmt := K21.m_Reader_read_number
abbrev sSigns : Stmt := K21.m_Reader_read_signs
/-! ### a Reader's fields -/
theorem tp : ¬ (("text" : Str) = "place") := by decide +kernel
def rf (z : Str) (k : Int) : List (Str × V) := putF "place" (.int k) (putF "text" (.str z) [])
theorem rf_eq (z : Str) (k : Int) : rf z k = ([("text", V.str z), ("place", V.int k)] : List (Str × V)) := by
  show (if ("text" : Str) = "place" then [(("text" : Str), V.int k)] else (("text" : Str), V.str z) :: putF "place" (V.int k) []) = ([("text", V.str z), ("place", V.int k)] : List (Str × V))
  rw [if_neg tp]
  all_goals rfl
theorem rf_text (z : Str) (k : Int) : (rf z k).lookup ("text" : Str) = some (.str z) := by
  unfold rf
  rw [lookup_putF, if_neg tp, lookup_putF, if_pos rfl]
theorem rf_place (z : Str) (k : Int) : (rf z k).lookup ("place" : Str) = some (.int k) := by
  unfold rf
  rw [lookup_putF, if_pos rfl]
theorem rf_no (z : Str) (k : Int) {m : Str} (h1 : ¬ m = "place") (h2 : ¬ m = "text") : (rf z k).lookup m = none := by
  unfold rf
  rw [lookup_putF, if_neg h1, lookup_putF, if_neg h2]
  all_goals rfl
theorem rf_put (z : Str) (k j : Int) : putF "place" (.int j) (rf z k) = rf z j := by
  rw [rf_eq, rf_eq]
  show (if ("text" : Str) = "place" then _ else (("text" : Str), V.str z) :: (if ("place" : Str) = "place" then [(("place" : Str), V.int j)] else _)) = ([("text", V.str z), ("place", V.int j)] : List (Str × V))
  rw [if_neg tp, if_pos rfl]
theorem rf_len (z : Str) (k : Int) : (rf z k).length = 2 := by rw [rf_eq]; rfl
/-! ### what of the program's top is asked -/
structure Tx (K : PySem.W.Frag) (mg : Str → Option Value) (C : Addr) : Prop where
  cl : Cls K C
  nT : NoAttr K C "text"
  nP : NoAttr K C "place"
  mgC : mg "Reader" = some (.ref C)
  isi : mg "isinstance" = none
  int : mg "int" = none
  bool : mg "bool" = none
  str : mg "str" = none
  len : mg "len" = none
  ord : mg "ord" = none
  all : mg "all" = none
  range : mg "range" = none
  cFig : ∃ t, mg "MOST_FIGURES_things" = some (.int 400 t)
  cSig : ∃ t, mg "MOST_SIGNS" = some (.int 2000 t)
  cDeep : ∃ t, mg "MOST_DEEP" = some (.int 8 t)
  cLong : ∃ t, mg "LONGEST" = some (.int 100000 t)
  cBl : ∃ t, mg "BLANK" = some (.int 32 t)
  cPc : ∃ t, mg "PERCENT" = some (.int 37 t)
  cTi : ∃ t, mg "TILDE" = some (.int 126 t)
theorem gint {X : Cx} {x : Str} {i : Int} {pos : Pos} (hm : ∃ t, X.mg x = some (.int i t)) (hg : Gl X x) (hd : (x == ("__debug__" : Str)) = false := by decide) : PE X (.Name x pos) (tC (.int i)) := by
  obtain ⟨t, e⟩ := hm
  exact pe_glob hg e ⟨t, rfl⟩ hd
section
variable {K : PySem.W.Frag}
theorem kit_ii : PySem.W.kitOne K (.type "int") (.type "int") = some true := rfl
theorem kit_ss : PySem.W.kitOne K (.type "str") (.type "str") = some true := rfl
theorem kit_bb : PySem.W.kitOne K (.type "bool") (.type "bool") = some true := rfl
theorem kit_ib : PySem.W.kitOne K (.type "int") (.type "bool") = some false := by kernel_rfl
theorem kit_si : PySem.W.kitOne K (.type "str") (.type "int") = some false := by kernel_rfl
theorem kit_bi : PySem.W.kitOne K (.type "bool") (.type "int") = some true := by kernel_rfl
theorem kit_ni : PySem.W.kitOne K (.type "NoneType") (.type "int") = some false := by kernel_rfl
theorem kit_ti : PySem.W.kitOne K (.type "tuple") (.type "int") = some false := by kernel_rfl
end
section
variable {P : Program} {w : World} {K : PySem.W.Frag} {mg : Str → Option Value} {base : Heap} {f C : Addr} {fd : FuncData}
/-! ### is_whole -/
def wholeV (H : Hp) : V → Option Bool
  | .int _ => some true
  | .str _ => some false
  | .bl _ => some false
  | .non => some false
  | .ref a => match H a with
    | some (.tup _) => some false
    | _ => none
  | _ => none
def spWhole : Sp := fun vs H Q _ => ∃ x b, vs = [x] ∧ wholeV H x = some b ∧ Q (.bl b) H
theorem scWhole : FnScope ["thing"] ["thing"] (defScope sWhole) := ⟨rfl, rfl, rfl, by decide +kernel, rfl, by decide +kernel, by decide +kernel⟩
theorem ok_whole (F : Fun K "is_whole" "is_whole" sWhole f fd) (T : Tx K mg C) : FnOk P w K mg base CX0 1 f fd ["thing"] spWhole := by
  refine F.ok scWhole (fun vs H Q E h => ?_) (fun cdv A outer s H vs Q E hr h => ?_)
  · obtain ⟨x, b, rfl, _⟩ := h
    rfl
  obtain ⟨x, b, rfl, hb, q⟩ := h
  refine ⟨_, pss_one (ps_ret (pe_and (pe_callB call_isinst rfl T.isi PyProof.Rows.boot_isinstance (pa_cons (pv 0) (pa_cons (pe_bltn (v := .ty "int") rfl T.int PyProof.Rows.boot_int rfl) pa_nil)))
    (pe_one (pe_not (pe_callB call_isinst rfl T.isi PyProof.Rows.boot_isinstance (pa_cons (pv 0) (pa_cons (pe_bltn (v := .ty "bool") rfl T.bool PyProof.Rows.boot_bool rfl) pa_nil))))))), ?_⟩
  cases x with
  | int i =>
    cases (Option.some.inj hb)
    refine ⟨_, rfl, _, _, _, _, rfl, TyOf.int i, kit_ii, _, rfl, iteT ?_⟩
    exact ⟨_, rfl, _, _, _, _, rfl, TyOf.int i, kit_ib, _, rfl, q⟩
  | str z =>
    cases (Option.some.inj hb)
    exact ⟨_, rfl, _, _, _, _, rfl, TyOf.str z, kit_si, _, rfl, iteF q⟩
  | bl c =>
    cases (Option.some.inj hb)
    refine ⟨_, rfl, _, _, _, _, rfl, TyOf.bl c, kit_bi, _, rfl, iteT ?_⟩
    exact ⟨_, rfl, _, _, _, _, rfl, TyOf.bl c, kit_bb, _, rfl, q⟩
  | non =>
    cases (Option.some.inj hb)
    exact ⟨_, rfl, _, _, _, _, rfl, TyOf.non, kit_ni, _, rfl, iteF q⟩
  | ref a =>
    have hb' : (match H a with | some (.tup _) => some false | _ => none) = some b := hb
    cases e : H a with
    | none => rw [e] at hb'; cases hb'
    | some o =>
      rw [e] at hb'
      cases o with
      | tup xs =>
        cases (Option.some.inj hb')
        exact ⟨_, rfl, _, _, _, _, rfl, TyOf.tup e, kit_ti, _, rfl, iteF q⟩
      | _ => cases hb'
  | _ => cases hb
/-! ### shown, of numbers and texts -/
def shS (z : Str) : Str := Str.ofString (toString ((z.length : Nat) : Int)) ++ Str.ofString ":" ++ z
def spShown : Sp := fun vs H Q _ => (∃ i, vs = [.int i] ∧ i.natAbs.log2 < 1920 ∧ Q (.str (Str.ofString (toString i))) H) ∨ (∃ z, vs = [.str z] ∧ z.length ≤ 100000 ∧ Q (.str (shS z)) H)
theorem scShown : FnScope ["thing"] ["thing"] (defScope sShown) := ⟨rfl, rfl, rfl, by decide +kernel, rfl, by decide +kernel, by decide +kernel⟩
theorem len_len {n : Nat} (h : n ≤ 100000) : (Str.ofString (toString ((n : Nat) : Int))).length ≤ 20 := by
  have e : (Str.ofString (toString ((n : Nat) : Int))).cps.toList.length ≤ 6 := by
    rw [str_num]
    unfold numCs
    rw [if_neg (by omega)]
    exact digs_len (by decide) (by omega)
  have e2 : (Str.ofString (toString ((n : Nat) : Int))).length = (Str.ofString (toString ((n : Nat) : Int))).cps.toList.length := by simp [Str.length]
  omega
theorem e_cat {x y : Str} : (x ++ y).length = x.length + y.length := by
  show (x.cps ++ y.cps).size = _
  rw [Array.size_append]
  rfl
theorem line_big : 1000000 ≤ sizeLine := by decide
theorem ok_shown {fW : Addr} {dW : FuncData} (F : Fun K "shown" "shown" sShown f fd) (T : Tx K mg C) (GW : FnOk P w K mg base CX0 1 fW dW ["thing"] spWhole) (bW : Binds K dW ["thing"] []) (kW : PySem.W.keepIn K (.ref fW) = true) (mW : mg "is_whole" = some (.ref fW)) :
    FnOk P w K mg base CX0 2 f fd ["thing"] spShown := by
  refine F.ok scShown (fun vs H Q E h => ?_) (fun cdv A outer s H vs Q E hr h => ?_)
  · rcases h with ⟨i, rfl, _⟩ | ⟨z, rfl, _⟩ <;> rfl
  refine ⟨_, pss_cons (ps_if (pt_val (pe_call GW hr rfl mW kW bW .nil pass0 (pa_cons (pv 0) pa_nil))) (pss_one (ps_ret (pe_callTy call_str_int rfl T.str PyProof.Rows.boot_str (pa_cons (pv 0) pa_nil)))) pss_nil)
    (pss_cons (ps_if (pt_val (pe_callB call_isinst rfl T.isi PyProof.Rows.boot_isinstance (pa_cons (pv 0) (pa_cons (pe_bltn (v := .ty "str") rfl T.str PyProof.Rows.boot_str rfl) pa_nil))))
      (pss_one (ps_ret (pe_op op_add_str (pe_op op_add_str (pe_callTy call_str_int rfl T.str PyProof.Rows.boot_str (pa_cons (pe_callB call_len_str rfl T.len PySem.boot_len (pa_cons (pv 0) pa_nil)) pa_nil)) pe_str) (pv 0)))) pss_nil)
    pss_never), ?_⟩
  rcases h with ⟨i, rfl, hl, q⟩ | ⟨z, rfl, hl, q⟩
  · exact ⟨_, rfl, _, _, rfl, rfl, _, rfl, iteT ⟨_, rfl, _, rfl, hl, q⟩⟩
  · refine ⟨_, rfl, _, _, rfl, rfl, _, rfl, iteF ?_⟩
    refine ⟨_, rfl, _, _, _, _, rfl, TyOf.str z, kit_ss, _, rfl, iteT ?_⟩
    have h1 := len_len hl
    have h0 := line_big
    refine ⟨_, rfl, _, rfl, by omega, _, rfl, ?_, _, _, rfl, rfl, ?_, _, rfl, _, _, rfl, rfl, ?_, q⟩
    · exact log_ok (by
        exact Nat.lt_of_le_of_lt hl (by decide +kernel))
    · have : (Str.ofString ":").length = 1 := rfl
      omega
    · have : (Str.ofString ":").length = 1 := rfl
      have e : (Str.ofString (toString ((z.length : Nat) : Int)) ++ Str.ofString ":").length = (Str.ofString (toString ((z.length : Nat) : Int))).length + (Str.ofString ":").length := by rw [e_cat]
      omega
/-! ### is_sign -/
def spSign : Sp := fun vs H Q _ => ∃ c : Nat, vs = [.str ⟨#[c]⟩] ∧ Q (.bl (okSign c)) H
theorem scSign : FnScope ["sign", "number"] ["sign"] (defScope sSign) := ⟨rfl, rfl, rfl, by decide +kernel, rfl, by decide +kernel, by decide +kernel⟩
theorem ok_sign (F : Fun K "is_sign" "is_sign" sSign f fd) (T : Tx K mg C) : FnOk P w K mg base CX0 1 f fd ["sign"] spSign := by
  refine F.ok scSign (fun vs H Q E h => ?_) (fun cdv A outer s H vs Q E hr h => ?_)
  · obtain ⟨c, rfl, _⟩ := h
    rfl
  obtain ⟨c, rfl, q⟩ := h
  refine ⟨_, pss_cons (ps_set (i := 1) scSign.nd rfl (Or.inl rfl) (pe_callB call_ord rfl T.ord PyProof.Rows.boot_ord (pa_cons (pv 0) pa_nil)))
    (pss_one (ps_ret (pe_and (pe_chain op_le op_le (gint T.cBl rfl) (pv 1) (gint T.cTi rfl)) (pe_one (pe_cmpR op_ne (pv 1) (gint T.cPc rfl) (nomark _)))))), ?_⟩
  refine ⟨_, rfl, _, rfl, rfl, ?_⟩
  refine ⟨_, rfl, _, _, rfl, rfl, _, rfl, ?_⟩
  have e0 : ((({ cps := #[c] } : Str).cps.getD 0 0 : Nat) : Int) = (c : Int) := rfl
  unfold okSign at q
  by_cases h1 : 32 ≤ c
  · have d1 : decide ((32 : Int) ≤ (({ cps := #[c] } : Str).cps.getD 0 0 : Nat)) = true := decide_eq_true (by rw [e0]; omega)
    rw [d1]
    refine iteT ⟨_, _, rfl, rfl, _, rfl, ?_⟩
    by_cases h2 : c ≤ 126
    · have d2 : decide (((({ cps := #[c] } : Str).cps.getD 0 0 : Nat) : Int) ≤ 126) = true := decide_eq_true (by rw [e0]; omega)
      rw [d2]
      refine iteT ⟨_, rfl, rfl, ?_⟩
      have e3 : (!decide (V.int (({ cps := #[c] } : Str).cps.getD 0 0 : Nat) = V.int 37)) = (decide (32 ≤ c) && decide (c ≤ 126) && decide (c ≠ 37)) := by
        rw [decide_eq_true h1, decide_eq_true h2, dec_int, e0]
        by_cases h3 : c = 37
        · subst h3; rfl
        · have : ((c : Int) == 37) = false := beq_eq_false_iff_ne.mpr (by omega)
          rw [this, decide_eq_true h3]; rfl
      rw [e3]
      exact q
    · have d2 : decide (((({ cps := #[c] } : Str).cps.getD 0 0 : Nat) : Int) ≤ 126) = false := decide_eq_false (by rw [e0]; omega)
      rw [d2]
      refine iteF ?_
      rw [decide_eq_false h2, Bool.and_false, Bool.false_and] at q
      exact q
  · have d1 : decide ((32 : Int) ≤ (({ cps := #[c] } : Str).cps.getD 0 0 : Nat)) = false := decide_eq_false (by rw [e0]; omega)
    rw [d1]
    refine iteF ⟨_, rfl, iteF ?_⟩
    rw [decide_eq_false h1, Bool.false_and, Bool.false_and] at q
    exact q
/-! ### Reader.__init__, passes -/
def spInit (C : Addr) : Sp := fun vs H Q _ => ∃ p dx z, vs = [.ref p, .str z] ∧ H p = some (.ins C dx []) ∧ Q .non (upd (upd H p (.ins C dx (putF "text" (.str z) []))) p (.ins C dx (rf z 0)))
theorem scInit : FnScope ["self", "text"] ["self", "text"] (defScope sInit) := ⟨rfl, rfl, rfl, by decide +kernel, rfl, by decide +kernel, by decide +kernel⟩
theorem ok_init (F : Fun K "__init__" "Reader.__init__" sInit f fd) (T : Tx K mg C) : FnOk P w K mg base CX0 1 f fd ["self", "text"] (spInit C) := by
  refine F.ok scInit (fun vs H Q E h => ?_) (fun cdv A outer s H vs Q E hr h => ?_)
  · obtain ⟨p, dx, z, rfl, _⟩ := h
    rfl
  obtain ⟨p, dx, z, rfl, hp, q⟩ := h
  refine ⟨_, pss_cons (ps_fld (pv 0) (pv 1) rfl) (pss_one (ps_fld (pv 0) pe_int rfl)), ?_⟩
  exact ⟨_, rfl, _, rfl, p, C, dx, [], rfl, hp, T.cl, T.nT, (by show 0 < 1000; decide), _, rfl, p, C, dx, _, rfl, upd_same, T.cl, T.nP, (by show 1 < 1000; decide), q⟩
theorem starts_one (z : Str) (c k : Nat) : Txt.startswith3 z ⟨#[c]⟩ (k : Int) = decide (z.cps.toList[k]? = some c) := by
  have e1 : fromIndex z.length (k : Int) = k := by
    unfold fromIndex
    rw [if_neg (by omega)]
    omega
  unfold Txt.startswith3
  rw [e1]
  have e2 : (({ cps := #[c] } : Str)).length = 1 := rfl
  rw [e2]
  by_cases h : k < z.length
  · have h' : k < z.cps.size := h
    have e3 : Builtin.Str.subAt z ⟨#[c]⟩ k = (z.cps[k] == c) := by
      unfold Builtin.Str.subAt
      rw [e2]
      have e4 : z.cps.extract k (k + 1) = #[z.cps[k]] := by
        apply Array.ext
        · simp; omega
        · intro i h1 h2
          have : i = 0 := by simp at h2; omega
          subst this
          simp
      rw [e4]
      simp
    rw [e3]
    have e5 : decide (k + 1 ≤ z.length) = true := decide_eq_true h
    rw [e5, Bool.true_and]
    have e6 : z.cps.toList[k]? = some z.cps[k] := by rw [Array.getElem?_toList]; exact Array.getElem?_eq_getElem h'
    rw [e6]
    simp [Bool.beq_eq_decide_eq]
  · have e5 : decide (k + 1 ≤ z.length) = false := decide_eq_false (by omega)
    rw [e5, Bool.false_and]
    have e6 : z.cps.toList[k]? = none := by rw [Array.getElem?_toList]; exact Array.getElem?_eq_none (by show z.length ≤ k; omega)
    rw [e6]
    simp
def spPass (C : Addr) : Sp := fun vs H Q _ => ∃ p dx z c, ∃ k : Nat, vs = [.ref p, .str ⟨#[c]⟩] ∧ H p = some (.ins C dx (rf z k)) ∧ 
  (if z.cps.toList[k]? = some c then Q (.bl true) (upd H p (.ins C dx (rf z ((k + 1 : Nat) : Int)))) else Q (.bl false) H)
theorem scPass : FnScope ["self", "sign"] ["self", "sign"] (defScope sPass) := ⟨rfl, rfl, rfl, by decide +kernel, rfl, by decide +kernel, by decide +kernel⟩
theorem ok_pass (F : Fun K "passes" "Reader.passes" sPass f fd) (T : Tx K mg C) : FnOk P w K mg base CX0 1 f fd ["self", "sign"] (spPass C) := by
  refine F.ok scPass (fun vs H Q E h => ?_) (fun cdv A outer s H vs Q E hr h => ?_)
  · obtain ⟨p, dx, z, c, k, rfl, _⟩ := h
    rfl
  obtain ⟨p, dx, z, c, k, rfl, hp, q⟩ := h
  refine ⟨_, pss_cons (ps_if (pt_not (pt_val (pe_bm PySem.F.plainAttrs_str PySem.F.slot_str_startswith PySem.F.type_str_startswith mt_startswith3 (pe_fld (pv 0) rfl) (pa_cons (pv 1) (pa_cons (pe_fld (pv 0) rfl) pa_nil))))) (pss_one (ps_ret pe_bl)) pss_nil)
    (pss_cons (ps_fldaug (pv 0) pe_int in_add) (pss_one (ps_ret pe_bl))), ?_⟩
  refine ⟨_, rfl, p, C, dx, _, _, rfl, hp, T.cl, T.nT, rf_text _ _, rfl, _, rfl, _, rfl, p, C, dx, _, _, rfl, hp, T.cl, T.nP, rf_place _ _, _, _, _, rfl, rfl, _, rfl, ?_⟩
  rw [starts_one]
  by_cases hk : z.cps.toList[k]? = some c
  · rw [if_pos hk] at q
    rw [decide_eq_true hk]
    refine iteF ?_
    refine ⟨_, rfl, p, C, dx, _, _, rfl, hp, T.cl, T.nP, rf_place _ _, _, _, rfl, rfl, dx, _, hp, (by rw [rf_len]; decide), ?_⟩
    rw [rf_put]
    have e : ((k : Int) + 1) = ((k + 1 : Nat) : Int) := by omega
    rw [e]
    exact q
  · rw [if_neg hk] at q
    rw [decide_eq_false hk]
    exact iteT q
end
/-! ### texts by their signs -/
theorem str_ext {x y : Str} (h : x.cps.toList = y.cps.toList) : x = y := by
  obtain ⟨a⟩ := x
  obtain ⟨b⟩ := y
  have : a = b := Array.toList_inj.mp h
  rw [this]
theorem len_cps (z : Str) : z.length = z.cps.toList.length := by simp [Str.length]
theorem slice_mid {z : Str} {pre ds post : List Nat} (e : z.cps.toList = pre ++ ds ++ post) : Txt.slice z (some ((pre.length : Nat) : Int)) (some (((pre.length + ds.length : Nat)) : Int)) = ⟨ds.toArray⟩ := by
  have hl : z.cps.toList.length = pre.length + ds.length + post.length := by rw [e]; simp; omega
  have q := PyProof.Rows.slice_closes (x := z) (i := ((pre.length : Nat) : Int)) (j := ((pre.length + ds.length : Nat) : Int)) ⟨by omega, by omega, by omega⟩
  rw [eq_of_beq q]
  refine str_ext ?_
  have e1 : (((pre.length + ds.length : Nat) : Int) - ((pre.length : Nat) : Int)).toNat = ds.length := by omega
  have e2 : (((pre.length : Nat) : Int)).toNat = pre.length := by omega
  rw [e1, e2, e, List.append_assoc, List.drop_left, List.take_left]
theorem slice_mid' {z : Str} {pre ds post : List Nat} {i j : Int} (e : z.cps.toList = pre ++ ds ++ post) (hi : i = ((pre.length : Nat) : Int)) (hj : j = ((pre.length + ds.length : Nat) : Int)) : Txt.slice z (some i) (some j) = ⟨ds.toArray⟩ := by
  subst hi hj
  exact slice_mid e
theorem uni_dig : ∀ c : Nat, c < 128 → Unicode.isDigit c = isDig c := by decide +kernel
theorem isdigit_one {c : Nat} (h : c < 128) : Txt.isdigit ⟨#[c]⟩ = isDig c := by
  rw [← uni_dig c h]
  unfold Txt.isdigit
  simp [Str.length]
def NumDs (ds : List Nat) : Prop := AllDigits ds ∧ ds ≠ [] ∧ ds.length ≤ 400 ∧ (ds = [48] ∨ ∀ c r, ds = c :: r → c ≠ 48)
def Stops (post : List Nat) : Prop := ∀ c r, post = c :: r → c < 128 ∧ isDig c = false
/-- all else is as it was -/
def But (p : Addr) (H H' : Hp) : Prop := ∀ b o, H b = some o → b ≠ p → H' b = some o
theorem But.refl (p : Addr) (H : Hp) : But p H H := fun _ _ e _ => e
theorem But.upd {p : Addr} {H H' : Hp} (h : But p H H') (o : HO) : But p H (L2.upd H' p o) := fun b u e n => by rw [upd_ne n]; exact h b u e n
theorem But.trans {p : Addr} {H H1 H2 : Hp} (a : But p H H1) (b : But p H1 H2) : But p H H2 := fun c o e n => b c o (a c o e n) n
theorem starts0 (x y : Str) : Txt.startswith x y = Txt.startswith3 x y ((0 : Nat) : Int) := by
  unfold Txt.startswith Txt.startswith3
  have e : fromIndex x.length ((0 : Nat) : Int) = 0 := by unfold fromIndex; simp
  rw [e]
section
variable {P : Program} {w : World} {K : PySem.W.Frag} {mg : Str → Option Value} {base : Heap} {f C : Addr} {fd : FuncData}
/-! ### read_number -/
def spNum (C : Addr) : Sp := fun vs H Q _ => ∃ p dx z pre ds post, vs = [.ref p] ∧ z.cps.toList = pre ++ ds ++ post ∧ H p = some (.ins C dx (rf z (pre.length : Nat))) ∧ z.length ≤ 100000 ∧ NumDs ds ∧ Stops post ∧
  ∀ H', H' p = some (.ins C dx (rf z ((pre.length + ds.length : Nat) : Int))) → But p H H' → Q (.int (digitsVal ds : Nat)) H'
theorem scNum : FnScope ["self", "start", "figures"] ["self"] (defScope sNum) := ⟨rfl, rfl, rfl, by decide +kernel, rfl, by decide +kernel, by decide +kernel⟩
theorem e_empty : (Str.ofString "") = ⟨#[]⟩ := by decide +kernel
theorem e_zero : (Str.ofString "0") = ⟨#[48]⟩ := by decide +kernel
def tNumTest (K : PySem.W.Frag) : TT := tAnd (tTest (tOp (rI0 fun i j => .bl (decide (i < j))) (tFld K (tVar 0) "place") (tCB (fun xs H Q => ∃ z, xs = [.str z] ∧ z.length ≤ sizeLine ∧ Q (.int z.length) H) (tCons (tFld K (tVar 0) "text") tNil))))
  (tB (tBM0 K "str" (fun x vs H Q => ∃ z, x = .str z ∧ vs = [] ∧ Q (.bl (Txt.isdigit z)) H) (tOp rIxS (tFld K (tVar 0) "text") (tFld K (tVar 0) "place"))))
theorem num_test {p dx : Addr} {z : Str} {pre ds post : List Nat} {j : Nat} {σ : St} {H1 : Hp} {R : Bool → Hp → Prop} (T : Tx K mg C) (ez : z.cps.toList = pre ++ ds ++ post) (hz : z.length ≤ 100000) (d1 : AllDigits ds) (hpo : Stops post) (hj : j ≤ ds.length)
    (e0 : σ[0]? = some (some (.ref p))) (hp1 : H1 p = some (.ins C dx (rf z ((pre.length + j : Nat) : Int)))) (h : R (decide (j < ds.length)) H1) : tNumTest K σ H1 R := by
  have hu := line_big
  have lz : z.length = pre.length + ds.length + post.length := by rw [len_cps, ez]; simp; omega
  refine ⟨_, e0, p, C, dx, _, _, rfl, hp1, T.cl, T.nP, rf_place _ _, _, e0, p, C, dx, _, _, rfl, hp1, T.cl, T.nT, rf_text _ _, _, rfl, by omega, _, _, rfl, rfl, _, rfl, ?_⟩
  by_cases hlt : (pre.length + j : Nat) < z.length
  · rw [decide_eq_true (show (((pre.length + j : Nat)) : Int) < ((z.length : Nat) : Int) by omega)]
    have hlt' : pre.length + j < z.cps.toList.length := by rw [← len_cps]; exact hlt
    obtain ⟨c, hc⟩ : ∃ c, z.cps.toList[pre.length + j]? = some c := ⟨_, List.getElem?_eq_getElem hlt'⟩
    refine iteT ⟨_, e0, p, C, dx, _, _, rfl, hp1, T.cl, T.nT, rf_text _ _, _, e0, p, C, dx, _, _, rfl, hp1, T.cl, T.nP, rf_place _ _, z, _, c, rfl, rfl, by omega, atI_nat hc, rfl, _, rfl, rfl, _, rfl, ?_⟩
    by_cases hjd : j < ds.length
    · have ec : ds[j]? = some c := by
        rw [ez, List.append_assoc, List.getElem?_append_right (by omega), List.getElem?_append_left (by omega)] at hc
        rw [← hc]; congr 1; omega
      have dc : 48 ≤ c ∧ c ≤ 57 := d1 c (List.mem_of_getElem? ec)
      have e1 : Txt.isdigit ⟨#[c]⟩ = true := by rw [isdigit_one (by omega)]; unfold isDig; rw [decide_eq_true dc.1, decide_eq_true dc.2]; rfl
      rw [decide_eq_true hjd] at h
      rw [e1]
      exact h
    · have hjd' : j = ds.length := by omega
      have ec : post[0]? = some c := by
        rw [ez, List.getElem?_append_right (by rw [List.length_append]; omega)] at hc
        rw [← hc]; congr 1; rw [List.length_append]; omega
      have hp2 : c < 128 ∧ isDig c = false := by
        cases post with
        | nil => cases ec
        | cons a r => exact hpo c r (by rw [show a = c by simpa using ec])
      have e1 : Txt.isdigit ⟨#[c]⟩ = false := by rw [isdigit_one hp2.1]; exact hp2.2
      rw [decide_eq_false hjd] at h
      rw [e1]
      exact h
  · rw [decide_eq_false (show ¬ (((pre.length + j : Nat)) : Int) < ((z.length : Nat) : Int) by omega)]
    rw [decide_eq_false (show ¬ j < ds.length by omega)] at h
    exact iteF h
theorem ok_num (F : Fun K "read_number" "Reader.read_number" sNum f fd) (T : Tx K mg C) : FnOk P w K mg base CX0 1 f fd ["self"] (spNum C) := by
  refine F.ok scNum (fun vs H Q E h => ?_) (fun cdv A outer s H vs Q E hr h => ?_)
  · obtain ⟨p, dx, z, pre, ds, post, rfl, _⟩ := h
    rfl
  obtain ⟨p, dx, z, pre, ds, post, rfl, ez, hp, hz, hds, hpo, q⟩ := h
  obtain ⟨d1, d2, d3, d4⟩ := hds
  have hu := line_big
  have lz : z.length = pre.length + ds.length + post.length := by rw [len_cps, ez]; simp; omega
  refine ⟨_, pss_cons (ps_set (i := 1) scNum.nd rfl (Or.inl rfl) (pe_fld (pv 0) rfl))
    (pss_cons (ps_while (tc := tNumTest K) PassesOwn.never (PW.pt (pw_and (pt_cmpR op_lt (pe_fld (pv 0) rfl) (pe_callB call_len_str rfl T.len PySem.boot_len (pa_cons (pe_fld (pv 0) rfl) pa_nil)) (nomark _))
        (pw_and1 (pt_val (pe_bm0 PySem.F.plainAttrs_str PySem.F.slot_str_isdigit PySem.F.type_str_isdigit mt_isdigit (pe_ix ix_str (pe_fld (pv 0) rfl) (pe_fld (pv 0) rfl) (fun _ _ => rfl)))))))
      (pss_one (ps_fldaug (pv 0) pe_int in_add)))
    (pss_cons (ps_set (i := 2) scNum.nd rfl (Or.inl rfl) (pe_slice sl_str (pe_fld (pv 0) rfl) (po_some (pv 1)) (po_some (pe_fld (pv 0) rfl))))
    (pss_cons (ps_if (pt_cmpR op_eq (pv 2) pe_str (nomark _)) pss_never pss_nil)
    (pss_cons (ps_if (pt_cmpR op_gt (pe_callB call_len_str rfl T.len PySem.boot_len (pa_cons (pv 2) pa_nil)) (gint T.cFig rfl) (nomark _)) pss_never pss_nil)
    (pss_cons (ps_if (PW.pt (pw_and (pt_val (pe_bm PySem.F.plainAttrs_str PySem.F.slot_str_startswith PySem.F.type_str_startswith mt_startswith (pv 2) (pa_cons pe_str pa_nil))) (pw_and1 (pt_cmpR op_ne (pv 2) pe_str (nomark _))))) pss_never pss_nil)
    (pss_one (ps_ret (pe_callTy call_int_text rfl T.int PyProof.Rows.boot_int (pa_cons (pv 2) pa_nil))))))))), ?_⟩
  refine ⟨_, rfl, p, C, dx, _, _, rfl, hp, T.cl, T.nP, rf_place _ _, ?_⟩
  refine ⟨fun m σ H1 => ∃ j, m = ds.length - j ∧ j ≤ ds.length ∧ σ = [some (.ref p), some (.int (pre.length : Nat)), none] ∧ H1 p = some (.ins C dx (rf z ((pre.length + j : Nat) : Int))) ∧ But p H H1,
    ⟨ds.length, 0, rfl, Nat.zero_le _, rfl, hp, But.refl p H⟩, ?_⟩
  rintro m σ H1 ⟨j, rfl, hj, rfl, hp1, bt⟩
  refine num_test T ez hz d1 hpo hj rfl hp1 ?_
  by_cases hjd : j < ds.length
  · rw [decide_eq_true hjd]
    refine iteT ⟨_, fun σ' H' h => h, ?_⟩
    refine ⟨_, rfl, p, C, dx, _, _, rfl, hp1, T.cl, T.nP, rf_place _ _, _, _, rfl, rfl, dx, _, hp1, (by rw [rf_len]; decide), ?_⟩
    refine ⟨ds.length - (j + 1), by omega, j + 1, rfl, hjd, rfl, ?_, bt.upd _⟩
    rw [upd_same, rf_put]
    have e : (((pre.length + j : Nat)) : Int) + 1 = ((pre.length + (j + 1) : Nat) : Int) := by omega
    rw [e]
  · rw [decide_eq_false hjd]
    obtain rfl : j = ds.length := by omega
    refine iteF ?_
    refine ⟨_, rfl, p, C, dx, _, _, rfl, hp1, T.cl, T.nT, rf_text _ _, _, rfl, _, rfl, _, rfl, p, C, dx, _, _, rfl, hp1, T.cl, T.nP, rf_place _ _, _, rfl, z, rfl, by omega, ?_⟩
    rw [slice_mid ez]
    have dl : (({ cps := ds.toArray } : Str)).length = ds.length := by simp [Str.length]
    -- figures == ""
    refine ⟨_, rfl, rfl, _, rfl, ?_⟩
    have n1 : ¬ (V.str ({ cps := ds.toArray } : Str) = V.str (Str.ofString "")) := by
      intro e
      have e' : (({ cps := ds.toArray } : Str)) = Str.ofString "" := by injection e
      rw [e_empty] at e'
      have e2 := congrArg (fun s : Str => s.cps.toList) e'
      exact d2 (by simpa using e2)
    rw [decide_eq_false n1]
    refine iteF ?_
    -- len(figures) > MOST_FIGURES
    refine ⟨_, rfl, _, rfl, by omega, _, _, rfl, rfl, _, rfl, ?_⟩
    rw [decide_eq_false (show ¬ ((400 : Int) < ((({ cps := ds.toArray } : Str)).length : Nat)) by rw [dl]; omega)]
    refine iteF ?_
    -- figures.startswith("0") and figures != "0"
    have it : PySem.intText? ({ cps := ds.toArray } : Str) = some ((digitsVal ds : Nat) : Int) := by
      have := intText_digits (x := ({ cps := ds.toArray } : Str)) (by simpa using d1) (by simpa using d2) (by rw [dl]; omega)
      simpa using this
    refine ⟨_, rfl, rfl, _, _, rfl, rfl, _, rfl, ?_⟩
    have hs : Txt.startswith ({ cps := ds.toArray } : Str) (Str.ofString "0") = decide (ds[0]? = some 48) := by
      rw [e_zero, starts0, starts_one]
    rw [hs]
    rcases d4 with e4 | h4
    · subst e4
      refine iteT ⟨_, rfl, rfl, _, rfl, ?_⟩
      have n3 : V.str ({ cps := ([48] : List Nat).toArray } : Str) = V.str (Str.ofString "0") := by rw [e_zero]
      rw [decide_eq_true n3]
      exact iteF ⟨_, rfl, _, _, rfl, it, by rw [dl]; omega, q H1 hp1 bt⟩
    · have n4 : ¬ ds[0]? = some 48 := by
        cases ds with
        | nil => exact absurd rfl d2
        | cons c r => intro e; exact h4 c r rfl (by simpa using e)
      rw [decide_eq_false n4]
      exact iteF (iteF ⟨_, rfl, _, _, rfl, it, by rw [dl]; omega, q H1 hp1 bt⟩)
/-! ### read_signs -/
def spSigns (C : Addr) : Sp := fun vs H Q _ => ∃ p dx z pre ws post, vs = [.ref p, .int ((ws : List Nat).length : Nat)] ∧ z.cps.toList = pre ++ ws ++ post ∧ H p = some (.ins C dx (rf z (pre.length : Nat))) ∧ z.length ≤ 100000 ∧ ws.length ≤ 2000 ∧
  ∀ H', H' p = some (.ins C dx (rf z ((pre.length + ws.length : Nat) : Int))) → But p H H' → Q (.str ⟨ws.toArray⟩) H'
theorem scSigns : FnScope ["self", "many", "behind", "signs"] ["self", "many"] (defScope sSigns) := ⟨rfl, rfl, rfl, by decide +kernel, rfl, by decide +kernel, by decide +kernel⟩
theorem ok_signs (F : Fun K "read_signs" "Reader.read_signs" sSigns f fd) (T : Tx K mg C) : FnOk P w K mg base CX0 1 f fd ["self", "many"] (spSigns C) := by
  refine F.ok scSigns (fun vs H Q E h => ?_) (fun cdv A outer s H vs Q E hr h => ?_)
  · obtain ⟨p, dx, z, pre, ws, post, rfl, _⟩ := h
    rfl
  obtain ⟨p, dx, z, pre, ws, post, rfl, ez, hp, hz, hw, q⟩ := h
  have hu := line_big
  have lz : z.length = pre.length + ws.length + post.length := by rw [len_cps, ez]; simp; omega
  refine ⟨_, pss_cons (ps_set (i := 2) scSigns.nd rfl (Or.inl rfl) (pe_op op_add (pe_fld (pv 0) rfl) (pv 1)))
    (pss_cons (ps_if (pt_cmpR op_gt (pv 1) (gint T.cSig rfl) (nomark _)) pss_never pss_nil)
    (pss_cons (ps_if (pt_cmpR op_gt (pv 2) (pe_callB call_len_str rfl T.len PySem.boot_len (pa_cons (pe_fld (pv 0) rfl) pa_nil)) (nomark _)) pss_never pss_nil)
    (pss_cons (ps_set (i := 3) scSigns.nd rfl (Or.inl rfl) (pe_slice sl_str (pe_fld (pv 0) rfl) (po_some (pe_fld (pv 0) rfl)) (po_some (pv 2))))
    (pss_cons (ps_fld (pv 0) (pv 2) rfl)
    (pss_one (ps_ret (pv 3))))))), ?_⟩
  refine ⟨_, rfl, p, C, dx, _, _, rfl, hp, T.cl, T.nP, rf_place _ _, _, rfl, _, _, rfl, rfl, ?_⟩
  refine ⟨_, rfl, _, _, rfl, rfl, _, rfl, ?_⟩
  rw [decide_eq_false (show ¬ ((2000 : Int) < ((ws.length : Nat) : Int)) by omega)]
  refine iteF ⟨_, rfl, _, rfl, p, C, dx, _, _, rfl, hp, T.cl, T.nT, rf_text _ _, z, rfl, by omega, _, _, rfl, rfl, _, rfl, ?_⟩
  have eb : ((pre.length : Nat) : Int) + ((ws.length : Nat) : Int) = ((pre.length + ws.length : Nat) : Int) := by omega
  rw [eb]
  rw [decide_eq_false (show ¬ (((z.length : Nat) : Int) < ((pre.length + ws.length : Nat) : Int)) by omega)]
  refine iteF ⟨_, rfl, p, C, dx, _, _, rfl, hp, T.cl, T.nT, rf_text _ _, _, rfl, p, C, dx, _, _, rfl, hp, T.cl, T.nP, rf_place _ _, _, rfl, _, rfl, _, rfl, z, rfl, by omega, ?_⟩
  rw [slice_mid' ez rfl eb]
  refine ⟨_, rfl, _, rfl, p, C, dx, _, rfl, hp, T.cl, T.nP, (by rw [rf_len]; decide), _, rfl, ?_⟩
  refine q _ ?_ ((But.refl p H).upd _)
  rw [upd_same, ← eb]
  exact congrArg (fun l => some (HO.ins C dx l)) (rf_put z _ _)
/-! ### read_below -/
def spBelow (C : Addr) : Sp := fun vs H Q _ => ∃ p dx z pre ds post, vs = [.ref p] ∧ z.cps.toList = pre ++ ds ++ post ∧ H p = some (.ins C dx (rf z (pre.length : Nat))) ∧ z.length ≤ 100000 ∧ NumDs ds ∧ Stops post ∧ digitsVal ds ≠ 0 ∧
  ∀ H', H' p = some (.ins C dx (rf z ((pre.length + ds.length : Nat) : Int))) → But p H H' → Q (.int (-((digitsVal ds : Nat) : Int))) H'
theorem scBelow : FnScope ["self", "number"] ["self"] (defScope sBelow) := ⟨rfl, rfl, rfl, by decide +kernel, rfl, by decide +kernel, by decide +kernel⟩
theorem ok_below {fN : Addr} {dN : FuncData} (F : Fun K "read_below" "Reader.read_below" sBelow f fd) (T : Tx K mg C) (GN : FnOk P w K mg base CX0 1 fN dN ["self"] (spNum C)) (bN : Binds K dN ["self"] []) (mN : Meth K C "read_number" fN) :
    FnOk P w K mg base CX0 2 f fd ["self"] (spBelow C) := by
  refine F.ok scBelow (fun vs H Q E h => ?_) (fun cdv A outer s H vs Q E hr h => ?_)
  · obtain ⟨p, dx, z, pre, ds, post, rfl, _⟩ := h
    rfl
  obtain ⟨p, dx, z, pre, ds, post, rfl, ez, hp, hz, hds, hpo, hne, q⟩ := h
  refine ⟨_, pss_cons (ps_set (i := 1) scBelow.nd rfl (Or.inl rfl) (pe_meth0 (pv 0) T.cl mN GN hr bN .nil pass0))
    (pss_cons (ps_if (pt_cmpR op_eq (pv 1) pe_int (nomark _)) pss_never pss_nil)
    (pss_one (ps_ret (pe_un un_neg (pv 1))))), ?_⟩
  refine ⟨_, rfl, p, dx, _, rfl, hp, rf_no _ _ (by decide +kernel) (by decide +kernel), p, dx, z, pre, ds, post, rfl, ez, hp, hz, hds, hpo, fun H1 hp1 bt => ?_⟩
  refine ⟨_, rfl, rfl, _, rfl, ?_⟩
  have n1 : ¬ (V.int ((digitsVal ds : Nat) : Int) = V.int 0) := by intro e; injection e with e; omega
  rw [decide_eq_false n1]
  exact iteF ⟨_, rfl, _, rfl, q H1 hp1 bt⟩
end
/-! ### what stands as a number or a text -/
inductive Item : List Nat → V → Prop where
  | num (n : Int) (h : n.natAbs < 10 ^ 400) : Item (numCs n) (.int n)
  | txt (ws : List Nat) (h : ws.length ≤ 2000) : Item (digs ws.length ++ 58 :: ws) (.str ⟨ws.toArray⟩)
def Ends (post : List Nat) : Prop := ∀ c r, post = c :: r → c = 32 ∨ c = 41
theorem digs_num (m : Nat) (h : m < 10 ^ 400) : NumDs (digs m) := by
  refine ⟨digs_all m, digs_ne m, digs_len (by decide) h, ?_⟩
  by_cases h0 : m = 0
  · subst h0; exact .inl digs_zero
  · exact .inr (digs_head m h0)
theorem Ends.stops {post : List Nat} (h : Ends post) : Stops post := fun c r e => by
  rcases h c r e with rfl | rfl <;> exact ⟨by decide, by decide⟩
theorem e_open : (Str.ofString "(") = ⟨#[40]⟩ := by decide +kernel
theorem e_minus : (Str.ofString "-") = ⟨#[45]⟩ := by decide +kernel
theorem e_colon : (Str.ofString ":") = ⟨#[58]⟩ := by decide +kernel
/-- the first sign -/
theorem at_pre {z : Str} {pre rest : List Nat} (e : z.cps.toList = pre ++ rest) : z.cps.toList[pre.length]? = rest[0]? := by
  rw [e, List.getElem?_append_right (Nat.le_refl _), Nat.sub_self]
theorem digs_cons (m : Nat) : ∃ c r, digs m = c :: r ∧ 48 ≤ c ∧ c ≤ 57 := by
  cases e : digs m with
  | nil => exact absurd e (digs_ne m)
  | cons c r =>
    have h := digs_all m
    rw [e] at h
    exact ⟨c, r, rfl, h.head⟩
section
variable {P : Program} {w : World} {K : PySem.W.Frag} {mg : Str → Option Value} {base : Heap} {f C : Addr} {fd : FuncData}
def spAny (C : Addr) : Sp := fun vs H Q _ => ∃ p dx z pre it post v d, vs = [.ref p, d] ∧ z.cps.toList = pre ++ it ++ post ∧ H p = some (.ins C dx (rf z ((pre : List Nat).length : Nat))) ∧ z.length ≤ 100000 ∧ Item it v ∧ Ends post ∧
  ∀ H', H' p = some (.ins C dx (rf z ((pre.length + it.length : Nat) : Int))) → But p H H' → Q v H'
theorem scAny : FnScope ["self", "deep", "number"] ["self", "deep"] (defScope sAny) := ⟨rfl, rfl, rfl, by decide +kernel, rfl, by decide +kernel, by decide +kernel⟩
theorem ok_any {fP fB fN fS : Addr} {dP dB dN dS : FuncData} (F : Fun K "read_any" "Reader.read_any" sAny f fd) (T : Tx K mg C)
    (GP : FnOk P w K mg base CX0 1 fP dP ["self", "sign"] (spPass C)) (bP : Binds K dP ["self", "sign"] []) (mP : Meth K C "passes" fP)
    (GB : FnOk P w K mg base CX0 2 fB dB ["self"] (spBelow C)) (bB : Binds K dB ["self"] []) (mB : Meth K C "read_below" fB)
    (GN : FnOk P w K mg base CX0 1 fN dN ["self"] (spNum C)) (bN : Binds K dN ["self"] []) (mN : Meth K C "read_number" fN)
    (GS : FnOk P w K mg base CX0 1 fS dS ["self", "many"] (spSigns C)) (bS : Binds K dS ["self", "many"] []) (mS : Meth K C "read_signs" fS) :
    FnOk P w K mg base CX0 3 f fd ["self", "deep"] (spAny C) := by
  refine F.ok scAny (fun vs H Q E h => ?_) (fun cdv A outer s H vs Q E hr h => ?_)
  · obtain ⟨p, dx, z, pre, it, post, v, d, rfl, _⟩ := h
    rfl
  obtain ⟨p, dx, z, pre, it, post, v, d, rfl, ez, hp, hz, hit, hen, q⟩ := h
  have hr1 := hr.mono (show 1 ≤ 2 by decide)
  have np : ∀ (k : Int), (rf z k).lookup ("passes" : Str) = none := fun k => rf_no _ _ (by decide +kernel) (by decide +kernel)
  have nn : ∀ (k : Int), (rf z k).lookup ("read_number" : Str) = none := fun k => rf_no _ _ (by decide +kernel) (by decide +kernel)
  have nb : ∀ (k : Int), (rf z k).lookup ("read_below" : Str) = none := fun k => rf_no _ _ (by decide +kernel) (by decide +kernel)
  have ns : ∀ (k : Int), (rf z k).lookup ("read_signs" : Str) = none := fun k => rf_no _ _ (by decide +kernel) (by decide +kernel)
  refine ⟨_, pss_cons (ps_if (pt_val (pe_meth (pv 0) T.cl mP GP hr1 bP .nil pass0 (pa_cons pe_str pa_nil))) pss_never pss_nil)
    (pss_cons (ps_if (pt_val (pe_meth (pv 0) T.cl mP GP hr1 bP .nil pass0 (pa_cons pe_str pa_nil))) (pss_one (ps_ret (pe_meth0 (pv 0) T.cl mB GB hr bB .nil pass0))) pss_nil)
    (pss_cons (ps_set (i := 2) scAny.nd rfl (Or.inl rfl) (pe_meth0 (pv 0) T.cl mN GN hr1 bN .nil pass0))
    (pss_cons (ps_if (pt_val (pe_meth (pv 0) T.cl mP GP hr1 bP .nil pass0 (pa_cons pe_str pa_nil))) (pss_one (ps_ret (pe_meth (pv 0) T.cl mS GS hr1 bS .nil pass0 (pa_cons (pv 2) pa_nil)))) pss_nil)
    (pss_one (ps_ret (pv 2)))))), ?_⟩
  have ez' : z.cps.toList = pre ++ (it ++ post) := by rw [ez, List.append_assoc]
  have h0 := at_pre ez'
  cases hit with
  | num n hn =>
    by_cases hneg : n < 0
    · have en : numCs n = 45 :: digs n.natAbs := by unfold numCs; rw [if_pos hneg]
      rw [en] at ez ez' q h0
      have h0' : z.cps.toList[pre.length]? = some 45 := h0
      refine ⟨_, rfl, p, dx, _, rfl, hp, np _, p, dx, z, 40, pre.length, (by rw [e_open]; rfl), hp, ?_⟩
      rw [if_neg (by rw [h0']; decide)]
      refine ⟨_, rfl, iteF ?_⟩
      refine ⟨_, rfl, p, dx, _, rfl, hp, np _, p, dx, z, 45, pre.length, (by rw [e_minus]; rfl), hp, ?_⟩
      rw [if_pos h0']
      refine ⟨_, rfl, iteT ?_⟩
      refine ⟨_, rfl, p, dx, _, rfl, upd_same, nb _, p, dx, z, pre ++ [45], digs n.natAbs, post, rfl, (by rw [ez]; simp), (by rw [upd_same]; simp), hz, digs_num _ hn, hen.stops, (by rw [digs_val]; omega), fun H' hp' bt => ?_⟩
      have e1 : (-((digitsVal (digs n.natAbs) : Nat) : Int)) = n := by rw [digs_val]; omega
      rw [e1]
      refine q H' ?_ (((But.refl p H).upd _).trans bt)
      rw [hp']
      have e2 : (pre ++ [45]).length + (digs n.natAbs).length = pre.length + (45 :: digs n.natAbs).length := by simp; omega
      rw [e2]
    · have en : numCs n = digs n.natAbs := by unfold numCs; rw [if_neg hneg]
      rw [en] at ez ez' q h0
      obtain ⟨c, r, ec, hc⟩ := digs_cons n.natAbs
      have h0' : z.cps.toList[pre.length]? = some c := by rw [h0, ec]; rfl
      refine ⟨_, rfl, p, dx, _, rfl, hp, np _, p, dx, z, 40, pre.length, (by rw [e_open]; rfl), hp, ?_⟩
      rw [if_neg (by rw [h0']; intro e; injection e with e; omega)]
      refine ⟨_, rfl, iteF ?_⟩
      refine ⟨_, rfl, p, dx, _, rfl, hp, np _, p, dx, z, 45, pre.length, (by rw [e_minus]; rfl), hp, ?_⟩
      rw [if_neg (by rw [h0']; intro e; injection e with e; omega)]
      refine ⟨_, rfl, iteF ?_⟩
      refine ⟨_, rfl, p, dx, _, rfl, hp, nn _, p, dx, z, pre, digs n.natAbs, post, rfl, ez, hp, hz, digs_num _ hn, hen.stops, fun H1 hp1 bt => ?_⟩
      have h1 : z.cps.toList[pre.length + (digs n.natAbs).length]? = post[0]? := by
        have := at_pre (z := z) (pre := pre ++ digs n.natAbs) (rest := post) ez
        rw [List.length_append] at this
        exact this
      refine ⟨_, rfl, p, dx, _, rfl, hp1, np _, p, dx, z, 58, pre.length + (digs n.natAbs).length, (by rw [e_colon]; rfl), hp1, ?_⟩
      rw [if_neg (by
        rw [h1]
        intro e
        cases post with
        | nil => cases e
        | cons a r' =>
          have := hen a r' rfl
          have ea : a = 58 := by simpa using e
          omega)]
      refine ⟨_, rfl, iteF ⟨_, rfl, ?_⟩⟩
      have e1 : ((digitsVal (digs n.natAbs) : Nat) : Int) = n := by rw [digs_val]; omega
      rw [e1]
      exact q H1 hp1 bt
  | txt ws hw =>
    obtain ⟨c, r, ec, hc⟩ := digs_cons ws.length
    have h0' : z.cps.toList[pre.length]? = some c := by rw [h0, ec]; rfl
    refine ⟨_, rfl, p, dx, _, rfl, hp, np _, p, dx, z, 40, pre.length, (by rw [e_open]; rfl), hp, ?_⟩
    rw [if_neg (by rw [h0']; intro e; injection e with e; omega)]
    refine ⟨_, rfl, iteF ?_⟩
    refine ⟨_, rfl, p, dx, _, rfl, hp, np _, p, dx, z, 45, pre.length, (by rw [e_minus]; rfl), hp, ?_⟩
    rw [if_neg (by rw [h0']; intro e; injection e with e; omega)]
    refine ⟨_, rfl, iteF ?_⟩
    have hl : ws.length < 10 ^ 400 := Nat.lt_of_le_of_lt hw (by decide +kernel)
    have ez2 : z.cps.toList = pre ++ digs ws.length ++ (58 :: (ws ++ post)) := by rw [ez]; simp
    refine ⟨_, rfl, p, dx, _, rfl, hp, nn _, p, dx, z, pre, digs ws.length, 58 :: (ws ++ post), rfl, ez2, hp, hz, digs_num _ hl, fun c' r' e => (by cases e; exact ⟨by decide, by decide⟩), fun H1 hp1 bt => ?_⟩
    have h1 : z.cps.toList[pre.length + (digs ws.length).length]? = some 58 := by
      have := at_pre (z := z) (pre := pre ++ digs ws.length) (rest := 58 :: (ws ++ post)) ez2
      rw [List.length_append] at this
      exact this
    refine ⟨_, rfl, p, dx, _, rfl, hp1, np _, p, dx, z, 58, pre.length + (digs ws.length).length, (by rw [e_colon]; rfl), hp1, ?_⟩
    rw [if_pos h1]
    refine ⟨_, rfl, iteT ?_⟩
    have el : (pre ++ digs ws.length ++ [58]).length = pre.length + (digs ws.length).length + 1 := by simp; omega
    refine ⟨_, rfl, p, dx, _, rfl, upd_same, ns _, _, rfl, p, dx, z, pre ++ digs ws.length ++ [58], ws, post, (by rw [digs_val]; rfl), (by rw [ez2]; simp), (by rw [upd_same, el]), hz, hw, fun H2 hp2 bt2 => ?_⟩
    refine q H2 ?_ ((bt.upd _).trans bt2)
    rw [hp2]
    have e2 : (pre ++ digs ws.length ++ [58]).length + ws.length = pre.length + (digs ws.length ++ 58 :: ws).length := by simp; omega
    rw [e2]
/-! ### read_thing -/
def spRead : Sp := fun vs H Q _ => ∃ z v, vs = [.str z] ∧ Item z.cps.toList v ∧ (∀ c ∈ z.cps.toList, okSign c = true) ∧ z.length ≤ 100000 ∧ ∀ H', Same H H' → Q v H'
theorem scRead : FnScope ["text", "reader", "thing"] ["text"] (defScope sRead) := ⟨rfl, rfl, rfl, by decide +kernel, rfl, by decide +kernel, by decide +kernel⟩
/-- the scope of the n-th comprehension: read off the text -/
def readComp : Scope := match defBody sRead with
  | _ :: .If (.UnaryOp _ (.Call _ [.ListComp _ _ sc _] _ _) _) _ _ _ :: _ => sc
  | _ => default
theorem scComp : BlkScope ["text", "reader", "thing"] (defScope sRead) readComp "sign" ["sign"] [] := ⟨by decide +kernel, rfl, by decide +kernel, rfl, by decide +kernel, by decide +kernel, rfl, rfl, fun j h => absurd h (Nat.not_lt_zero j)⟩
theorem ok_read {fG fI fA : Addr} {dG dI dA : FuncData} (F : Fun K "read_thing" "read_thing" sRead f fd) (T : Tx K mg C) (M : Mk K C fI)
    (GG : FnOk P w K mg base CX0 1 fG dG ["sign"] spSign) (bG : Binds K dG ["sign"] []) (kG : PySem.W.keepIn K (.ref fG) = true) (mG : mg "is_sign" = some (.ref fG))
    (GI : FnOk P w K mg base CX0 1 fI dI ["self", "text"] (spInit C)) (bI : Binds K dI ["self", "text"] [])
    (GA : FnOk P w K mg base CX0 3 fA dA ["self", "deep"] (spAny C)) (bA : Binds K dA ["self", "deep"] []) (mA : Meth K C "read_any" fA) :
    FnOk P w K mg base CX0 4 f fd ["text"] spRead := by
  refine F.ok scRead (fun vs H Q E h => ?_) (fun cdv A outer s H vs Q E hr h => ?_)
  · obtain ⟨z, v, rfl, _⟩ := h
    rfl
  obtain ⟨z, v, rfl, hit, hok, hz, q⟩ := h
  have hr1 := hr.mono (show 1 ≤ 3 by decide)
  have hr2 := hr.mono (show 2 ≤ 3 by decide)
  have hu := line_big
  refine ⟨_, pss_cons (ps_if (pt_cmpR op_gt (pe_callB call_len_str rfl T.len PySem.boot_len (pa_cons (pv 0) pa_nil)) (gint T.cLong rfl) (nomark _)) pss_never pss_nil)
    (pss_cons (ps_if (pt_not (pt_val (pe_callB (call_all_bl rfl) rfl T.all PyProof.Rows.boot_all (pa_cons (pe_lc scComp rfl (pi_str (pv 0)) (fun _ _ _ _ => pts_nil) (fun _ _ _ _ => pe_call GG hr1 rfl mG kG bG .nil pass0 (pa_cons (pv 0) pa_nil))) pa_nil)))) pss_never pss_nil)
    (pss_cons (ps_set (i := 1) scRead.nd rfl (Or.inl rfl) (pe_make M GI hr2 rfl T.mgC bI .nil pass0 (pa_cons (pv 0) pa_nil)))
    (pss_cons (ps_set (i := 2) scRead.nd rfl (Or.inl rfl) (pe_meth (pv 1) T.cl mA GA hr bA .nil pass0 (pa_cons (gint T.cDeep rfl) pa_nil)))
    (pss_cons (ps_if (pt_cmpR op_ne (pe_fld (pv 1) rfl) (pe_callB call_len_str rfl T.len PySem.boot_len (pa_cons (pv 0) pa_nil)) (nomark _)) pss_never pss_nil)
    (pss_one (ps_ret (pv 2))))))), ?_⟩
  refine ⟨_, rfl, z, rfl, by omega, _, _, rfl, rfl, _, rfl, ?_⟩
  rw [decide_eq_false (show ¬ ((100000 : Int) < ((z.length : Nat) : Int)) by omega)]
  refine iteF ?_
  -- all([is_sign(sign) for sign in text])
  refine ⟨_, rfl, z, rfl, fun i ys H1 => i ≤ z.length ∧ ys = List.replicate i (V.bl true) ∧ H1 = H, z.length, ⟨Nat.zero_le _, rfl, rfl⟩, by omega, ?_⟩
  rintro i ys H1 ⟨hi, rfl, rfl⟩
  by_cases hlt : i < z.length
  · refine .inr ⟨hlt, hlt, ?_⟩
    rintro x H2 ⟨rfl, c, hc, rfl⟩
    refine ⟨_, rfl, c, rfl, hlt, ?_, rfl⟩
    rw [hok c (List.mem_of_getElem? hc), List.replicate_succ']
  refine .inl ⟨by show z.length ≤ i; omega, fun l hl => ?_⟩
  have e0 : List.replicate i (V.bl true) = (List.replicate i true).map V.bl := by simp
  refine ⟨l, List.replicate i true, rfl, SqL.of (by rw [upd_same, e0]), _, rfl, ?_⟩
  have e1 : (List.replicate i true).all id = true := by simp
  rw [e1]
  refine iteF ?_
  have sl : Same H1 (upd H1 l (.lst (List.replicate i (V.bl true)))) := fun b o e => by rw [upd_ne (ne_of_none e hl)]; exact e
  -- reader = Reader(text)
  refine ⟨_, rfl, fun x dx nx ndx nex => ⟨x, dx, z, rfl, upd_same, rfl, ?_⟩⟩
  -- thing = reader.read_any(MOST_DEEP)
  refine ⟨_, rfl, x, dx, _, rfl, upd_same, rf_no _ _ (by decide +kernel) (by decide +kernel), x, dx, z, [], z.cps.toList, [], v, _, rfl, (by simp), upd_same, hz, hit, (fun c r e => nomatch e), fun H3 hx3 bt3 => ?_⟩
  refine ⟨_, rfl, x, C, dx, _, _, rfl, hx3, T.cl, T.nP, rf_place _ _, _, rfl, z, rfl, by omega, rfl, _, rfl, ?_⟩
  have e2 : V.int ((([] : List Nat).length + z.cps.toList.length : Nat) : Int) = V.int ((z.length : Nat) : Int) := by rw [len_cps]; simp
  rw [decide_eq_true e2]
  refine iteF ⟨_, rfl, q H3 fun b o e => ?_⟩
  have e3 := sl b o e
  have nb1 : b ≠ x := ne_of_none e3 nx
  have nb2 : b ≠ dx := ne_of_none e3 ndx
  refine bt3 b o ?_ nb1
  rw [upd_ne nb1, upd_ne nb1, upd_ne nb1, upd_ne nb2]
  exact e3
end
end K21T

set_option maxHeartbeats 4000000
namespace K21
open PySem L2 Lo St
section
variable {P : Program} {w : World} {K : PySem.W.Frag} {mg : Str → Option Value} {base : Heap} {f CL : Addr} {fd : FuncData} {C : Kd → Addr} {CW : Wd → Addr}
/-! ### kinds of locks -/
theorem ok_rk (F : Fun K "kind" "Read.kind" m_Read_kind f fd) : FnOk P w K mg base CX0 1 f fd ["self"] (spKind .read) := by
  refine F.ok sc_Read_kind (fun vs H Q E h => ?_) (fun cdv A outer s H vs Q E hr h => ?_)
  · obtain ⟨v, rfl, _⟩ := h
    rfl
  obtain ⟨v, rfl, q⟩ := h
  exact ⟨_, pss_one (ps_ret pe_str), q⟩
theorem ok_mk (F : Fun K "kind" "Mean.kind" m_Mean_kind f fd) : FnOk P w K mg base CX0 1 f fd ["self"] (spKind .mean) := by
  refine F.ok sc_Mean_kind (fun vs H Q E h => ?_) (fun cdv A outer s H vs Q E hr h => ?_)
  · obtain ⟨v, rfl, _⟩ := h
    rfl
  obtain ⟨v, rfl, q⟩ := h
  exact ⟨_, pss_one (ps_ret pe_str), q⟩
theorem ok_ck (F : Fun K "kind" "Change.kind" m_Change_kind f fd) : FnOk P w K mg base CX0 1 f fd ["self"] (spKind .change) := by
  refine F.ok sc_Change_kind (fun vs H Q E h => ?_) (fun cdv A outer s H vs Q E hr h => ?_)
  · obtain ⟨v, rfl, _⟩ := h
    rfl
  obtain ⟨v, rfl, q⟩ := h
  exact ⟨_, pss_one (ps_ret pe_str), q⟩
theorem ok_linit (F : Fun K "__init__" "Lock.__init__" m_Lock_init f fd) (T : TxK K C) : FnOk P w K mg base CX0 1 f fd ["self", "first", "last"] (spLInit C) := by
  refine F.ok sc_Lock_init (fun vs H Q E h => ?_) (fun cdv A outer s H vs Q E hr h => ?_)
  · obtain ⟨a, dx, k, x, y, rfl, _⟩ := h
    rfl
  obtain ⟨a, dx, k, x, y, rfl, ha, q⟩ := h
  refine ⟨_, pss_cons (ps_fld (pv 0) (pv 1) rfl) (pss_one (ps_fld (pv 0) (pv 2) rfl)), ?_⟩
  exact ⟨_, rfl, _, rfl, a, C k, dx, [], rfl, ha, T.cl k, T.nF k, (by show 0 < 1000; decide), _, rfl, _, rfl, a, C k, dx, _, rfl, upd_same, T.cl k, T.nL k, (by show 1 < 1000; decide), q⟩
theorem ok_told (F : Fun K "told" "Lock.told" m_Lock_told f fd) (T : TxK K C) (GK : ∀ k, GM P w K mg base CX0 1 (C k) "kind" ["self"] (spKind k)) : FnOk P w K mg base CX0 2 f fd ["self"] (spTold C) := by
  refine F.ok sc_Lock_told (fun vs H Q E h => ?_) (fun cdv A outer s H vs Q E hr h => ?_)
  · obtain ⟨v, k, rfl, _⟩ := h
    rfl
  obtain ⟨v, k, rfl, ⟨a, dx, rfl, ha⟩, q⟩ := h
  refine ⟨_, pss_one (ps_ret (pe_tup (pa_cons (pm0 (GK k.1) (pv 0) (T.cl k.1) hr) (pa_cons (pe_fld (pv 0) rfl) (pa_cons (pe_fld (pv 0) rfl) pa_nil))))), ?_⟩
  refine ⟨_, rfl, a, dx, _, rfl, ha, lf_no _ _ (by decide +kernel) (by decide +kernel), _, rfl, ?_⟩
  exact ⟨_, rfl, a, _, dx, _, _, rfl, ha, T.cl _, T.nF _, lf_first _ _, _, rfl, a, _, dx, _, _, rfl, ha, T.cl _, T.nL _, lf_last _ _, (by show 3 ≤ sizeLine; decide), fun t ht => q t ht⟩
/-! ### the steps' classes -/
theorem kp2 {a : Addr} {H : Hp} {o1 o2 : HO} : Kp a H (upd (upd H a o1) a o2) := fun b o n e => by rw [upd_ne n, upd_ne n]; exact e
theorem ok_cinit (F : Fun K "__init__" "CellStep.__init__" m_CellStep_init f fd) (T : TxW K CW) : FnOk P w K mg base CX0 1 f fd ["self", "where", "cell"] (spCInit CW) := by
  refine F.ok sc_CellStep_init (fun vs H Q E h => ?_) (fun cdv A outer s H vs Q E hr h => ?_)
  · obtain ⟨a, dx, wd, x, y, rfl, _⟩ := h
    rfl
  obtain ⟨a, dx, wd, x, y, rfl, ha, q⟩ := h
  refine ⟨_, pss_cons (ps_fld (pv 0) (pv 1) rfl) (pss_one (ps_fld (pv 0) (pv 2) rfl)), ?_⟩
  exact ⟨_, rfl, _, rfl, a, CW wd, dx, [], rfl, ha, T.cl wd, T.nW wd, (by show 0 < 1000; decide), _, rfl, _, rfl, a, CW wd, dx, _, rfl, upd_same, T.cl wd, T.nC wd, (by show 1 < 1000; decide), q _ upd_same kp2⟩
/-- as it serves take, mean and give -/
theorem cinit_w {wd : Wd} (hw : isC wd = true) {vs : List V} {H : Hp} {Q : VK} {E : XK} (h : spWInit CW wd vs H Q E) : spCInit CW vs H Q E := by
  obtain ⟨a, dx, ns, rfl, ar, ha, q⟩ := h
  obtain ⟨x, y, rfl, _, _, e⟩ := ar.c hw
  exact ⟨a, dx, wd, x, y, rfl, ha, fun H' h1 h2 => q H' (by rw [e]; exact h1) h2⟩
theorem ok_sinit (F : Fun K "__init__" "SumStep.__init__" m_SumStep_init f fd) (T : TxW K CW) : FnOk P w K mg base CX0 1 f fd ["self", "where", "low", "high"] (spWInit CW .sum) := by
  refine F.ok sc_SumStep_init (fun vs H Q E h => ?_) (fun cdv A outer s H vs Q E hr h => ?_)
  · obtain ⟨a, dx, ns, rfl, ar, _⟩ := h
    obtain ⟨x, y, z, rfl, _⟩ := ar.s
    rfl
  obtain ⟨a, dx, ns, rfl, ar, ha, q⟩ := h
  obtain ⟨x, y, z, rfl, _⟩ := ar.s
  refine ⟨_, pss_cons (ps_fld (pv 0) (pv 1) rfl) (pss_cons (ps_fld (pv 0) (pv 2) rfl) (pss_one (ps_fld (pv 0) (pv 3) rfl))), ?_⟩
  exact ⟨_, rfl, _, rfl, a, CW .sum, dx, [], rfl, ha, T.cl _, T.nW _, (by show 0 < 1000; decide), _, rfl, _, rfl, a, CW .sum, dx, _, rfl, upd_same, T.cl _, T.nL _, (by show 1 < 1000; decide), _, rfl, _, rfl, a, CW .sum, dx, _, rfl, upd_same, T.cl _, T.nH _, Nat.lt_of_le_of_lt (length_putF _ _ _) (by show 1 + 1 < 1000; decide), q _ upd_same fun b o n e => by rw [upd_ne n, upd_ne n, upd_ne n]; exact e⟩
theorem ok_ainit {CC fC : Addr} {dC : FuncData} (F : Fun K "__init__" "AddStep.__init__" m_AddStep_init f fd) (T : TxW K CW) (mgC : mg "CellStep" = some (.ref CC)) (cf : ClsFn K CC "__init__" fC) (GC : FnOk P w K mg base CX0 1 fC dC ["self", "where", "cell"] (spCInit CW)) (bC : Binds K dC ["self", "where", "cell"] []) :
    FnOk P w K mg base CX0 2 f fd ["self", "where", "cell", "amount"] (spWInit CW .add) := by
  refine F.ok sc_AddStep_init (fun vs H Q E h => ?_) (fun cdv A outer s H vs Q E hr h => ?_)
  · obtain ⟨a, dx, ns, rfl, ar, _⟩ := h
    obtain ⟨x, y, z, rfl, _⟩ := ar.a
    rfl
  obtain ⟨a, dx, ns, rfl, ar, ha, q⟩ := h
  obtain ⟨x, y, z, rfl, _⟩ := ar.a
  refine ⟨_, pss_cons (ps_expr (pe_clsm (pe_glob (v := .ref CC) rfl mgC rfl) cf GC hr bC pass0 (pa_cons (pv 0) (pa_cons (pv 1) (pa_cons (pv 2) pa_nil))))) (pss_one (ps_fld (pv 0) (pv 3) rfl)), ?_⟩
  refine ⟨_, rfl, _, rfl, _, rfl, a, dx, .add, x, y, rfl, ha, fun H' h1 h2 => ?_⟩
  exact ⟨_, rfl, _, rfl, a, CW .add, dx, _, rfl, h1, T.cl _, T.nA _, Nat.lt_of_le_of_lt (length_putF _ _ _) (by show 1 + 1 < 1000; decide), q _ upd_same fun b o n e => by rw [upd_ne n]; exact h2 b o n e⟩
theorem ok_pinit (F : Fun K "__init__" "PlusStep.__init__" m_PlusStep_init f fd) (T : TxW K CW) : FnOk P w K mg base CX0 1 f fd ["self", "amount"] (spWInit CW .plus) := by
  refine F.ok sc_PlusStep_init (fun vs H Q E h => ?_) (fun cdv A outer s H vs Q E hr h => ?_)
  · obtain ⟨a, dx, ns, rfl, ar, _⟩ := h
    obtain ⟨x, rfl, _⟩ := ar.p
    rfl
  obtain ⟨a, dx, ns, rfl, ar, ha, q⟩ := h
  obtain ⟨x, rfl, _⟩ := ar.p
  refine ⟨_, pss_one (ps_fld (pv 0) (pv 1) rfl), ?_⟩
  exact ⟨_, rfl, _, rfl, a, CW .plus, dx, [], rfl, ha, T.cl _, T.nA _, (by show 0 < 1000; decide), q _ upd_same kp_upd⟩
theorem ok_ninit (F : Fun K "__init__" "NeedStep.__init__" m_NeedStep_init f fd) (T : TxW K CW) : FnOk P w K mg base CX0 1 f fd ["self", "amount"] (spWInit CW .need) := by
  refine F.ok sc_NeedStep_init (fun vs H Q E h => ?_) (fun cdv A outer s H vs Q E hr h => ?_)
  · obtain ⟨a, dx, ns, rfl, ar, _⟩ := h
    obtain ⟨x, rfl, _⟩ := ar.n
    rfl
  obtain ⟨a, dx, ns, rfl, ar, ha, q⟩ := h
  obtain ⟨x, rfl, _⟩ := ar.n
  refine ⟨_, pss_one (ps_fld (pv 0) (pv 1) rfl), ?_⟩
  exact ⟨_, rfl, _, rfl, a, CW .need, dx, [], rfl, ha, T.cl _, T.nA _, (by show 0 < 1000; decide), q _ upd_same kp_upd⟩
/-! ### house -/
theorem ok_hnone {wd : Wd} (hw : wd = .plus ∨ wd = .need) (F : Fun K "house" "Step.house" m_Step_house f fd) : FnOk P w K mg base CX0 1 f fd ["self"] (spHouse CW wd) := by
  refine F.ok sc_Step_house (fun vs H Q E h => ?_) (fun cdv A outer s H vs Q E hr h => ?_)
  · obtain ⟨v, ns, rfl, _⟩ := h
    rfl
  obtain ⟨v, ns, rfl, ar, st, q⟩ := h
  refine ⟨_, pss_one (ps_ret pe_non), ?_⟩
  rcases hw with rfl | rfl <;> exact q
theorem ok_hcell {wd : Wd} (hw : isC wd = true ∨ wd = .add) (F : Fun K "house" "CellStep.house" m_CellStep_house f fd) (T : TxW K CW) : FnOk P w K mg base CX0 1 f fd ["self"] (spHouse CW wd) := by
  refine F.ok sc_CellStep_house (fun vs H Q E h => ?_) (fun cdv A outer s H vs Q E hr h => ?_)
  · obtain ⟨v, ns, rfl, _⟩ := h
    rfl
  obtain ⟨v, ns, rfl, ar, ⟨a, dx, rfl, ha⟩, q⟩ := h
  refine ⟨_, pss_one (ps_ret (pe_fld (pv 0) rfl)), ?_⟩
  rcases hw with hw | rfl
  · obtain ⟨x, y, rfl, _, _, e⟩ := ar.c hw
    rw [e] at ha
    refine ⟨_, rfl, a, CW wd, dx, _, _, rfl, ha, T.cl _, T.nW _, by rw [lk_miss (by decide +kernel), lk_hit], ?_⟩
    cases wd <;> first | exact q | cases hw
  · obtain ⟨x, y, z, rfl, _⟩ := ar.a
    exact ⟨_, rfl, a, CW .add, dx, _, _, rfl, ha, T.cl _, T.nW _, (by show (putF "amount" _ (putF "cell" _ (putF "where" _ []))).lookup _ = _; rw [lk_miss (by decide +kernel), lk_miss (by decide +kernel), lk_hit]; rfl), q⟩
theorem ok_hsum (F : Fun K "house" "SumStep.house" m_SumStep_house f fd) (T : TxW K CW) : FnOk P w K mg base CX0 1 f fd ["self"] (spHouse CW .sum) := by
  refine F.ok sc_SumStep_house (fun vs H Q E h => ?_) (fun cdv A outer s H vs Q E hr h => ?_)
  · obtain ⟨v, ns, rfl, _⟩ := h
    rfl
  obtain ⟨v, ns, rfl, ar, ⟨a, dx, rfl, ha⟩, q⟩ := h
  obtain ⟨x, y, z, rfl, _⟩ := ar.s
  refine ⟨_, pss_one (ps_ret (pe_fld (pv 0) rfl)), ?_⟩
  exact ⟨_, rfl, a, CW .sum, dx, _, _, rfl, ha, T.cl _, T.nW _, (by show (putF "high" _ (putF "low" _ (putF "where" _ []))).lookup _ = _; rw [lk_miss (by decide +kernel), lk_miss (by decide +kernel), lk_hit]; rfl), q⟩
/-! ### sure -/
theorem ok_snone {wd : Wd} (hw : wd ≠ .give) (F : Fun K "sure" "Step.sure" m_Step_sure f fd) : FnOk P w K mg base CX0 1 f fd ["self"] (spSure wd) := by
  refine F.ok sc_Step_sure (fun vs H Q E h => ?_) (fun cdv A outer s H vs Q E hr h => ?_)
  · obtain ⟨v, rfl, _⟩ := h
    rfl
  obtain ⟨v, rfl, q⟩ := h
  rw [decide_eq_false hw] at q
  exact ⟨_, pss_one (ps_ret pe_bl), q⟩
theorem ok_sgive (F : Fun K "sure" "GiveStep.sure" m_GiveStep_sure f fd) : FnOk P w K mg base CX0 1 f fd ["self"] (spSure .give) := by
  refine F.ok sc_GiveStep_sure (fun vs H Q E h => ?_) (fun cdv A outer s H vs Q E hr h => ?_)
  · obtain ⟨v, rfl, _⟩ := h
    rfl
  obtain ⟨v, rfl, q⟩ := h
  exact ⟨_, pss_one (ps_ret pe_bl), q⟩
end
end K21

set_option maxHeartbeats 4000000
namespace K21
open PySem L2 Lo St
section
variable {P : Program} {w : World} {K : PySem.W.Frag} {mg : Str → Option Value} {base : Heap} {f CL : Addr} {fd : FuncData} {C : Kd → Addr} {CW : Wd → Addr}
/-! ### lock -/
theorem ok_ltake (F : Fun K "lock" "TakeStep.lock" m_TakeStep_lock f fd) (W : TxW K CW) (T : TxK K C) (mgC : ∀ k, mg (kdN k) = some (.ref (C k))) {fI : Addr} {dI : FuncData} (M : ∀ k, Mk K (C k) fI)
    (GI : FnOk P w K mg base CX0 1 fI dI ["self", "first", "last"] (spLInit C)) (bI : Binds K dI ["self", "first", "last"] []) (GT : ∀ k, GM P w K mg base CX0 2 (C k) "told" ["self"] (spTold C)) : FnOk P w K mg base CX0 3 f fd ["self"] (spSLock CW K .take) := by
  refine F.ok sc_TakeStep_lock (fun vs H Q E h => ?_) (fun cdv A outer s H vs Q E hr h => ?_)
  · obtain ⟨v, ns, rfl, _⟩ := h
    rfl
  obtain ⟨v, ns, rfl, ar, ⟨a, dx, rfl, ha⟩, q⟩ := h
  obtain ⟨x, y, rfl, _, _, e⟩ := ar.c rfl
  rw [e] at ha
  have hr1 : Room (1 + 1) _ := hr
  refine ⟨_, pss_one (ps_ret (pm0 (GT .read) (pe_make (M .read) GI hr1 rfl (mgC .read) bI .nil pass0 (pa_cons (pe_fld (pv 0) rfl) (pa_cons (pe_fld (pv 0) rfl) pa_nil))) (T.cl .read) hr)), ?_⟩
  refine ⟨_, rfl, a, _, dx, _, _, rfl, ha, W.cl _, W.nC _, lk_hit, _, rfl, a, _, dx, _, _, rfl, ha, W.cl _, W.nC _, lk_hit, fun z dz nz ndz nez => ⟨z, dz, .read, y, y, rfl, upd_same, rfl, z, dz, _, rfl, upd_same, lf_no _ _ (by decide +kernel) (by decide +kernel), _, (.read, y, y), rfl, ⟨z, dz, rfl, upd_same⟩, fun t ht => ?_⟩⟩
  exact q _ _ ((mk_same nz ndz).trans (same_new ht)) ⟨t, rfl, upd_same⟩
theorem ok_lmean (F : Fun K "lock" "MeanStep.lock" m_MeanStep_lock f fd) (W : TxW K CW) (T : TxK K C) (mgC : ∀ k, mg (kdN k) = some (.ref (C k))) {fI : Addr} {dI : FuncData} (M : ∀ k, Mk K (C k) fI)
    (GI : FnOk P w K mg base CX0 1 fI dI ["self", "first", "last"] (spLInit C)) (bI : Binds K dI ["self", "first", "last"] []) (GT : ∀ k, GM P w K mg base CX0 2 (C k) "told" ["self"] (spTold C)) : FnOk P w K mg base CX0 3 f fd ["self"] (spSLock CW K .mean) := by
  refine F.ok sc_MeanStep_lock (fun vs H Q E h => ?_) (fun cdv A outer s H vs Q E hr h => ?_)
  · obtain ⟨v, ns, rfl, _⟩ := h
    rfl
  obtain ⟨v, ns, rfl, ar, ⟨a, dx, rfl, ha⟩, q⟩ := h
  obtain ⟨x, y, rfl, _, _, e⟩ := ar.c rfl
  rw [e] at ha
  have hr1 : Room (1 + 1) _ := hr
  refine ⟨_, pss_one (ps_ret (pm0 (GT .mean) (pe_make (M .mean) GI hr1 rfl (mgC .mean) bI .nil pass0 (pa_cons (pe_fld (pv 0) rfl) (pa_cons (pe_fld (pv 0) rfl) pa_nil))) (T.cl .mean) hr)), ?_⟩
  refine ⟨_, rfl, a, _, dx, _, _, rfl, ha, W.cl _, W.nC _, lk_hit, _, rfl, a, _, dx, _, _, rfl, ha, W.cl _, W.nC _, lk_hit, fun z dz nz ndz nez => ⟨z, dz, .mean, y, y, rfl, upd_same, rfl, z, dz, _, rfl, upd_same, lf_no _ _ (by decide +kernel) (by decide +kernel), _, (.mean, y, y), rfl, ⟨z, dz, rfl, upd_same⟩, fun t ht => ?_⟩⟩
  exact q _ _ ((mk_same nz ndz).trans (same_new ht)) ⟨t, rfl, upd_same⟩
theorem ok_lgive (F : Fun K "lock" "GiveStep.lock" m_GiveStep_lock f fd) (W : TxW K CW) (T : TxK K C) (mgC : ∀ k, mg (kdN k) = some (.ref (C k))) {fI : Addr} {dI : FuncData} (M : ∀ k, Mk K (C k) fI)
    (GI : FnOk P w K mg base CX0 1 fI dI ["self", "first", "last"] (spLInit C)) (bI : Binds K dI ["self", "first", "last"] []) (GT : ∀ k, GM P w K mg base CX0 2 (C k) "told" ["self"] (spTold C)) : FnOk P w K mg base CX0 3 f fd ["self"] (spSLock CW K .give) := by
  refine F.ok sc_GiveStep_lock (fun vs H Q E h => ?_) (fun cdv A outer s H vs Q E hr h => ?_)
  · obtain ⟨v, ns, rfl, _⟩ := h
    rfl
  obtain ⟨v, ns, rfl, ar, ⟨a, dx, rfl, ha⟩, q⟩ := h
  obtain ⟨x, y, rfl, _, _, e⟩ := ar.c rfl
  rw [e] at ha
  have hr1 : Room (1 + 1) _ := hr
  refine ⟨_, pss_one (ps_ret (pm0 (GT .change) (pe_make (M .change) GI hr1 rfl (mgC .change) bI .nil pass0 (pa_cons (pe_fld (pv 0) rfl) (pa_cons (pe_fld (pv 0) rfl) pa_nil))) (T.cl .change) hr)), ?_⟩
  refine ⟨_, rfl, a, _, dx, _, _, rfl, ha, W.cl _, W.nC _, lk_hit, _, rfl, a, _, dx, _, _, rfl, ha, W.cl _, W.nC _, lk_hit, fun z dz nz ndz nez => ⟨z, dz, .change, y, y, rfl, upd_same, rfl, z, dz, _, rfl, upd_same, lf_no _ _ (by decide +kernel) (by decide +kernel), _, (.change, y, y), rfl, ⟨z, dz, rfl, upd_same⟩, fun t ht => ?_⟩⟩
  exact q _ _ ((mk_same nz ndz).trans (same_new ht)) ⟨t, rfl, upd_same⟩
theorem ok_ladd (F : Fun K "lock" "AddStep.lock" m_AddStep_lock f fd) (W : TxW K CW) (T : TxK K C) (mgC : ∀ k, mg (kdN k) = some (.ref (C k))) {fI : Addr} {dI : FuncData} (M : ∀ k, Mk K (C k) fI)
    (GI : FnOk P w K mg base CX0 1 fI dI ["self", "first", "last"] (spLInit C)) (bI : Binds K dI ["self", "first", "last"] []) (GT : ∀ k, GM P w K mg base CX0 2 (C k) "told" ["self"] (spTold C)) : FnOk P w K mg base CX0 3 f fd ["self"] (spSLock CW K .add) := by
  refine F.ok sc_AddStep_lock (fun vs H Q E h => ?_) (fun cdv A outer s H vs Q E hr h => ?_)
  · obtain ⟨v, ns, rfl, _⟩ := h
    rfl
  obtain ⟨v, ns, rfl, ar, ⟨a, dx, rfl, ha⟩, q⟩ := h
  obtain ⟨x, y, z0, rfl, _⟩ := ar.a
  have hr1 : Room (1 + 1) _ := hr
  refine ⟨_, pss_one (ps_ret (pm0 (GT .change) (pe_make (M .change) GI hr1 rfl (mgC .change) bI .nil pass0 (pa_cons (pe_fld (pv 0) rfl) (pa_cons (pe_fld (pv 0) rfl) pa_nil))) (T.cl .change) hr)), ?_⟩
  refine ⟨_, rfl, a, _, dx, _, _, rfl, ha, W.cl _, W.nC _, (by show (putF "amount" _ (putF "cell" _ (putF "where" _ []))).lookup _ = _; rw [lk_miss (by decide +kernel), lk_hit]), _, rfl, a, _, dx, _, _, rfl, ha, W.cl _, W.nC _, (by show (putF "amount" _ (putF "cell" _ (putF "where" _ []))).lookup _ = _; rw [lk_miss (by decide +kernel), lk_hit]), fun z dz nz ndz nez => ⟨z, dz, .change, y, y, rfl, upd_same, rfl, z, dz, _, rfl, upd_same, lf_no _ _ (by decide +kernel) (by decide +kernel), _, (.change, y, y), rfl, ⟨z, dz, rfl, upd_same⟩, fun t ht => ?_⟩⟩
  exact q _ _ ((mk_same nz ndz).trans (same_new ht)) ⟨t, rfl, upd_same⟩
theorem ok_lsum (F : Fun K "lock" "SumStep.lock" m_SumStep_lock f fd) (W : TxW K CW) (T : TxK K C) (mgC : ∀ k, mg (kdN k) = some (.ref (C k))) {fI : Addr} {dI : FuncData} (M : ∀ k, Mk K (C k) fI)
    (GI : FnOk P w K mg base CX0 1 fI dI ["self", "first", "last"] (spLInit C)) (bI : Binds K dI ["self", "first", "last"] []) (GT : ∀ k, GM P w K mg base CX0 2 (C k) "told" ["self"] (spTold C)) : FnOk P w K mg base CX0 3 f fd ["self"] (spSLock CW K .sum) := by
  refine F.ok sc_SumStep_lock (fun vs H Q E h => ?_) (fun cdv A outer s H vs Q E hr h => ?_)
  · obtain ⟨v, ns, rfl, _⟩ := h
    rfl
  obtain ⟨v, ns, rfl, ar, ⟨a, dx, rfl, ha⟩, q⟩ := h
  obtain ⟨x, y, y2, rfl, _⟩ := ar.s
  have hr1 : Room (1 + 1) _ := hr
  refine ⟨_, pss_one (ps_ret (pm0 (GT .read) (pe_make (M .read) GI hr1 rfl (mgC .read) bI .nil pass0 (pa_cons (pe_fld (pv 0) rfl) (pa_cons (pe_fld (pv 0) rfl) pa_nil))) (T.cl .read) hr)), ?_⟩
  refine ⟨_, rfl, a, _, dx, _, _, rfl, ha, W.cl _, W.nL _, (by show (putF "high" _ (putF "low" _ (putF "where" _ []))).lookup _ = _; rw [lk_miss (by decide +kernel), lk_hit]), _, rfl, a, _, dx, _, _, rfl, ha, W.cl _, W.nH _, lk_hit, fun z dz nz ndz nez => ⟨z, dz, .read, y, y2, rfl, upd_same, rfl, z, dz, _, rfl, upd_same, lf_no _ _ (by decide +kernel) (by decide +kernel), _, (.read, y, y2), rfl, ⟨z, dz, rfl, upd_same⟩, fun t ht => ?_⟩⟩
  exact q _ _ ((mk_same nz ndz).trans (same_new ht)) ⟨t, rfl, upd_same⟩
theorem ok_lnone {wd : Wd} (hw : wd = .plus ∨ wd = .need) (F : Fun K "lock" "Step.lock" m_Step_lock f fd) : FnOk P w K mg base CX0 1 f fd ["self"] (spSLock CW K wd) := by
  refine F.ok sc_Step_lock (fun vs H Q E h => ?_) (fun cdv A outer s H vs Q E hr h => ?_)
  · obtain ⟨v, ns, rfl, _⟩ := h
    rfl
  obtain ⟨v, ns, rfl, ar, st, q⟩ := h
  refine ⟨_, pss_one (ps_ret pe_non), ?_⟩
  have e : lockO wd ns = none := by rcases hw with rfl | rfl <;> rfl
  rw [e] at q
  exact q .non H (Same.refl H) rfl
/-! ### spelled -/
theorem ok_spell (F : Fun K "spell" "spell" s_spell f fd) (GS : GF P w K mg base CX0 2 "shown" ["thing"] K21T.spShown) : FnOk P w K mg base CX0 3 f fd ["word", "numbers"] spSpell := by
  refine F.ok sc_spell (fun vs H Q E h => ?_) (fun cdv A outer s H vs Q E hr h => ?_)
  · obtain ⟨wd, b, ns, rfl, _⟩ := h
    rfl
  obtain ⟨wd, b, ns, rfl, hb, ar, q⟩ := h
  have hl3 := ar.len
  refine ⟨_, pss_one (ps_ret (pe_bm PySem.F.plainAttrs_str PySem.F.slot_str_join PySem.F.type_str_join mt_join pe_str (pa_cons (pe_op op_cat (pe_lst (pa_cons (pv 0) pa_nil)) (pe_lc sb_spell_0 rfl (pi_list (pv 1)) (fun _ _ _ _ => pts_nil) (fun _ _ _ _ => pc GS hr (pa_cons (pv 0) pa_nil)))) pa_nil))), ?_⟩
  refine ⟨rfl, _, rfl, (by show 1 ≤ sizeLine; decide), fun l hl => ?_⟩
  have s1 : Same H _ := same_new (o := .lst [.str (wS wd)]) hl
  refine ⟨_, rfl, b, rfl, ⟨_, SqL.of (s1 _ _ hb)⟩, ?_⟩
  refine lc_ints (g := fun i => V.str (iS i)) (ns := ns) (SqL.of (s1 _ _ hb)) (Nat.le_trans hl3.2 (by decide)) (fun i H1 Q hi s2 h => ?_) (fun H1 s2 p hp => ?_)
  · exact ⟨_, rfl, .inl ⟨i, rfl, log_v (ar.all i hi), h H1 (Same.refl _)⟩⟩
  · have el : H1 l = some (.lst [.str (wS wd)]) := s2 _ _ upd_same
    refine ⟨l, p, _, _, rfl, rfl, same_new hp _ _ el, upd_same, ?_, fun p2 hp2 => ?_⟩
    · have h5 : (ns.map fun i => V.str (iS i)).length = ns.length := List.length_map _
      have h6 : ([V.str (wS wd)] : List V).length = 1 := rfl
      have h7 : (4 : Nat) ≤ sizeLine := by decide
      omega
    · have e : ([V.str (wS wd)] ++ ns.map fun i => V.str (iS i)) = (wS wd :: ns.map iS).map V.str := by simp
      refine ⟨_, p2, wS wd :: ns.map iS, rfl, rfl, SqL.of (by rw [upd_same, e]), Nat.le_trans (words_sum ar) (by decide), ?_⟩
      exact q _ (s1.trans (s2.trans ((same_new hp).trans (same_new hp2))))
theorem ok_ptake (F : Fun K "spelled" "TakeStep.spelled" m_TakeStep_spelled f fd) (W : TxW K CW) (GP : GF P w K mg base CX0 3 "spell" ["word", "numbers"] spSpell) : FnOk P w K mg base CX0 4 f fd ["self"] (spSpelled CW .take) := by
  refine F.ok sc_TakeStep_spelled (fun vs H Q E h => ?_) (fun cdv A outer s H vs Q E hr h => ?_)
  · obtain ⟨v, ns, rfl, _⟩ := h
    rfl
  obtain ⟨v, ns, rfl, ar, ⟨a, dx, rfl, ha⟩, q⟩ := h
  obtain ⟨x, y, rfl, _, _, e⟩ := ar.c rfl
  rw [e] at ha
  refine ⟨_, pss_one (ps_ret (pc GP hr (pa_cons pe_str (pa_cons (pe_lst (pa_cons (pe_fld (pv 0) rfl) (pa_cons (pe_fld (pv 0) rfl) pa_nil))) pa_nil)))), ?_⟩
  refine ⟨_, rfl, a, _, dx, _, _, rfl, ha, W.cl _, W.nW _, (by show (putF "cell" _ (putF "where" _ [])).lookup _ = _; rw [lk_miss (by decide +kernel), lk_hit]), _, rfl, a, _, dx, _, _, rfl, ha, W.cl _, W.nC _, (by show (putF "cell" _ (putF "where" _ [])).lookup _ = _; rw [lk_hit]), (by show 2 ≤ sizeLine; decide), fun l hl => ?_⟩
  exact ⟨.take, l, _, rfl, upd_same, ar, fun H' s' => q H' ((same_new hl).trans s')⟩
theorem ok_pmean (F : Fun K "spelled" "MeanStep.spelled" m_MeanStep_spelled f fd) (W : TxW K CW) (GP : GF P w K mg base CX0 3 "spell" ["word", "numbers"] spSpell) : FnOk P w K mg base CX0 4 f fd ["self"] (spSpelled CW .mean) := by
  refine F.ok sc_MeanStep_spelled (fun vs H Q E h => ?_) (fun cdv A outer s H vs Q E hr h => ?_)
  · obtain ⟨v, ns, rfl, _⟩ := h
    rfl
  obtain ⟨v, ns, rfl, ar, ⟨a, dx, rfl, ha⟩, q⟩ := h
  obtain ⟨x, y, rfl, _, _, e⟩ := ar.c rfl
  rw [e] at ha
  refine ⟨_, pss_one (ps_ret (pc GP hr (pa_cons pe_str (pa_cons (pe_lst (pa_cons (pe_fld (pv 0) rfl) (pa_cons (pe_fld (pv 0) rfl) pa_nil))) pa_nil)))), ?_⟩
  refine ⟨_, rfl, a, _, dx, _, _, rfl, ha, W.cl _, W.nW _, (by show (putF "cell" _ (putF "where" _ [])).lookup _ = _; rw [lk_miss (by decide +kernel), lk_hit]), _, rfl, a, _, dx, _, _, rfl, ha, W.cl _, W.nC _, (by show (putF "cell" _ (putF "where" _ [])).lookup _ = _; rw [lk_hit]), (by show 2 ≤ sizeLine; decide), fun l hl => ?_⟩
  exact ⟨.mean, l, _, rfl, upd_same, ar, fun H' s' => q H' ((same_new hl).trans s')⟩
theorem ok_pgive (F : Fun K "spelled" "GiveStep.spelled" m_GiveStep_spelled f fd) (W : TxW K CW) (GP : GF P w K mg base CX0 3 "spell" ["word", "numbers"] spSpell) : FnOk P w K mg base CX0 4 f fd ["self"] (spSpelled CW .give) := by
  refine F.ok sc_GiveStep_spelled (fun vs H Q E h => ?_) (fun cdv A outer s H vs Q E hr h => ?_)
  · obtain ⟨v, ns, rfl, _⟩ := h
    rfl
  obtain ⟨v, ns, rfl, ar, ⟨a, dx, rfl, ha⟩, q⟩ := h
  obtain ⟨x, y, rfl, _, _, e⟩ := ar.c rfl
  rw [e] at ha
  refine ⟨_, pss_one (ps_ret (pc GP hr (pa_cons pe_str (pa_cons (pe_lst (pa_cons (pe_fld (pv 0) rfl) (pa_cons (pe_fld (pv 0) rfl) pa_nil))) pa_nil)))), ?_⟩
  refine ⟨_, rfl, a, _, dx, _, _, rfl, ha, W.cl _, W.nW _, (by show (putF "cell" _ (putF "where" _ [])).lookup _ = _; rw [lk_miss (by decide +kernel), lk_hit]), _, rfl, a, _, dx, _, _, rfl, ha, W.cl _, W.nC _, (by show (putF "cell" _ (putF "where" _ [])).lookup _ = _; rw [lk_hit]), (by show 2 ≤ sizeLine; decide), fun l hl => ?_⟩
  exact ⟨.give, l, _, rfl, upd_same, ar, fun H' s' => q H' ((same_new hl).trans s')⟩
theorem ok_psum (F : Fun K "spelled" "SumStep.spelled" m_SumStep_spelled f fd) (W : TxW K CW) (GP : GF P w K mg base CX0 3 "spell" ["word", "numbers"] spSpell) : FnOk P w K mg base CX0 4 f fd ["self"] (spSpelled CW .sum) := by
  refine F.ok sc_SumStep_spelled (fun vs H Q E h => ?_) (fun cdv A outer s H vs Q E hr h => ?_)
  · obtain ⟨v, ns, rfl, _⟩ := h
    rfl
  obtain ⟨v, ns, rfl, ar, ⟨a, dx, rfl, ha⟩, q⟩ := h
  obtain ⟨x, y, z0, rfl, _⟩ := ar.s
  refine ⟨_, pss_one (ps_ret (pc GP hr (pa_cons pe_str (pa_cons (pe_lst (pa_cons (pe_fld (pv 0) rfl) (pa_cons (pe_fld (pv 0) rfl) (pa_cons (pe_fld (pv 0) rfl) pa_nil)))) pa_nil)))), ?_⟩
  refine ⟨_, rfl, a, _, dx, _, _, rfl, ha, W.cl _, W.nW _, (by show (putF "high" _ (putF "low" _ (putF "where" _ []))).lookup _ = _; rw [lk_miss (by decide +kernel), lk_miss (by decide +kernel), lk_hit]), _, rfl, a, _, dx, _, _, rfl, ha, W.cl _, W.nL _, (by show (putF "high" _ (putF "low" _ (putF "where" _ []))).lookup _ = _; rw [lk_miss (by decide +kernel), lk_hit]), _, rfl, a, _, dx, _, _, rfl, ha, W.cl _, W.nH _, (by show (putF "high" _ (putF "low" _ (putF "where" _ []))).lookup _ = _; rw [lk_hit]), (by show 3 ≤ sizeLine; decide), fun l hl => ?_⟩
  exact ⟨.sum, l, _, rfl, upd_same, ar, fun H' s' => q H' ((same_new hl).trans s')⟩
theorem ok_padd (F : Fun K "spelled" "AddStep.spelled" m_AddStep_spelled f fd) (W : TxW K CW) (GP : GF P w K mg base CX0 3 "spell" ["word", "numbers"] spSpell) : FnOk P w K mg base CX0 4 f fd ["self"] (spSpelled CW .add) := by
  refine F.ok sc_AddStep_spelled (fun vs H Q E h => ?_) (fun cdv A outer s H vs Q E hr h => ?_)
  · obtain ⟨v, ns, rfl, _⟩ := h
    rfl
  obtain ⟨v, ns, rfl, ar, ⟨a, dx, rfl, ha⟩, q⟩ := h
  obtain ⟨x, y, z0, rfl, _⟩ := ar.a
  refine ⟨_, pss_one (ps_ret (pc GP hr (pa_cons pe_str (pa_cons (pe_lst (pa_cons (pe_fld (pv 0) rfl) (pa_cons (pe_fld (pv 0) rfl) (pa_cons (pe_fld (pv 0) rfl) pa_nil)))) pa_nil)))), ?_⟩
  refine ⟨_, rfl, a, _, dx, _, _, rfl, ha, W.cl _, W.nW _, (by show (putF "amount" _ (putF "cell" _ (putF "where" _ []))).lookup _ = _; rw [lk_miss (by decide +kernel), lk_miss (by decide +kernel), lk_hit]), _, rfl, a, _, dx, _, _, rfl, ha, W.cl _, W.nC _, (by show (putF "amount" _ (putF "cell" _ (putF "where" _ []))).lookup _ = _; rw [lk_miss (by decide +kernel), lk_hit]), _, rfl, a, _, dx, _, _, rfl, ha, W.cl _, W.nA _, (by show (putF "amount" _ (putF "cell" _ (putF "where" _ []))).lookup _ = _; rw [lk_hit]), (by show 3 ≤ sizeLine; decide), fun l hl => ?_⟩
  exact ⟨.add, l, _, rfl, upd_same, ar, fun H' s' => q H' ((same_new hl).trans s')⟩
theorem ok_pplus (F : Fun K "spelled" "PlusStep.spelled" m_PlusStep_spelled f fd) (W : TxW K CW) (GP : GF P w K mg base CX0 3 "spell" ["word", "numbers"] spSpell) : FnOk P w K mg base CX0 4 f fd ["self"] (spSpelled CW .plus) := by
  refine F.ok sc_PlusStep_spelled (fun vs H Q E h => ?_) (fun cdv A outer s H vs Q E hr h => ?_)
  · obtain ⟨v, ns, rfl, _⟩ := h
    rfl
  obtain ⟨v, ns, rfl, ar, ⟨a, dx, rfl, ha⟩, q⟩ := h
  obtain ⟨x, rfl, _⟩ := ar.p
  refine ⟨_, pss_one (ps_ret (pc GP hr (pa_cons pe_str (pa_cons (pe_lst (pa_cons (pe_fld (pv 0) rfl) pa_nil)) pa_nil)))), ?_⟩
  refine ⟨_, rfl, a, _, dx, _, _, rfl, ha, W.cl _, W.nA _, (by show (putF "amount" _ []).lookup _ = _; rw [lk_hit]), (by show 1 ≤ sizeLine; decide), fun l hl => ?_⟩
  exact ⟨.plus, l, _, rfl, upd_same, ar, fun H' s' => q H' ((same_new hl).trans s')⟩
theorem ok_pneed (F : Fun K "spelled" "NeedStep.spelled" m_NeedStep_spelled f fd) (W : TxW K CW) (GP : GF P w K mg base CX0 3 "spell" ["word", "numbers"] spSpell) : FnOk P w K mg base CX0 4 f fd ["self"] (spSpelled CW .need) := by
  refine F.ok sc_NeedStep_spelled (fun vs H Q E h => ?_) (fun cdv A outer s H vs Q E hr h => ?_)
  · obtain ⟨v, ns, rfl, _⟩ := h
    rfl
  obtain ⟨v, ns, rfl, ar, ⟨a, dx, rfl, ha⟩, q⟩ := h
  obtain ⟨x, rfl, _⟩ := ar.n
  refine ⟨_, pss_one (ps_ret (pc GP hr (pa_cons pe_str (pa_cons (pe_lst (pa_cons (pe_fld (pv 0) rfl) pa_nil)) pa_nil)))), ?_⟩
  refine ⟨_, rfl, a, _, dx, _, _, rfl, ha, W.cl _, W.nA _, (by show (putF "amount" _ []).lookup _ = _; rw [lk_hit]), (by show 1 ≤ sizeLine; decide), fun l hl => ?_⟩
  exact ⟨.need, l, _, rfl, upd_same, ar, fun H' s' => q H' ((same_new hl).trans s')⟩
end
end K21

set_option maxHeartbeats 4000000
namespace K21
open PySem L2 Lo St
section
variable {P : Program} {w : World} {K : PySem.W.Frag} {mg : Str → Option Value} {base : Heap} {f CL : Addr} {fd : FuncData} {C : Kd → Addr} {CW : Wd → Addr}
/-! ### made_step -/
theorem ok_msum (F : Fun K "made_sum" "made_sum" s_made_sum f fd) (I : WI P w K mg base CW .sum) : FnOk P w K mg base CX0 4 f fd ["where", "low", "high"] (spMSum CW) := by
  refine F.ok sc_made_sum (fun vs H Q E h => ?_) (fun cdv A outer s H vs Q E hr h => ?_)
  · obtain ⟨x, y, z, rfl, _⟩ := h
    rfl
  obtain ⟨x, y, z, rfl, ar, q⟩ := h
  have hr1 : Room (2 + 1) _ := hr
  refine ⟨_, pss_cons (ps_if (pt_cmpR op_gt (pv 1) (pv 2) (nomark _)) pss_never pss_nil) (pss_one (ps_ret (pe_make I.M I.ok hr1 rfl I.m I.b .nil pass0 (pa_cons (pv 0) (pa_cons (pv 1) (pa_cons (pv 2) pa_nil)))))), ?_⟩
  have hle : y ≤ z := ar.2.2.2
  refine ⟨_, rfl, _, rfl, _, _, rfl, rfl, _, rfl, ite2 (fun c => absurd (of_decide_eq_true c) (show ¬ z < y by omega)) (fun _ => ?_)⟩
  exact ⟨_, rfl, _, rfl, _, rfl, fun p dp np ndp nep => ⟨p, dp, [x, y, z], rfl, ar, upd_same, fun H' h1 h2 => ⟨rfl, q _ H' (mk_kp np ndp h2) ⟨p, dp, rfl, h1⟩⟩⟩⟩
theorem ok_mstep (F : Fun K "made_step" "made_step" s_made_step f fd) (I : ∀ wd, WI P w K mg base CW wd) (GS : GF P w K mg base CX0 4 "made_sum" ["where", "low", "high"] (spMSum CW)) : FnOk P w K mg base CX0 5 f fd ["word", "numbers"] (spMade CW) := by
  refine F.ok sc_made_step (fun vs H Q E h => ?_) (fun cdv A outer s H vs Q E hr h => ?_)
  · obtain ⟨wd, b, ns, rfl, _⟩ := h
    rfl
  obtain ⟨wd, b, ns, rfl, hb, ar, q⟩ := h
  have hr1 : Room (2 + 1) _ := hr.mono (by decide)
  refine ⟨_, (pss_cons (ps_if (pt_cmpR op_eq (pv 0) pe_str (nomark _)) (pss_one (ps_ret (pe_make (I .take).M (I .take).ok hr1 rfl (I .take).m (I .take).b .nil pass0 (pa_cons (pe_ix (r := rIxL K) ix_list (pv 1) pe_int (fun _ _ => rfl)) (pa_cons (pe_ix (r := rIxL K) ix_list (pv 1) pe_int (fun _ _ => rfl)) pa_nil))))) pss_nil)
    (pss_cons (ps_if (pt_cmpR op_eq (pv 0) pe_str (nomark _)) (pss_one (ps_ret (pe_make (I .mean).M (I .mean).ok hr1 rfl (I .mean).m (I .mean).b .nil pass0 (pa_cons (pe_ix (r := rIxL K) ix_list (pv 1) pe_int (fun _ _ => rfl)) (pa_cons (pe_ix (r := rIxL K) ix_list (pv 1) pe_int (fun _ _ => rfl)) pa_nil))))) pss_nil)
    (pss_cons (ps_if (pt_cmpR op_eq (pv 0) pe_str (nomark _)) (pss_one (ps_ret (pc GS hr (pa_cons (pe_ix (r := rIxL K) ix_list (pv 1) pe_int (fun _ _ => rfl)) (pa_cons (pe_ix (r := rIxL K) ix_list (pv 1) pe_int (fun _ _ => rfl)) (pa_cons (pe_ix (r := rIxL K) ix_list (pv 1) pe_int (fun _ _ => rfl)) pa_nil)))))) pss_nil)
    (pss_cons (ps_if (pt_cmpR op_eq (pv 0) pe_str (nomark _)) (pss_one (ps_ret (pe_make (I .give).M (I .give).ok hr1 rfl (I .give).m (I .give).b .nil pass0 (pa_cons (pe_ix (r := rIxL K) ix_list (pv 1) pe_int (fun _ _ => rfl)) (pa_cons (pe_ix (r := rIxL K) ix_list (pv 1) pe_int (fun _ _ => rfl)) pa_nil))))) pss_nil)
    (pss_cons (ps_if (pt_cmpR op_eq (pv 0) pe_str (nomark _)) (pss_one (ps_ret (pe_make (I .add).M (I .add).ok hr1 rfl (I .add).m (I .add).b .nil pass0 (pa_cons (pe_ix (r := rIxL K) ix_list (pv 1) pe_int (fun _ _ => rfl)) (pa_cons (pe_ix (r := rIxL K) ix_list (pv 1) pe_int (fun _ _ => rfl)) (pa_cons (pe_ix (r := rIxL K) ix_list (pv 1) pe_int (fun _ _ => rfl)) pa_nil)))))) pss_nil)
    (pss_cons (ps_if (pt_cmpR op_eq (pv 0) pe_str (nomark _)) (pss_one (ps_ret (pe_make (I .plus).M (I .plus).ok hr1 rfl (I .plus).m (I .plus).b .nil pass0 (pa_cons (pe_ix (r := rIxL K) ix_list (pv 1) pe_int (fun _ _ => rfl)) pa_nil)))) pss_nil)
    (pss_one (ps_ret (pe_make (I .need).M (I .need).ok hr1 rfl (I .need).m (I .need).b .nil pass0 (pa_cons (pe_ix (r := rIxL K) ix_list (pv 1) pe_int (fun _ _ => rfl)) pa_nil)))))))))), ?_⟩
  refine ⟨_, rfl, rfl, _, rfl, ite2 (fun c => ?_) (fun c0 => ?_)⟩
  · obtain rfl : wd = .take := w_hit c
    obtain ⟨x, y, rfl, _⟩ := ar.c rfl
    exact ⟨_, rfl, b, _, _, _, rfl, rfl, SqL.of hb, rfl, _, rfl, b, _, _, _, rfl, rfl, SqL.of hb, rfl, fun p dp np ndp nep => ⟨p, dp, [x, y], rfl, ar, upd_same, fun H' h1 h2 => ⟨rfl, q _ H' (mk_kp np ndp h2) ⟨p, dp, rfl, h1⟩⟩⟩⟩
  refine ⟨_, rfl, rfl, _, rfl, ite2 (fun c => ?_) (fun c1 => ?_)⟩
  · obtain rfl : wd = .mean := w_hit c
    obtain ⟨x, y, rfl, _⟩ := ar.c rfl
    exact ⟨_, rfl, b, _, _, _, rfl, rfl, SqL.of hb, rfl, _, rfl, b, _, _, _, rfl, rfl, SqL.of hb, rfl, fun p dp np ndp nep => ⟨p, dp, [x, y], rfl, ar, upd_same, fun H' h1 h2 => ⟨rfl, q _ H' (mk_kp np ndp h2) ⟨p, dp, rfl, h1⟩⟩⟩⟩
  refine ⟨_, rfl, rfl, _, rfl, ite2 (fun c => ?_) (fun c2 => ?_)⟩
  · obtain rfl : wd = .sum := w_hit c
    obtain ⟨x, y, z, rfl, _⟩ := ar.s
    exact ⟨_, rfl, b, _, _, _, rfl, rfl, SqL.of hb, rfl, _, rfl, b, _, _, _, rfl, rfl, SqL.of hb, rfl, _, rfl, b, _, _, _, rfl, rfl, SqL.of hb, rfl, x, y, z, rfl, ar, q⟩
  refine ⟨_, rfl, rfl, _, rfl, ite2 (fun c => ?_) (fun c3 => ?_)⟩
  · obtain rfl : wd = .give := w_hit c
    obtain ⟨x, y, rfl, _⟩ := ar.c rfl
    exact ⟨_, rfl, b, _, _, _, rfl, rfl, SqL.of hb, rfl, _, rfl, b, _, _, _, rfl, rfl, SqL.of hb, rfl, fun p dp np ndp nep => ⟨p, dp, [x, y], rfl, ar, upd_same, fun H' h1 h2 => ⟨rfl, q _ H' (mk_kp np ndp h2) ⟨p, dp, rfl, h1⟩⟩⟩⟩
  refine ⟨_, rfl, rfl, _, rfl, ite2 (fun c => ?_) (fun c4 => ?_)⟩
  · obtain rfl : wd = .add := w_hit c
    obtain ⟨x, y, z, rfl, _⟩ := ar.a
    exact ⟨_, rfl, b, _, _, _, rfl, rfl, SqL.of hb, rfl, _, rfl, b, _, _, _, rfl, rfl, SqL.of hb, rfl, _, rfl, b, _, _, _, rfl, rfl, SqL.of hb, rfl, fun p dp np ndp nep => ⟨p, dp, [x, y, z], rfl, ar, upd_same, fun H' h1 h2 => ⟨rfl, q _ H' (mk_kp np ndp h2) ⟨p, dp, rfl, h1⟩⟩⟩⟩
  refine ⟨_, rfl, rfl, _, rfl, ite2 (fun c => ?_) (fun c5 => ?_)⟩
  · obtain rfl : wd = .plus := w_hit c
    obtain ⟨x, rfl, _⟩ := ar.p
    exact ⟨_, rfl, b, _, _, _, rfl, rfl, SqL.of hb, rfl, fun p dp np ndp nep => ⟨p, dp, [x], rfl, ar, upd_same, fun H' h1 h2 => ⟨rfl, q _ H' (mk_kp np ndp h2) ⟨p, dp, rfl, h1⟩⟩⟩⟩
  obtain rfl : wd = .need := w_need (w_miss (b := .take) c0) (w_miss (b := .mean) c1) (w_miss (b := .sum) c2) (w_miss (b := .give) c3) (w_miss (b := .add) c4) (w_miss (b := .plus) c5)
  obtain ⟨x, rfl, _⟩ := ar.n
  exact ⟨_, rfl, b, _, _, _, rfl, rfl, SqL.of hb, rfl, fun p dp np ndp nep => ⟨p, dp, [x], rfl, ar, upd_same, fun H' h1 h2 => ⟨rfl, q _ H' (mk_kp np ndp h2) ⟨p, dp, rfl, h1⟩⟩⟩⟩
/-! ### read_number, read_step -/
theorem ok_rnum {CN : Addr} {bm : List Value} {new : String} (F : Fun K "read_number" "read_number" s_read_number f fd) (B : TxB mg) (mN : mg "NoThing" = some (.ref CN)) (xN : PySem.W.excIn K CN bm new = true) (hb : bm.contains (.type "BaseException") = true)
    (cF : ∃ t, mg "MOST_FIGURES_steps" = some (.int 40 t)) (GR : GF P w K mg base CX0 4 "read_thing" ["text"] K21T.spRead) (GW : GF P w K mg base CX0 1 "is_whole" ["thing"] K21T.spWhole) : FnOk P w K mg base CX0 5 f fd ["word", "letter"] spRNum := by
  refine F.ok sc_read_number (fun vs H Q E h => ?_) (fun cdv A outer s H vs Q E hr h => ?_)
  · obtain ⟨i, c, rfl, _⟩ := h
    rfl
  obtain ⟨i, c, rfl, hi, hneg, q⟩ := h
  have nd := sc_read_number.nd
  refine ⟨_, pss_cons (ps_trySet (j := 2) (C := CN) rfl rfl rfl nd rfl (Or.inl rfl) (pex_of (pc GR hr (pa_cons (pv 0) pa_nil))) rfl mN (takes_self mN xN hb) (fun _ => pss_never))
    (pss_cons (ps_if (PW.pt (pw_or (pt_not (pt_val (pc GW hr (pa_cons (pv 2) pa_nil)))) (pw_or1 (pt_cmpR op_gt (pe_callB call_len_str rfl B.len PySem.boot_len (pa_cons (pe_bm PySem.F.plainAttrs_str PySem.F.slot_str_lstrip PySem.F.type_str_lstrip mt_lstripC (pv 0) (pa_cons pe_str pa_nil)) pa_nil)) (gint cF rfl) (nomark _))))) pss_never pss_nil)
    (pss_cons (ps_if (PW.pt (pw_and (pt_cmpR op_lt (pv 2) pe_int (nomark _)) (pw_and1 (pt_cmpR op_ne (pv 1) pe_str (nomark _))))) pss_never pss_nil)
    (pss_one (ps_ret (pv 2))))), ?_⟩
  have hl := iS_line hi
  have h1 : (100000 : Nat) ≤ sizeLine := by decide
  have hL := lstrip_len hi
  refine ⟨_, rfl, iS i, .int i, rfl, (by rw [iS_cs]; exact .num i (Nat.lt_trans hi (by decide +kernel))), (fun d hd => ?_), hl, fun H1 s1 => ?_⟩
  · rw [iS_cs] at hd
    rcases num_in hd with rfl | ⟨a1, a2⟩
    · decide
    · show (decide _ && decide _ && _) = true
      simp
      omega
  refine ⟨_, rfl, _, _, rfl, rfl, _, rfl, iteF ?_⟩
  refine ⟨_, rfl, rfl, iS i, _, rfl, rfl, by omega, _, rfl, Nat.le_trans hL (by decide), _, _, rfl, rfl, _, rfl, ite2 (fun c => absurd (of_decide_eq_true c) (fun z => ?_)) (fun _ => ?_)⟩
  · have z' : (40 : Int) < (((Txt.lstripChars (iS i) (Str.ofString "-")).length : Nat) : Int) := z
    omega
  refine ⟨_, rfl, _, _, rfl, rfl, _, rfl, ite2 (fun cc => ?_) (fun _ => ⟨_, rfl, q H1 s1⟩)⟩
  have hc : c = 86 := hneg (of_decide_eq_true cc)
  subst hc
  exact ⟨_, rfl, rfl, _, rfl, iteNS (congrArg V.str (by decide +kernel)) ⟨_, rfl, q H1 s1⟩⟩
theorem ok_rstep (F : Fun K "read_step" "read_step" s_read_step f fd) (B : TxB mg) {aS : Addr} (mS : mg "SHAPES" = some (.ref aS)) (tS : TabK K aS shapesD) (GN : GF P w K mg base CX0 5 "read_number" ["word", "letter"] spRNum)
    (GS : GF P w K mg base CX0 5 "made_step" ["word", "numbers"] (spMade CW)) : FnOk P w K mg base CX0 6 f fd ["text"] (spRStep CW) := by
  refine F.ok sc_read_step (fun vs H Q E h => ?_) (fun cdv A outer s H vs Q E hr h => ?_)
  · obtain ⟨wd, ns, rfl, _⟩ := h
    rfl
  obtain ⟨wd, ns, rfl, ar, q⟩ := h
  have nd := sc_read_step.nd
  have hl3 := ar.len
  have el := shp_len ar
  refine ⟨_, pss_cons (ps_set (i := 1) nd rfl (Or.inr rfl) (pe_bm PySem.F.plainAttrs_str PySem.F.slot_str_split PySem.F.type_str_split mt_split1 (pv 0) (pa_cons pe_str pa_nil)))
    (pss_cons (ps_set (i := 2) nd rfl (Or.inr rfl) (pe_tabS (D := shapesD) (pe_glob (v := .ref aS) rfl mS rfl) (pe_ix (r := rIxL K) ix_list (pv 1) pe_int (fun _ _ => rfl)) ⟨rfl, rfl, rfl, rfl⟩ tS))
    (pss_cons (ps_if (PW.pt (pw_or (pt_cmpR op_isN (pv 2) pe_non (nomark _)) (pw_or1 (pt_cmpR op_ne (pe_callB call_len_seq rfl B.len PySem.boot_len (pa_cons (pv 1) pa_nil)) (pe_op op_add (pe_callB call_len_str rfl B.len PySem.boot_len (pa_cons (pv 2) pa_nil)) pe_int) (nomark _))))) pss_never pss_nil)
    (pss_one (ps_ret (pc GS hr (pa_cons (pe_ix (r := rIxL K) ix_list (pv 1) pe_int (fun _ _ => rfl)) (pa_cons (pe_lc sb_read_step_0 rfl (pi_range1 rfl B.range (pa_cons (pe_callB call_len_str rfl B.len PySem.boot_len (pa_cons (pv 2) pa_nil)) pa_nil)) (fun _ _ _ _ => pts_nil)
      (fun _ _ _ _ => pc GN hr (pa_cons (pe_ix (r := rIxL K) ix_list (pv 1) (pe_op op_add (pv 0) pe_int) (fun _ _ => rfl)) (pa_cons (pe_ix ix_str (pv 2) (pv 0) (fun _ _ => rfl)) pa_nil)))) pa_nil))))))), ?_⟩
  refine ⟨_, rfl, rfl, txt wd ns, 32, rfl, congrArg (fun z => [V.str z]) sep_eq, txt_len ar, fun p hp => ?_⟩
  rw [split_txt]
  have s1 : Same H _ := same_new (o := .lst ((wS wd :: ns.map iS).map V.str)) hp
  have hp1 : (upd H p (.lst ((wS wd :: ns.map iS).map V.str))) p = some (.lst ((wS wd :: ns.map iS).map V.str)) := upd_same
  generalize (upd H p _) = H1 at s1 hp1 ⊢
  refine ⟨_, rfl, p, _, _, _, rfl, rfl, SqL.of hp1, at0, wS wd, shp wd, rfl, shape_at wd, ?_⟩
  refine ⟨_, rfl, rfl, _, rfl, ite2 (fun c => absurd (of_decide_eq_true c) (by intro z; cases z)) (fun _ => ?_)⟩
  refine ⟨_, rfl, p, _, rfl, .inl (SqL.of hp1), _, rfl, _, rfl, shp_line wd, _, _, rfl, rfl, rfl, _, rfl, iteNS ?_ ?_⟩
  · rw [el]
    simp
  refine ⟨_, rfl, p, _, _, _, rfl, rfl, SqL.of hp1, at0, ?_⟩
  refine ⟨_, rfl, _, rfl, shp_line wd, _, rfl, by omega, by rw [el]; omega, ?_⟩
  have e0 : (((shp wd).length : Nat) : Int).toNat = ns.length := by rw [el]; rfl
  rw [e0]
  refine lc_range (n := ns.length) (fun i ys H' => Same H1 H' ∧ ys = (ns.take i).map V.int) ⟨Same.refl _, rfl⟩ (Nat.le_trans hl3.2 (by decide)) ?_ ?_
  · rintro i ys H2 hi ⟨s2, rfl⟩
    have hn : ns[i]? = some ns[i] := List.getElem?_eq_getElem hi
    obtain ⟨c, hc, hneg⟩ := shp_at ar hn
    refine tAllT ⟨_, rfl, _, rfl, _, _, rfl, rfl, p, _, _, _, rfl, rfl, SqL.of (s2 _ _ hp1), ?_, _, rfl, _, rfl, _, _, _, rfl, rfl, shp_line wd, atI_nat hc, ns[i], c, rfl, ar.all _ (List.getElem_mem hi), hneg, fun H3 s3 => ⟨s2.trans s3, ?_⟩⟩
    · have e1 : ((i : Nat) : Int) + 1 = ((i + 1 : Nat) : Int) := rfl
      rw [e1]
      refine atI_nat ?_
      rw [List.map_cons, List.getElem?_cons_succ, List.map_map, List.getElem?_map, hn]
      rfl
    · have e2 : ns.take (i + 1) = ns.take i ++ [ns[i]] := by
        rw [List.take_add_one, hn]
        rfl
      rw [e2, List.map_append]
      rfl
  · rintro ys H2 ⟨s2, rfl⟩ p2 hp2
    rw [List.take_length]
    exact ⟨wd, p2, ns, rfl, upd_same, ar, fun v H3 s3 st => q v H3 (s1.trans (s2.trans ((same_new hp2).trans s3))) st⟩
end
end K21

set_option maxHeartbeats 4000000
namespace K21
open PySem L2 Lo St
section
variable {P : Program} {w : World} {K : PySem.W.Frag} {mg : Str → Option Value} {base : Heap} {f CL : Addr} {fd : FuncData} {C : Kd → Addr} {CW : Wd → Addr}
theorem ok_whole (F : Fun K "_law_whole" "_law_whole" s__law_whole f fd) (B : TxB mg) : FnOk P w K mg base CX0 1 f fd ["_law_found"] spWhole := by
  refine F.ok sc__law_whole (fun vs H Q E h => ?_) (fun cdv A outer s H vs Q E hr h => ?_)
  · obtain ⟨i, rfl, _⟩ := h
    rfl
  obtain ⟨i, rfl, q⟩ := h
  refine ⟨_, pss_one (ps_ret (pe_and (pe_callB call_isinst rfl B.isi PyProof.Rows.boot_isinstance (pa_cons (pv 0) (pa_cons (pe_bltn (v := .ty "int") rfl B.int PyProof.Rows.boot_int rfl) pa_nil)))
    (pe_one (pe_not (pe_callB call_isinst rfl B.isi PyProof.Rows.boot_isinstance (pa_cons (pv 0) (pa_cons (pe_bltn (v := .ty "bool") rfl B.bool PyProof.Rows.boot_bool rfl) pa_nil))))))), ?_⟩
  refine ⟨_, rfl, _, _, _, _, rfl, TyOf.int i, kit_ii, _, rfl, iteT ?_⟩
  exact ⟨_, rfl, _, _, _, _, rfl, TyOf.int i, kit_ib, _, rfl, q⟩
/-! ### the law's functions -/
theorem ok_mixed (F : Fun K "_law_mixed" "_law_mixed" s__law_mixed f fd) : FnOk P w K mg base CX0 1 f fd ["_law_cell", "_law_k"] spMixed := by
  refine F.ok sc__law_mixed (fun vs H Q E h => ?_) (fun cdv A outer s H vs Q E hr h => ?_)
  · obtain ⟨c, k, rfl, _⟩ := h
    rfl
  obtain ⟨c, k, rfl, q⟩ := h
  have nd := sc__law_mixed.nd
  refine ⟨_, pss_cons (ps_set (i := 2) nd rfl (Or.inl rfl) (pe_op op_mod (pe_op op_mul (pe_op op_add (pe_op op_add (pv 0) (pe_op op_mul pe_int (pv 1))) pe_int) pe_int) pe_int))
    (pss_one (ps_ret (pe_op op_mod (pe_op op_mul (pv 2) (pe_op op_add (pe_op op_fdiv (pv 2) pe_int) pe_int)) pe_int))), ?_⟩
  refine ⟨_, rfl, _, rfl, _, _, rfl, rfl, .inl ⟨by decide +kernel, by decide +kernel⟩, _, _, rfl, rfl, _, _, rfl, rfl, _, _, rfl, rfl, .inr ⟨by decide +kernel, by decide +kernel⟩, _, _, rfl, rfl, (by show (0 : Int) < 2147483647; decide), ?_⟩
  have h0 : 0 ≤ (c + 7919 * k + 1) * 48271 % 2147483647 := Int.emod_nonneg _ (by decide)
  have h1 : (c + 7919 * k + 1) * 48271 % 2147483647 < 2147483647 := Int.emod_lt_of_pos _ (by decide)
  exact ⟨_, rfl, _, rfl, _, _, rfl, rfl, ⟨by decide, by decide⟩, _, _, rfl, rfl, _, _, rfl, rfl, .inl ⟨by omega, by omega⟩, _, _, rfl, rfl, (by show (0 : Int) < 2147483647; decide), q _ (Int.emod_nonneg _ (by decide)) (Int.emod_lt_of_pos _ (by decide))⟩
theorem ok_number (F : Fun K "_law_number" "_law_number" s__law_number f fd) (B : TxB mg) (GX : GF P w K mg base CX0 1 "_law_mixed" ["_law_cell", "_law_k"] spMixed) : FnOk P w K mg base CX0 2 f fd ["_law_cell", "_law_k"] spNumber := by
  refine F.ok sc__law_number (fun vs H Q E h => ?_) (fun cdv A outer s H vs Q E hr h => ?_)
  · obtain ⟨c, k, rfl, _⟩ := h
    rfl
  obtain ⟨c, k, rfl, q⟩ := h
  have nd := sc__law_number.nd
  refine ⟨_, pss_cons (ps_set (i := 2) nd rfl (Or.inl rfl) (pc GX hr (pa_cons (pv 0) (pa_cons (pv 1) pa_nil))))
    (pss_cons (ps_if (pt_cmpR op_eq (pe_op op_mod (pv 2) pe_int) pe_int (nomark _)) (pss_one (ps_ret (pe_op op_sub (pe_op op_pow pe_int pe_int) pe_int))) pss_nil)
    (pss_cons (ps_if (pt_cmpR op_eq (pe_op op_mod (pv 2) pe_int) pe_int (nomark _)) (pss_one (ps_ret (pe_op op_mod (pe_op op_fdiv (pv 2) pe_int) pe_int))) pss_nil)
    (pss_cons (ps_if (pt_cmpR op_eq (pe_op op_mod (pv 2) pe_int) pe_int (nomark _)) (pss_one (ps_ret (pe_op op_fdiv (pv 2) pe_int))) pss_nil)
    (pss_cons (ps_for PassesOwn.never rfl (pi_range1 rfl B.range (pa_cons pe_int pa_nil)) (pg_name (i := 3) nd rfl (Or.inl rfl))
      (pss_one (ps_set (i := 2) nd rfl (Or.inl rfl) (pe_op op_mul (pv 2) (pe_op op_add pe_int (pc GX hr (pa_cons (pv 0) (pa_cons (pe_op op_add (pv 1) (pe_op op_mul pe_int (pe_op op_add (pv 3) pe_int))) pa_nil))))))))
    (pss_one (ps_ret (pe_op op_mod (pv 2) (pe_op op_pow pe_int pe_int)))))))), ?_⟩
  refine ⟨_, rfl, _, rfl, _, _, rfl, fun r h0 h1 => ?_⟩
  have hbig : (2147483647 : Int) ≤ 10 ^ 40 := by decide +kernel
  refine ⟨_, rfl, _, _, rfl, rfl, (by show (0 : Int) < 23; decide), rfl, _, rfl, ite2 (fun _ => ?_) (fun _ => ?_)⟩
  · exact ⟨_, _, rfl, rfl, ⟨by decide, by decide, by decide⟩, _, _, rfl, rfl, q _ ⟨(by show (0 : Int) ≤ 10 ^ 40 - 1; decide +kernel), (by show (10 : Int) ^ 40 - 1 < 10 ^ 40; decide +kernel)⟩⟩
  refine ⟨_, rfl, _, _, rfl, rfl, (by show (0 : Int) < 3; decide), rfl, _, rfl, ite2 (fun _ => ?_) (fun _ => ?_)⟩
  · exact ⟨_, rfl, _, _, rfl, rfl, ⟨by decide, by decide⟩, _, _, rfl, rfl, (by show (0 : Int) < 9; decide), q _ ⟨Int.emod_nonneg _ (by decide), Int.lt_of_lt_of_le (Int.emod_lt_of_pos _ (by decide)) (by decide +kernel)⟩⟩
  refine ⟨_, rfl, _, _, rfl, rfl, (by show (0 : Int) < 3; decide), rfl, _, rfl, ite2 (fun _ => ?_) (fun _ => ?_)⟩
  · exact ⟨_, rfl, _, _, rfl, rfl, ⟨by decide, by decide⟩, q _ ⟨Int.ediv_nonneg h0 (by decide), Int.lt_of_lt_of_le (show r / 3 < 2147483647 by omega) hbig⟩⟩
  refine ⟨4, rfl, by decide, by decide, ?_⟩
  refine for_range (n := 4) (fun i σ H' => H' = H ∧ ∃ m x3, σ = [some (.int c), some (.int k), some (.int m), x3]) ⟨rfl, _, none, rfl⟩ ?_ ?_
  · rintro i σ H1 hi ⟨rfl, m, x3, rfl⟩
    exact ⟨_, rfl, _, rfl, _, rfl, _, rfl, _, _, rfl, rfl, _, _, rfl, rfl, .inl ⟨by decide +kernel, by decide +kernel⟩, _, _, rfl, rfl, _, _, rfl, fun r2 g0 g1 => ⟨_, _, rfl, rfl, _, _, rfl, rfl, .inr ⟨by omega, by omega⟩, rfl, _, _, rfl⟩⟩
  · rintro σ H1 ⟨rfl, m, x3, rfl⟩
    exact ⟨_, rfl, _, _, rfl, rfl, ⟨by decide, by decide, by decide⟩, _, _, rfl, rfl, (by show (0 : Int) < 10 ^ 40; decide +kernel), q _ ⟨Int.emod_nonneg _ (by show (10 : Int) ^ 40 ≠ 0; decide +kernel), Int.emod_lt_of_pos _ (by show (0 : Int) < 10 ^ 40; decide +kernel)⟩⟩
theorem ok_either (F : Fun K "_law_either" "_law_either" s__law_either f fd) (GX : GF P w K mg base CX0 1 "_law_mixed" ["_law_cell", "_law_k"] spMixed) (GN : GF P w K mg base CX0 2 "_law_number" ["_law_cell", "_law_k"] spNumber) : FnOk P w K mg base CX0 3 f fd ["_law_cell", "_law_k"] spEither := by
  refine F.ok sc__law_either (fun vs H Q E h => ?_) (fun cdv A outer s H vs Q E hr h => ?_)
  · obtain ⟨c, k, rfl, _⟩ := h
    rfl
  obtain ⟨c, k, rfl, q⟩ := h
  refine ⟨_, pss_cons (ps_if (pt_cmpR op_eq (pe_op op_mod (pc GX hr (pa_cons (pv 0) (pa_cons (pe_op op_add (pv 1) pe_int) pa_nil))) pe_int) pe_int (nomark _)) (pss_one (ps_ret (pe_op op_sub pe_int (pc GN hr (pa_cons (pv 0) (pa_cons (pv 1) pa_nil)))))) pss_nil)
    (pss_one (ps_ret (pc GN hr (pa_cons (pv 0) (pa_cons (pv 1) pa_nil))))), ?_⟩
  refine ⟨_, rfl, _, rfl, _, _, rfl, rfl, _, _, rfl, fun r h0 h1 => ⟨_, _, rfl, rfl, (by show (0 : Int) < 2; decide), rfl, _, rfl, ite2 (fun _ => ?_) (fun _ => ?_)⟩⟩
  · refine ⟨_, rfl, _, rfl, _, _, rfl, fun r hr => ⟨_, _, rfl, rfl, q _ ?_⟩⟩
    show (0 - r).natAbs < 10 ^ 40
    have := hr.v
    unfold St.inV at this
    omega
  · exact ⟨_, rfl, _, rfl, _, _, rfl, fun r hr => q _ hr.v⟩
theorem ok_lstep (F : Fun K "_law_step" "_law_step" s__law_step f fd) (B : TxB mg) (hmin : mg "min" = none) (GN : GF P w K mg base CX0 2 "_law_number" ["_law_cell", "_law_k"] spNumber) (GE : GF P w K mg base CX0 3 "_law_either" ["_law_cell", "_law_k"] spEither) : FnOk P w K mg base CX0 4 f fd ["_law_cell"] spLStep := by
  refine F.ok sc__law_step (fun vs H Q E h => ?_) (fun cdv A outer s H vs Q E hr h => ?_)
  · obtain ⟨c, rfl, _⟩ := h
    rfl
  obtain ⟨c, rfl, q⟩ := h
  have nd := sc__law_step.nd
  obtain ⟨wd, hw⟩ := w_of (c % 7) (Int.emod_nonneg _ (by decide)) (Int.emod_lt_of_pos _ (by decide))
  refine ⟨_, pss_cons (ps_set (i := 1) nd rfl (Or.inl rfl) (pe_ix (r := rIxL K) ix_list (pe_lst (pa_cons pe_str (pa_cons pe_str (pa_cons pe_str (pa_cons pe_str (pa_cons pe_str (pa_cons pe_str (pa_cons pe_str pa_nil)))))))) (pe_op op_mod (pv 0) pe_int) (fun _ _ => rfl)))
    (pss_cons (ps_set (i := 2) nd rfl (Or.inl rfl) (pc GN hr (pa_cons (pv 0) (pa_cons pe_int pa_nil))))
    (pss_cons (ps_set (i := 3) nd rfl (Or.inl rfl) (pc GN hr (pa_cons (pv 0) (pa_cons pe_int pa_nil))))
    (pss_cons (ps_set (i := 4) nd rfl (Or.inl rfl) (pc GN hr (pa_cons (pv 0) (pa_cons pe_int pa_nil))))
    (pss_cons (ps_if (PW.pt (pw_or (pt_cmpR op_eq (pv 1) pe_str (nomark _)) (pw_or1 (pt_cmpR op_eq (pv 1) pe_str (nomark _))))) (pss_one (ps_ret (pe_tup (pa_cons (pv 1) (pa_cons (pc GE hr (pa_cons (pv 0) (pa_cons pe_int pa_nil))) pa_nil))))) pss_nil)
    (pss_cons (ps_if (pt_cmpR op_eq (pv 1) pe_str (nomark _)) (pss_one (ps_ret (pe_tup (pa_cons (pv 1) (pa_cons (pv 2) (pa_cons (pv 3) (pa_cons (pc GE hr (pa_cons (pv 0) (pa_cons pe_int pa_nil))) pa_nil))))))) pss_nil)
    (pss_cons (ps_if (pt_cmpR op_eq (pv 1) pe_str (nomark _)) (pss_one (ps_ret (pe_tup (pa_cons (pv 1) (pa_cons (pv 2) (pa_cons (pe_callB (call_min2 rfl) rfl hmin PyProof.Rows.boot_min (pa_cons (pv 3) (pa_cons (pv 4) pa_nil))) (pa_cons (pe_callB (call_max2 rfl) rfl B.max PyProof.Rows.boot_max (pa_cons (pv 3) (pa_cons (pv 4) pa_nil))) pa_nil))))))) pss_nil)
    (pss_one (ps_ret (pe_tup (pa_cons (pv 1) (pa_cons (pv 2) (pa_cons (pv 3) pa_nil))))))))))))  , ?_⟩
  refine ⟨(by show 7 ≤ sizeLine; decide), fun l hl => ?_⟩
  have s1 : Same H _ := same_new (o := .lst [.str "take", .str "mean", .str "sum", .str "give", .str "add", .str "plus", .str "need"]) hl
  refine ⟨_, rfl, _, _, rfl, rfl, (by show (0 : Int) < 7; decide), l, _, _, _, rfl, rfl, SqL.of upd_same, hw, ?_⟩
  generalize (upd H l _) = H1 at s1 ⊢
  refine ⟨_, rfl, _, _, rfl, fun x hx => ⟨_, rfl, _, _, rfl, fun y hy => ⟨_, rfl, _, _, rfl, fun z hz => ?_⟩⟩⟩
  have pn : ∀ (hw : wd = .plus ∨ wd = .need) (r : Int), inV r → Ar wd [r] := fun hw r hr => by rcases hw with rfl | rfl <;> exact hr
  refine ⟨_, rfl, rfl, _, rfl, ite2 (fun c => iteT ?_) (fun c1 => ⟨_, rfl, rfl, _, rfl, ite2 (fun c => ?_) (fun c2 => ?_)⟩)⟩
  · exact ⟨_, rfl, _, rfl, _, _, rfl, fun r hr => ⟨(by show 2 ≤ sizeLine; decide), fun t ht => q wd [r] _ _ (pn (.inl (w_hit c)) r hr) (s1.trans (same_new ht)) ⟨t, rfl, upd_same⟩⟩⟩
  · exact ⟨_, rfl, _, rfl, _, _, rfl, fun r hr => ⟨(by show 2 ≤ sizeLine; decide), fun t ht => q wd [r] _ _ (pn (.inr (w_hit c)) r hr) (s1.trans (same_new ht)) ⟨t, rfl, upd_same⟩⟩⟩
  refine ⟨_, rfl, rfl, _, rfl, ite2 (fun c => ?_) (fun c3 => ?_)⟩
  · obtain rfl : wd = .add := w_hit c
    exact ⟨_, rfl, _, rfl, _, rfl, _, rfl, _, _, rfl, fun r hr => ⟨(by show 4 ≤ sizeLine; decide), fun t ht => q .add [x, y, r] _ _ ⟨hx, hy, hr⟩ (s1.trans (same_new ht)) ⟨t, rfl, upd_same⟩⟩⟩
  refine ⟨_, rfl, rfl, _, rfl, ite2 (fun c => ?_) (fun c4 => ?_)⟩
  · obtain rfl : wd = .sum := w_hit c
    refine ⟨_, rfl, _, rfl, _, rfl, _, rfl, _, _, rfl, _, rfl, _, rfl, _, _, rfl, (by show 4 ≤ sizeLine; decide), fun t ht => q .sum [x, if z < y then z else y, if z > y then z else y] _ _ ⟨hx, ?_, ?_, ?_⟩ (s1.trans (same_new ht)) ⟨t, rfl, upd_same⟩⟩
    · split
      · exact hz
      · exact hy
    · split
      · exact hz
      · exact hy
    · split <;> split <;> omega
  · refine ⟨_, rfl, _, rfl, _, rfl, (by show 3 ≤ sizeLine; decide), fun t ht => q wd [x, y] _ _ ?_ (s1.trans (same_new ht)) ⟨t, rfl, upd_same⟩⟩
    have n1 := w_miss (b := .plus) c1
    have n2 := w_miss (b := .need) c2
    have n3 := w_miss (b := .add) c3
    have n4 := w_miss (b := .sum) c4
    cases wd <;> first | contradiction | exact ⟨hx, hy⟩
theorem ok_ltext (F : Fun K "_law_text" "_law_text" s__law_text f fd) (B : TxB mg) : FnOk P w K mg base CX0 1 f fd ["_law_step_here"] spLText := by
  refine F.ok sc__law_text (fun vs H Q E h => ?_) (fun cdv A outer s H vs Q E hr h => ?_)
  · obtain ⟨wd, ns, v, rfl, _⟩ := h
    rfl
  obtain ⟨wd, ns, v, rfl, ⟨b, rfl, hb⟩, ar, q⟩ := h
  have hl3 := ar.len
  refine ⟨_, pss_one (ps_ret (pe_bm PySem.F.plainAttrs_str PySem.F.slot_str_join PySem.F.type_str_join mt_join pe_str (pa_cons (pe_op op_cat (pe_lst (pa_cons (pe_ix (r := rIxT K) ix_tup (pv 0) pe_int (fun _ _ => rfl)) pa_nil)) (pe_lc sb__law_text_0 rfl (pi_tup (pe_slice sl_tup (pv 0) (po_some pe_int) po_none)) (fun _ _ _ _ => pts_nil) (fun _ _ _ _ => pe_callTy call_str_int rfl B.str PyProof.Rows.boot_str (pa_cons (pv 0) pa_nil)))) pa_nil))), ?_⟩
  refine ⟨rfl, _, rfl, b, _, _, _, rfl, rfl, SqT.of hb, at0, (by show 1 ≤ sizeLine; decide), fun l hl => ?_⟩
  have s1 : Same H _ := same_new (o := .lst [.str (wS wd)]) hl
  refine ⟨_, rfl, _, rfl, b, _, rfl, SqT.of (s1 _ _ hb), cut_one_no _ _, fun t ht => ?_⟩
  rw [cut_one]
  have s2 : Same H _ := s1.trans (same_new (o := .tup (ns.map V.int)) ht)
  have el0 : (upd (upd H l (.lst [.str (wS wd)])) t (.tup (ns.map V.int))) l = some (.lst [.str (wS wd)]) := same_new ht _ _ upd_same
  have et0 : (upd (upd H l (.lst [.str (wS wd)])) t (.tup (ns.map V.int))) t = some (.tup (ns.map V.int)) := upd_same
  generalize (upd (upd H l _) t _) = H0 at s2 el0 et0 ⊢
  refine ⟨t, rfl, ⟨_, SqT.of et0⟩, ?_⟩
  refine lc_intsT (g := fun i => V.str (iS i)) (ns := ns) et0 (Nat.le_trans hl3.2 (by decide)) (fun i H1 Q hi s3 h => ?_) (fun H1 s3 p hp => ?_)
  · exact ⟨_, rfl, i, rfl, log_v (ar.all i hi), h H1 (Same.refl _)⟩
  · refine ⟨l, p, _, _, rfl, rfl, same_new hp _ _ (s3 _ _ el0), upd_same, ?_, fun p2 hp2 => ?_⟩
    · have h5 : (ns.map fun i => V.str (iS i)).length = ns.length := List.length_map _
      have h6 : ([V.str (wS wd)] : List V).length = 1 := rfl
      have h7 : (4 : Nat) ≤ sizeLine := by decide
      omega
    · have e : ([V.str (wS wd)] ++ ns.map fun i => V.str (iS i)) = (wS wd :: ns.map iS).map V.str := by simp
      refine ⟨_, p2, wS wd :: ns.map iS, rfl, rfl, SqL.of (by rw [upd_same, e]), Nat.le_trans (words_sum ar) (by decide), ?_⟩
      exact q _ (s2.trans (s3.trans ((same_new hp).trans (same_new hp2))))
theorem ok_lmade (F : Fun K "_law_made" "_law_made" s__law_made f fd) (I : ∀ wd, WI P w K mg base CW wd) : FnOk P w K mg base CX0 5 f fd ["_law_step_here"] (spLMade CW) := by
  refine F.ok sc__law_made (fun vs H Q E h => ?_) (fun cdv A outer s H vs Q E hr h => ?_)
  · obtain ⟨wd, ns, v, rfl, _⟩ := h
    rfl
  obtain ⟨wd, ns, v, rfl, ⟨b, rfl, hb⟩, ar, q⟩ := h
  have hr1 : Room (2 + 1) _ := hr.mono (by decide)
  refine ⟨_, (pss_cons (ps_if (pt_cmpR op_eq (pe_ix (r := rIxT K) ix_tup (pv 0) pe_int (fun _ _ => rfl)) pe_str (nomark _)) (pss_one (ps_ret (pe_make (I .take).M (I .take).ok hr1 rfl (I .take).m (I .take).b .nil pass0 (pa_cons (pe_ix (r := rIxT K) ix_tup (pv 0) pe_int (fun _ _ => rfl)) (pa_cons (pe_ix (r := rIxT K) ix_tup (pv 0) pe_int (fun _ _ => rfl)) pa_nil))))) pss_nil)
    (pss_cons (ps_if (pt_cmpR op_eq (pe_ix (r := rIxT K) ix_tup (pv 0) pe_int (fun _ _ => rfl)) pe_str (nomark _)) (pss_one (ps_ret (pe_make (I .mean).M (I .mean).ok hr1 rfl (I .mean).m (I .mean).b .nil pass0 (pa_cons (pe_ix (r := rIxT K) ix_tup (pv 0) pe_int (fun _ _ => rfl)) (pa_cons (pe_ix (r := rIxT K) ix_tup (pv 0) pe_int (fun _ _ => rfl)) pa_nil))))) pss_nil)
    (pss_cons (ps_if (pt_cmpR op_eq (pe_ix (r := rIxT K) ix_tup (pv 0) pe_int (fun _ _ => rfl)) pe_str (nomark _)) (pss_one (ps_ret (pe_make (I .sum).M (I .sum).ok hr1 rfl (I .sum).m (I .sum).b .nil pass0 (pa_cons (pe_ix (r := rIxT K) ix_tup (pv 0) pe_int (fun _ _ => rfl)) (pa_cons (pe_ix (r := rIxT K) ix_tup (pv 0) pe_int (fun _ _ => rfl)) (pa_cons (pe_ix (r := rIxT K) ix_tup (pv 0) pe_int (fun _ _ => rfl)) pa_nil)))))) pss_nil)
    (pss_cons (ps_if (pt_cmpR op_eq (pe_ix (r := rIxT K) ix_tup (pv 0) pe_int (fun _ _ => rfl)) pe_str (nomark _)) (pss_one (ps_ret (pe_make (I .give).M (I .give).ok hr1 rfl (I .give).m (I .give).b .nil pass0 (pa_cons (pe_ix (r := rIxT K) ix_tup (pv 0) pe_int (fun _ _ => rfl)) (pa_cons (pe_ix (r := rIxT K) ix_tup (pv 0) pe_int (fun _ _ => rfl)) pa_nil))))) pss_nil)
    (pss_cons (ps_if (pt_cmpR op_eq (pe_ix (r := rIxT K) ix_tup (pv 0) pe_int (fun _ _ => rfl)) pe_str (nomark _)) (pss_one (ps_ret (pe_make (I .add).M (I .add).ok hr1 rfl (I .add).m (I .add).b .nil pass0 (pa_cons (pe_ix (r := rIxT K) ix_tup (pv 0) pe_int (fun _ _ => rfl)) (pa_cons (pe_ix (r := rIxT K) ix_tup (pv 0) pe_int (fun _ _ => rfl)) (pa_cons (pe_ix (r := rIxT K) ix_tup (pv 0) pe_int (fun _ _ => rfl)) pa_nil)))))) pss_nil)
    (pss_cons (ps_if (pt_cmpR op_eq (pe_ix (r := rIxT K) ix_tup (pv 0) pe_int (fun _ _ => rfl)) pe_str (nomark _)) (pss_one (ps_ret (pe_make (I .plus).M (I .plus).ok hr1 rfl (I .plus).m (I .plus).b .nil pass0 (pa_cons (pe_ix (r := rIxT K) ix_tup (pv 0) pe_int (fun _ _ => rfl)) pa_nil)))) pss_nil)
    (pss_one (ps_ret (pe_make (I .need).M (I .need).ok hr1 rfl (I .need).m (I .need).b .nil pass0 (pa_cons (pe_ix (r := rIxT K) ix_tup (pv 0) pe_int (fun _ _ => rfl)) pa_nil)))))))))), ?_⟩
  refine ⟨_, rfl, b, _, _, _, rfl, rfl, SqT.of hb, at0, rfl, _, rfl, ite2 (fun c => ?_) (fun c0 => ?_)⟩
  · obtain rfl : wd = .take := w_hit c
    obtain ⟨x, y, rfl, _⟩ := ar.c rfl
    exact ⟨_, rfl, b, _, _, _, rfl, rfl, SqT.of hb, rfl, _, rfl, b, _, _, _, rfl, rfl, SqT.of hb, rfl, fun p dp np ndp nep => ⟨p, dp, [x, y], rfl, ar, upd_same, fun H' h1 h2 => ⟨rfl, q _ H' (mk_kp np ndp h2) ⟨p, dp, rfl, h1⟩⟩⟩⟩
  refine ⟨_, rfl, b, _, _, _, rfl, rfl, SqT.of hb, at0, rfl, _, rfl, ite2 (fun c => ?_) (fun c1 => ?_)⟩
  · obtain rfl : wd = .mean := w_hit c
    obtain ⟨x, y, rfl, _⟩ := ar.c rfl
    exact ⟨_, rfl, b, _, _, _, rfl, rfl, SqT.of hb, rfl, _, rfl, b, _, _, _, rfl, rfl, SqT.of hb, rfl, fun p dp np ndp nep => ⟨p, dp, [x, y], rfl, ar, upd_same, fun H' h1 h2 => ⟨rfl, q _ H' (mk_kp np ndp h2) ⟨p, dp, rfl, h1⟩⟩⟩⟩
  refine ⟨_, rfl, b, _, _, _, rfl, rfl, SqT.of hb, at0, rfl, _, rfl, ite2 (fun c => ?_) (fun c2 => ?_)⟩
  · obtain rfl : wd = .sum := w_hit c
    obtain ⟨x, y, z, rfl, _⟩ := ar.s
    exact ⟨_, rfl, b, _, _, _, rfl, rfl, SqT.of hb, rfl, _, rfl, b, _, _, _, rfl, rfl, SqT.of hb, rfl, _, rfl, b, _, _, _, rfl, rfl, SqT.of hb, rfl, fun p dp np ndp nep => ⟨p, dp, [x, y, z], rfl, ar, upd_same, fun H' h1 h2 => ⟨rfl, q _ H' (mk_kp np ndp h2) ⟨p, dp, rfl, h1⟩⟩⟩⟩
  refine ⟨_, rfl, b, _, _, _, rfl, rfl, SqT.of hb, at0, rfl, _, rfl, ite2 (fun c => ?_) (fun c3 => ?_)⟩
  · obtain rfl : wd = .give := w_hit c
    obtain ⟨x, y, rfl, _⟩ := ar.c rfl
    exact ⟨_, rfl, b, _, _, _, rfl, rfl, SqT.of hb, rfl, _, rfl, b, _, _, _, rfl, rfl, SqT.of hb, rfl, fun p dp np ndp nep => ⟨p, dp, [x, y], rfl, ar, upd_same, fun H' h1 h2 => ⟨rfl, q _ H' (mk_kp np ndp h2) ⟨p, dp, rfl, h1⟩⟩⟩⟩
  refine ⟨_, rfl, b, _, _, _, rfl, rfl, SqT.of hb, at0, rfl, _, rfl, ite2 (fun c => ?_) (fun c4 => ?_)⟩
  · obtain rfl : wd = .add := w_hit c
    obtain ⟨x, y, z, rfl, _⟩ := ar.a
    exact ⟨_, rfl, b, _, _, _, rfl, rfl, SqT.of hb, rfl, _, rfl, b, _, _, _, rfl, rfl, SqT.of hb, rfl, _, rfl, b, _, _, _, rfl, rfl, SqT.of hb, rfl, fun p dp np ndp nep => ⟨p, dp, [x, y, z], rfl, ar, upd_same, fun H' h1 h2 => ⟨rfl, q _ H' (mk_kp np ndp h2) ⟨p, dp, rfl, h1⟩⟩⟩⟩
  refine ⟨_, rfl, b, _, _, _, rfl, rfl, SqT.of hb, at0, rfl, _, rfl, ite2 (fun c => ?_) (fun c5 => ?_)⟩
  · obtain rfl : wd = .plus := w_hit c
    obtain ⟨x, rfl, _⟩ := ar.p
    exact ⟨_, rfl, b, _, _, _, rfl, rfl, SqT.of hb, rfl, fun p dp np ndp nep => ⟨p, dp, [x], rfl, ar, upd_same, fun H' h1 h2 => ⟨rfl, q _ H' (mk_kp np ndp h2) ⟨p, dp, rfl, h1⟩⟩⟩⟩
  obtain rfl : wd = .need := w_need (w_miss (b := .take) c0) (w_miss (b := .mean) c1) (w_miss (b := .sum) c2) (w_miss (b := .give) c3) (w_miss (b := .add) c4) (w_miss (b := .plus) c5)
  obtain ⟨x, rfl, _⟩ := ar.n
  exact ⟨_, rfl, b, _, _, _, rfl, rfl, SqT.of hb, rfl, fun p dp np ndp nep => ⟨p, dp, [x], rfl, ar, upd_same, fun H' h1 h2 => ⟨rfl, q _ H' (mk_kp np ndp h2) ⟨p, dp, rfl, h1⟩⟩⟩⟩
end
end K21

set_option maxHeartbeats 4000000
namespace K21
open PySem L2 Lo St
section
variable {P : Program} {w : World} {K : PySem.W.Frag} {mg : Str → Option Value} {base : Heap} {f CL : Addr} {fd : FuncData} {C : Kd → Addr} {CW : Wd → Addr}
/-! ### the law's judges -/
theorem ok_llock (F : Fun K "_law_lock_right" "_law_lock_right" s__law_lock_right f fd) (B : TxB mg) (GW : GF P w K mg base CX0 1 "_law_whole" ["_law_found"] Lo.spWhole) : FnOk P w K mg base CX0 2 f fd ["_law_found", "_law_step_here"] (spLLock K) := by
  refine F.ok sc__law_lock_right (fun vs H Q E h => ?_) (fun cdv A outer s H vs Q E hr h => ?_)
  · obtain ⟨wd, ns, u, v, rfl, _⟩ := h
    rfl
  obtain ⟨wd, ns, u, v, rfl, lo, ⟨b, rfl, hb⟩, ar, q⟩ := h
  have nd := sc__law_lock_right.nd
  refine ⟨_, pss_cons (ps_if (PW.pt (pw_or (pt_cmpR op_eq (pe_ix (r := rIxT K) ix_tup (pv 1) pe_int (fun _ _ => rfl)) pe_str (nomark _)) (pw_or1 (pt_cmpR op_eq (pe_ix (r := rIxT K) ix_tup (pv 1) pe_int (fun _ _ => rfl)) pe_str (nomark _))))) (pss_one (ps_ret (pe_cmpR op_isN (pv 0) pe_non (nomark _)))) pss_nil)
    (pss_cons (ps_if (PW.pt (pw_or (pt_not (pt_val (pe_callB call_isinst rfl B.isi PyProof.Rows.boot_isinstance (pa_cons (pv 0) (pa_cons (pe_bltn (v := .ty "tuple") rfl B.tuple PyProof.Rows.boot_tuple rfl) pa_nil))))) (pw_or (pt_cmpR op_ne (pe_callB call_len_seq rfl B.len PySem.boot_len (pa_cons (pv 0) pa_nil)) pe_int (nomark _)) (pw_or1 (pt_not (pt_val (pe_callB call_isinst rfl B.isi PyProof.Rows.boot_isinstance (pa_cons (pe_ix (r := rIxT K) ix_tup (pv 0) pe_int (fun _ _ => rfl)) (pa_cons (pe_bltn (v := .ty "str") rfl B.str PyProof.Rows.boot_str rfl) pa_nil))))))))) pss_never pss_nil)
    (pss_cons (ps_if (PW.pt (pw_or (pt_not (pt_val (pc GW hr (pa_cons (pe_ix (r := rIxT K) ix_tup (pv 0) pe_int (fun _ _ => rfl)) pa_nil)))) (pw_or1 (pt_not (pt_val (pc GW hr (pa_cons (pe_ix (r := rIxT K) ix_tup (pv 0) pe_int (fun _ _ => rfl)) pa_nil))))))) pss_never pss_nil)
    (pss_cons (ps_if (pt_cmpR op_eq (pe_ix (r := rIxT K) ix_tup (pv 1) pe_int (fun _ _ => rfl)) pe_str (nomark _)) (pss_one (ps_ret (pe_cmpR (op_eqC cLk (hun hr)) (pv 0) (pe_tup (pa_cons pe_str (pa_cons (pe_ix (r := rIxT K) ix_tup (pv 1) pe_int (fun _ _ => rfl)) (pa_cons (pe_ix (r := rIxT K) ix_tup (pv 1) pe_int (fun _ _ => rfl)) pa_nil)))) (nomark _)))) pss_nil)
    (pss_cons (ps_set (i := 2) nd rfl (Or.inl rfl) (pe_disp (pps_cons pe_str pe_str (pps_cons pe_str pe_str (pps_cons pe_str pe_str (pps_cons pe_str pe_str pps_nil)))) rfl rfl (by intro h; cases h) (by decide)))
    (pss_one (ps_ret (pe_cmpR (op_eqC cLk (hun hr)) (pv 0) (pe_tup (pa_cons (pe_dget (hun (c := 0) hr) (pv 2) (pe_ix (r := rIxT K) ix_tup (pv 1) pe_int (fun _ _ => rfl)) (fun _ _ => rfl)) (pa_cons (pe_ix (r := rIxT K) ix_tup (pv 1) pe_int (fun _ _ => rfl)) (pa_cons (pe_ix (r := rIxT K) ix_tup (pv 1) pe_int (fun _ _ => rfl)) pa_nil)))) (nomark _)))))))), ?_⟩
  have none_ok : ∀ (hw : wd = .plus ∨ wd = .need), Q (.bl (decide (u = .non))) H := fun hw => by
    rw [Ar.lockless hw] at lo
    have e : u = .non := lo
    rw [decide_eq_true e]
    exact q H (Same.refl H)
  refine ⟨_, rfl, b, _, _, _, rfl, rfl, SqT.of hb, at0, rfl, _, rfl, ite2 (fun c => iteT ⟨_, rfl, rfl, none_ok (.inl (w_hit c))⟩) (fun c1 => ⟨_, rfl, b, _, _, _, rfl, rfl, SqT.of hb, at0, rfl, _, rfl, ite2 (fun c => ⟨_, rfl, rfl, none_ok (.inr (w_hit c))⟩) (fun c2 => ?_)⟩)⟩
  have n1 := w_miss (b := .plus) c1
  have n2 := w_miss (b := .need) c2
  obtain ⟨k, hk⟩ : ∃ k, lockO wd ns = some k := by
    by_cases n3 : wd = .sum
    · subst n3
      obtain ⟨x, y, z, rfl, _⟩ := ar.s
      exact ⟨_, rfl⟩
    · obtain ⟨x, c, r, _, e⟩ := ar.cell n1 n2 n3
      exact ⟨_, e⟩
  rw [hk] at lo
  obtain ⟨a, rfl, ha⟩ := lo
  have lo' : cLk.rp K H k (.ref a) := cLk_mk ha
  refine ⟨_, rfl, _, _, _, _, rfl, TyOf.tup ha, kit_tt, _, rfl, iteF ?_⟩
  refine ⟨_, rfl, a, _, rfl, .inr (SqT.of ha), rfl, _, rfl, iteNS rfl ?_⟩
  refine ⟨_, rfl, a, _, _, _, rfl, rfl, SqT.of ha, rfl, _, _, _, _, rfl, TyOf.str _, kit_ss, _, rfl, iteF ?_⟩
  refine ⟨_, rfl, a, _, _, _, rfl, rfl, SqT.of ha, rfl, _, rfl, _, rfl, iteF ?_⟩
  refine ⟨_, rfl, a, _, _, _, rfl, rfl, SqT.of ha, rfl, _, rfl, _, rfl, iteF ?_⟩
  refine ⟨_, rfl, b, _, _, _, rfl, rfl, SqT.of hb, at0, rfl, _, rfl, ite2 (fun c => ?_) (fun c3 => ?_)⟩
  · obtain rfl : wd = .sum := w_hit c
    obtain ⟨x, y, z, rfl, _⟩ := ar.s
    cases (Option.some.inj hk)
    refine ⟨_, rfl, _, rfl, b, _, _, _, rfl, rfl, SqT.of hb, rfl, _, rfl, b, _, _, _, rfl, rfl, SqT.of hb, rfl, (by show 3 ≤ sizeLine; decide), fun t ht => ?_⟩
    refine ⟨(.read, y, z), (.read, y, z), cLk.keep (same_new ht).ts lo', cLk_mk (k := (.read, y, z)) upd_same, ?_⟩
    have z := q _ (same_new (o := .tup [.str "read", .int y, .int z]) ht)
    rw [decide_eq_true rfl]
    exact z
  · have n3 := w_miss (b := .sum) c3
    obtain ⟨x, c, r, rfl, e⟩ := ar.cell n1 n2 n3
    rw [hk] at e
    cases (Option.some.inj e)
    refine fun p hp => ⟨upd_same, kindsD, rfl, by decide, ?_⟩
    have s1 : Same H (upd (upd H p (.dK [])) p (.dK (mergeK [] kindsD))) := fun b' o h' => by
      have hx : b' ≠ p := fun z => by rw [z, hp] at h'; cases h'
      rw [upd_ne hx, upd_ne hx]
      exact h'
    have hd : (upd (upd H p (.dK [])) p (.dK (mergeK [] kindsD))) p = some (.dK (mergeK [] kindsD)) := upd_same
    generalize (upd (upd H p _) p _) = H1 at s1 hd ⊢
    have hb1 := s1 _ _ hb
    have g := DGet.k (k := Sum.inr (wS wd)) hd
    rw [kinds_at n1 n2 n3] at g
    refine ⟨_, rfl, _, rfl, _, rfl, b, _, _, _, rfl, rfl, SqT.of hb1, at0, p, _, rfl, g, _, rfl, b, _, _, _, rfl, rfl, SqT.of hb1, at2, _, rfl, b, _, _, _, rfl, rfl, SqT.of hb1, at2, (by show 3 ≤ sizeLine; decide), fun t ht => ?_⟩
    refine ⟨(kdW wd, c, c), (kdW wd, c, c), cLk.keep (s1.trans (same_new ht)).ts lo', cLk_mk (k := (kdW wd, c, c)) upd_same, ?_⟩
    have z := q _ (s1.trans (same_new (o := .tup [.str (kdS (kdW wd)), .int c, .int c]) ht))
    rw [decide_eq_true rfl]
    exact z
theorem ok_lright {CB : Addr} (F : Fun K "_law_right" "_law_right" s__law_right f fd) (B : TxB mg) (W : TxW K CW) (Y : TxY K mg CW CB) (GW : GF P w K mg base CX0 1 "_law_whole" ["_law_found"] Lo.spWhole)
    (GP : ∀ wd, GM P w K mg base CX0 4 (CW wd) "spelled" ["self"] (spSpelled CW wd)) (GU : ∀ wd, GM P w K mg base CX0 1 (CW wd) "sure" ["self"] (spSure wd)) (GK : ∀ wd, GM P w K mg base CX0 3 (CW wd) "lock" ["self"] (spSLock CW K wd)) (GH : ∀ wd, GM P w K mg base CX0 1 (CW wd) "house" ["self"] (spHouse CW wd))
    (GT : GF P w K mg base CX0 1 "_law_text" ["_law_step_here"] spLText) (GL : GF P w K mg base CX0 2 "_law_lock_right" ["_law_found", "_law_step_here"] (spLLock K)) : FnOk P w K mg base CX0 5 f fd ["_law_found", "_law_step_here"] (spLRight CW) := by
  refine F.ok sc__law_right (fun vs H Q E h => ?_) (fun cdv A outer s H vs Q E hr h => ?_)
  · obtain ⟨wd, ns, u, v, rfl, _⟩ := h
    rfl
  obtain ⟨wd, ns, u, v, rfl, ⟨a, dx, rfl, ha⟩, ⟨b, rfl, hb⟩, ar, q⟩ := h
  refine ⟨_, pss_cons (ps_if (PW.pt (pw_or (pt_not (pt_val (pe_callB call_isinstC rfl B.isi PyProof.Rows.boot_isinstance (pa_cons (pv 0) (pa_cons (pe_glob (v := .ref CB) rfl Y.mgB rfl) pa_nil))))) (pw_or1 (pt_cmpR op_ne (pm0 (GP wd) (pv 0) (W.cl wd) hr) (pc GT hr (pa_cons (pv 1) pa_nil)) (nomark _))))) pss_never pss_nil)
    (pss_cons (ps_if (PW.pt (pw_or (pt_not (pt_val (pe_callB call_isinst rfl B.isi PyProof.Rows.boot_isinstance (pa_cons (pm0 (GU wd) (pv 0) (W.cl wd) hr) (pa_cons (pe_bltn (v := .ty "bool") rfl B.bool PyProof.Rows.boot_bool rfl) pa_nil))))) (pw_or1 (pt_cmpR op_ne (pm0 (GU wd) (pv 0) (W.cl wd) hr) (pe_cmpR op_eq (pe_ix (r := rIxT K) ix_tup (pv 1) pe_int (fun _ _ => rfl)) pe_str (nomark _)) (nomark _))))) pss_never pss_nil)
    (pss_cons (ps_if (pt_not (pt_val (pc GL hr (pa_cons (pm0 (GK wd) (pv 0) (W.cl wd) hr) (pa_cons (pv 1) pa_nil))))) pss_never pss_nil)
    (pss_cons (ps_if (PW.pt (pw_or (pt_cmpR op_eq (pe_ix (r := rIxT K) ix_tup (pv 1) pe_int (fun _ _ => rfl)) pe_str (nomark _)) (pw_or1 (pt_cmpR op_eq (pe_ix (r := rIxT K) ix_tup (pv 1) pe_int (fun _ _ => rfl)) pe_str (nomark _))))) (pss_one (ps_ret (pe_cmpR op_isN (pm0 (GH wd) (pv 0) (W.cl wd) hr) pe_non (nomark _)))) pss_nil)
    (pss_one (ps_ret (pe_and (pc GW hr (pa_cons (pm0 (GH wd) (pv 0) (W.cl wd) hr) pa_nil)) (pe_one (pe_cmpR op_eq (pm0 (GH wd) (pv 0) (W.cl wd) hr) (pe_ix (r := rIxT K) ix_tup (pv 1) pe_int (fun _ _ => rfl)) (nomark _)))))))))  , ?_⟩
  have f1 := fs_no (m := "spelled") (by decide +kernel) (by decide +kernel) (by decide +kernel) (by decide +kernel) (by decide +kernel) wd ns
  have f2 := fs_no (m := "sure") (by decide +kernel) (by decide +kernel) (by decide +kernel) (by decide +kernel) (by decide +kernel) wd ns
  have f3 := fs_no (m := "lock") (by decide +kernel) (by decide +kernel) (by decide +kernel) (by decide +kernel) (by decide +kernel) wd ns
  have f4 := fs_no (m := "house") (by decide +kernel) (by decide +kernel) (by decide +kernel) (by decide +kernel) (by decide +kernel) wd ns
  refine ⟨_, rfl, _, _, _, _, rfl, Y.ty W ha, Y.isB _, _, rfl, iteF ?_⟩
  refine ⟨_, rfl, a, dx, _, rfl, ha, f1, _, ns, rfl, ar, ⟨a, dx, rfl, ha⟩, fun H1 s1 => ?_⟩
  refine ⟨_, rfl, wd, ns, _, rfl, ⟨b, rfl, s1 _ _ hb⟩, ar, fun H2 s2 => ⟨rfl, _, rfl, iteNS rfl ?_⟩⟩
  have s02 := s1.trans s2
  have ha2 := s02 _ _ ha
  have hb2 := s02 _ _ hb
  refine ⟨_, rfl, a, dx, _, rfl, ha2, f2, _, rfl, _, _, _, _, rfl, TyOf.bl _, kit_bb, _, rfl, iteF ?_⟩
  refine ⟨_, rfl, a, dx, _, rfl, ha2, f2, _, rfl, _, rfl, b, _, _, _, rfl, rfl, SqT.of hb2, at0, rfl, rfl, _, rfl, iteNS (congrArg V.bl (w_give wd).symm) ?_⟩
  refine ⟨_, rfl, a, dx, _, rfl, ha2, f3, _, ns, rfl, ar, ⟨a, dx, rfl, ha2⟩, fun u H3 s3 lo => ?_⟩
  refine ⟨_, rfl, wd, ns, _, _, rfl, lo, ⟨b, rfl, s3 _ _ hb2⟩, ar, fun H4 s4 => ⟨_, rfl, iteF ?_⟩⟩
  have s04 := s02.trans (s3.trans s4)
  have ha4 := s04 _ _ ha
  have hb4 := s04 _ _ hb
  have home : ∀ (hw : wd = .plus ∨ wd = .need), Q (.bl (decide (houseV wd ns = .non))) H4 := fun hw => by
    rw [Ar.homeless hw, decide_eq_true rfl]
    exact q H4 s04
  refine ⟨_, rfl, b, _, _, _, rfl, rfl, SqT.of hb4, at0, rfl, _, rfl, ite2 (fun c => iteT ⟨_, rfl, a, dx, _, rfl, ha4, f4, _, ns, rfl, ar, ⟨a, dx, rfl, ha4⟩, rfl, home (.inl (w_hit c))⟩) (fun c1 => ⟨_, rfl, b, _, _, _, rfl, rfl, SqT.of hb4, at0, rfl, _, rfl, ite2 (fun c => ⟨_, rfl, a, dx, _, rfl, ha4, f4, _, ns, rfl, ar, ⟨a, dx, rfl, ha4⟩, rfl, home (.inr (w_hit c))⟩) (fun c2 => ?_)⟩)⟩
  obtain ⟨x, r, rfl, eh⟩ := ar.home (w_miss (b := .plus) c1) (w_miss (b := .need) c2)
  refine ⟨_, rfl, a, dx, _, rfl, ha4, f4, _, _, rfl, ar, ⟨a, dx, rfl, ha4⟩, ?_⟩
  rw [eh]
  refine ⟨_, rfl, _, rfl, iteT ⟨_, rfl, a, dx, _, rfl, ha4, f4, _, _, rfl, ar, ⟨a, dx, rfl, ha4⟩, ?_⟩⟩
  rw [eh]
  refine ⟨_, rfl, b, _, _, _, rfl, rfl, SqT.of hb4, at1, rfl, ?_⟩
  have z := q H4 s04
  rw [decide_eq_true rfl]
  exact z
def u21 : TS := fun D σ H => ∃ a l cs x2 x3, σ = [some (.ref a), some (.ref l), x2, x3] ∧ H l = some (.lst ((cs : List Int).map V.int)) ∧ ∀ H', D.rt (.bl true) H'
theorem ok_law (F : Fun K "law" "law" s_law f fd) (GS : GF P w K mg base CX0 4 "_law_step" ["_law_cell"] spLStep) (GT : GF P w K mg base CX0 1 "_law_text" ["_law_step_here"] spLText) (GD : GF P w K mg base CX0 6 "read_step" ["text"] (spRStep CW))
    (GM : GF P w K mg base CX0 5 "_law_made" ["_law_step_here"] (spLMade CW)) (GR : GF P w K mg base CX0 5 "_law_right" ["_law_found", "_law_step_here"] (spLRight CW)) : FnOk P w K mg base CX0 7 f fd ["_law_script"] (spLaw K) := by
  refine F.ok sc_law (fun vs H Q E h => ?_) (fun cdv A outer s H vs Q E hr h => ?_)
  · obtain ⟨a, ns, rfl, _⟩ := h
    rfl
  obtain ⟨a, ns, rfl, hS, hl, q⟩ := h
  have nd := sc_law.nd
  refine ⟨_, pss_cons (ps_set (i := 1) nd rfl (Or.inl rfl) (pe_slice sl_list (pv 0) po_none (po_some pe_int)))
    (pss_cons (ps_if (pt_cmpR (op_eqL cInt (hun hr)) (pv 1) (pe_lst pa_nil) (nomark _)) (pss_one (ps_set (i := 1) nd rfl (Or.inl rfl) (pe_lst (pa_cons pe_int pa_nil)))) pss_nil)
    (pss_weak u21 (pss_cons (ps_for PassesOwn.never rfl (pi_list (pv 1)) (pg_name (i := 2) nd rfl (Or.inl rfl))
      (pss_cons (ps_set (i := 3) nd rfl (Or.inl rfl) (pc GS hr (pa_cons (pv 2) pa_nil)))
      (pss_one (ps_if (PW.pt (pw_or (pt_not (pt_val (pc GR hr (pa_cons (pc GD hr (pa_cons (pc GT hr (pa_cons (pv 3) pa_nil)) pa_nil)) (pa_cons (pv 3) pa_nil))))) (pw_or1 (pt_not (pt_val (pc GR hr (pa_cons (pc GM hr (pa_cons (pv 3) pa_nil)) (pa_cons (pv 3) pa_nil)))))))) pss_never pss_nil))))
    (pss_one (ps_ret pe_bl))) ?t)), ?_⟩
  case t =>
    rintro D σ H1 ⟨a, l, cs, x2, x3, rfl, hL, q⟩
    refine ⟨_, rfl, l, rfl, ⟨_, SqL.of hL⟩, ?_⟩
    refine for_list (xs := cs.map V.int) (fun i σ H' => Same H1 H' ∧ ∃ x2 x3, σ = [some (.ref a), some (.ref l), x2, x3]) ⟨Same.refl _, _, _, rfl⟩ (fun i σ H' _ z => SqL.of (z.1 _ _ hL)) ?_ ?_
    · rintro i x σ H2 hx ⟨s2, y2, y3, rfl⟩
      rw [List.getElem?_map] at hx
      obtain ⟨n, hn, rfl⟩ := Option.map_eq_some_iff.mp hx
      refine ⟨_, rfl, n, rfl, fun wd ns v H3 ar s3 tv => ?_⟩
      refine ⟨_, rfl, wd, ns, v, rfl, tv, ar, fun H4 s4 => ⟨wd, ns, rfl, ar, fun o H5 s5 so => ⟨_, rfl, wd, ns, _, _, rfl, so, tv.keep (s4.trans s5), ar, fun H6 s6 => ⟨_, rfl, iteF ?_⟩⟩⟩⟩
      have s36 := s4.trans (s5.trans s6)
      refine ⟨_, rfl, wd, ns, v, rfl, tv.keep s36, ar, fun o H7 s7 so => ⟨_, rfl, wd, ns, _, _, rfl, so, tv.keep (s36.trans s7), ar, fun H8 s8 => ⟨_, rfl, iteF ?_⟩⟩⟩
      exact ⟨s2.trans (s3.trans (s36.trans (s7.trans s8))), _, _, rfl⟩
    · rintro σ H2 ⟨_, y2, y3, rfl⟩
      exact q H2
  refine ⟨_, rfl, _, rfl, a, _, rfl, hS, fun l hl => ?_⟩
  obtain ⟨cs, ec, _⟩ := cut_ints ns none (some 8)
  rw [ec]
  refine ⟨_, rfl, (by show 0 ≤ sizeLine; decide), fun e he => ?_⟩
  have s1 := same_new (o := .lst []) he
  refine ⟨cs, [], ⟨l, _, rfl, SqL.of (s1 _ _ upd_same), pInts _ _ _⟩, ⟨e, [], rfl, SqL.of upd_same, .nil⟩, _, rfl, ite2 (fun _ => ?_) (fun _ => ?_)⟩
  · exact ⟨(by show 1 ≤ sizeLine; decide), fun l2 hl2 => ⟨a, l2, [0], none, none, rfl, upd_same, q⟩⟩
  · exact ⟨a, l, cs, none, none, rfl, s1 _ _ upd_same, q⟩
end
end K21

section
set_option maxHeartbeats 0
open PySem PySem.W PyProof.Rows
lay_quick PySem.Challenge.pw_pactroom_k21_steps_there_and_back
namespace Q
noncomputable section
noncomputable abbrev vT : Value := Value.bool true
noncomputable abbrev vF : Value := Value.bool false
noncomputable abbrev A {α : Type} (l : List α) : Array α := Array.mk l
noncomputable abbrev E {α : Type} : Array α := Array.mk []
noncomputable abbrev vn : Value := Value.none
noncomputable abbrev vr (n : Nat) : Value := Value.ref n
noncomputable abbrev sr (n : Nat) : Option Value := some (Value.ref n)
noncomputable abbrev vi (a : Int) (n : Nat) : Value := Value.int a n
noncomputable abbrev vs (q : Str) (n : Nat) : Value := Value.str q n
noncomputable abbrev de (P : Params) (q : Str) (n : Nat) (v : Value) : DictEntry := DictEntry.mk (PyData.keyHash P q) (Value.str q n) v
noncomputable abbrev nd (o : Obj) (a b : BT) : BT := .node o a b
noncomputable abbrev l1 (o : Obj) : BT := .node o .nil .nil
noncomputable abbrev q0 : Str := (@Str.mk (Array.mk [60, 109, 111, 100, 117, 108, 101, 62]))
noncomputable abbrev q1 : Str := (@Str.mk (Array.mk [47, 99, 108, 97, 105, 109, 47, 99, 117, 116, 46, 112, 121]))
noncomputable abbrev q2 : Str := (@Str.mk (Array.mk [95, 95, 109, 97, 105, 110, 95, 95]))
noncomputable abbrev q3 : Str := (@Str.mk (Array.mk [95, 95, 110, 97, 109, 101, 95, 95]))
noncomputable abbrev q4 : Str := (@Str.mk (Array.mk [112, 97, 99, 116, 114, 111, 111, 109, 46, 101, 114, 114, 111, 114, 115]))
noncomputable abbrev q5 : Str := (@Str.mk (Array.mk [95, 95, 100, 111, 99, 95, 95]))
noncomputable abbrev q6 : Str := (@Str.mk (Array.mk [95, 95, 112, 97, 99, 107, 97, 103, 101, 95, 95]))
noncomputable abbrev q7 : Str := (@Str.mk (Array.mk [95, 95, 108, 111, 97, 100, 101, 114, 95, 95]))
noncomputable abbrev q8 : Str := (@Str.mk (Array.mk [95, 95, 115, 112, 101, 99, 95, 95]))
noncomputable abbrev q9 : Str := (@Str.mk (Array.mk [95, 95, 97, 110, 110, 111, 116, 97, 116, 105, 111, 110, 115, 95, 95]))
noncomputable abbrev q10 : Str := (@Str.mk (Array.mk [95, 95, 98, 117, 105, 108, 116, 105, 110, 115, 95, 95]))
noncomputable abbrev q11 : Str := (@Str.mk (Array.mk [95, 95, 102, 105, 108, 101, 95, 95]))
noncomputable abbrev q12 : Str := (@Str.mk (Array.mk [95, 95, 99, 97, 99, 104, 101, 100, 95, 95]))
noncomputable abbrev q13 : Str := (@Str.mk (Array.mk [95, 119, 97, 108, 108]))
noncomputable abbrev q14 : Str := (@Str.mk (Array.mk [80, 97, 99, 116, 69, 114, 114, 111, 114]))
noncomputable abbrev q15 : Str := (@Str.mk (Array.mk [78, 111, 84, 104, 105, 110, 103]))
noncomputable abbrev q16 : Str := (@Str.mk (Array.mk [107]))
noncomputable abbrev q17 : Str := (@Str.mk (Array.mk [95, 95, 109, 111, 100, 117, 108, 101, 95, 95]))
noncomputable abbrev q18 : Str := (@Str.mk (Array.mk [95, 95, 113, 117, 97, 108, 110, 97, 109, 101, 95, 95]))
noncomputable abbrev q19 : Str := (@Str.mk (Array.mk [95, 95, 102, 105, 114, 115, 116, 108, 105, 110, 101, 110, 111, 95, 95]))
noncomputable abbrev q20 : Str := (@Str.mk (Array.mk [95, 95, 115, 116, 97, 116, 105, 99, 95, 97, 116, 116, 114, 105, 98, 117, 116, 101, 115, 95, 95]))
noncomputable abbrev q21 : Str := (@Str.mk (Array.mk [95, 95, 119, 101, 97, 107, 114, 101, 102, 95, 95]))
noncomputable abbrev q22 : Str := (@Str.mk (Array.mk [112, 97, 99, 116, 114, 111, 111, 109, 46, 107, 105, 110, 100, 115]))
noncomputable abbrev q23 : Str := (@Str.mk (Array.mk [78, 111, 84, 101, 120, 116]))
noncomputable abbrev q24 : Str := (@Str.mk (Array.mk [95, 95, 105, 110, 105, 116, 95, 95]))
noncomputable abbrev q25 : Str := (@Str.mk (Array.mk [115, 101, 108, 102]))
noncomputable abbrev q26 : Str := (@Str.mk (Array.mk [97, 116]))
noncomputable abbrev q27 : Str := (@Str.mk (Array.mk [78, 111, 84, 101, 120, 116, 46, 95, 95, 105, 110, 105, 116, 95, 95]))
noncomputable abbrev q28 : Str := (@Str.mk (Array.mk [76, 111, 99, 107]))
noncomputable abbrev q29 : Str := (@Str.mk (Array.mk [107, 105, 110, 100]))
noncomputable abbrev q30 : Str := (@Str.mk (Array.mk [98, 101, 115, 105, 100, 101]))
noncomputable abbrev q31 : Str := (@Str.mk (Array.mk [99, 111, 118, 101, 114, 115]))
noncomputable abbrev q32 : Str := (@Str.mk (Array.mk [116, 111, 108, 100]))
noncomputable abbrev q33 : Str := (@Str.mk (Array.mk [102, 105, 114, 115, 116]))
noncomputable abbrev q34 : Str := (@Str.mk (Array.mk [108, 97, 115, 116]))
noncomputable abbrev q35 : Str := (@Str.mk (Array.mk [76, 111, 99, 107, 46, 95, 95, 105, 110, 105, 116, 95, 95]))
noncomputable abbrev q36 : Str := (@Str.mk (Array.mk [76, 111, 99, 107, 46, 107, 105, 110, 100]))
noncomputable abbrev q37 : Str := (@Str.mk (Array.mk [111, 116, 104, 101, 114]))
noncomputable abbrev q38 : Str := (@Str.mk (Array.mk [76, 111, 99, 107, 46, 98, 101, 115, 105, 100, 101]))
noncomputable abbrev q39 : Str := (@Str.mk (Array.mk [76, 111, 99, 107, 46, 99, 111, 118, 101, 114, 115]))
noncomputable abbrev q40 : Str := (@Str.mk (Array.mk [76, 111, 99, 107, 46, 116, 111, 108, 100]))
noncomputable abbrev q41 : Str := (@Str.mk (Array.mk [95, 95, 100, 105, 99, 116, 95, 95]))
noncomputable abbrev q42 : Str := (@Str.mk (Array.mk [82, 101, 97, 100]))
noncomputable abbrev q43 : Str := (@Str.mk (Array.mk [77, 101, 97, 110]))
noncomputable abbrev q44 : Str := (@Str.mk (Array.mk [82, 101, 97, 100, 46, 107, 105, 110, 100]))
noncomputable abbrev q45 : Str := (@Str.mk (Array.mk [77, 101, 97, 110, 46, 107, 105, 110, 100]))
noncomputable abbrev q46 : Str := (@Str.mk (Array.mk [112, 97, 99, 116, 114, 111, 111, 109, 46, 116, 104, 105, 110, 103, 115]))
noncomputable abbrev q47 : Str := (@Str.mk (Array.mk [67, 104, 97, 110, 103, 101]))
noncomputable abbrev q48 : Str := (@Str.mk (Array.mk [77, 79, 83, 84, 95, 70, 73, 71, 85, 82, 69, 83, 95, 116, 104, 105, 110, 103, 115]))
noncomputable abbrev q49 : Str := (@Str.mk (Array.mk [77, 79, 83, 84, 95, 83, 73, 71, 78, 83]))
noncomputable abbrev q50 : Str := (@Str.mk (Array.mk [77, 79, 83, 84, 95, 80, 65, 82, 84, 83]))
noncomputable abbrev q51 : Str := (@Str.mk (Array.mk [77, 79, 83, 84, 95, 68, 69, 69, 80]))
noncomputable abbrev q52 : Str := (@Str.mk (Array.mk [76, 79, 78, 71, 69, 83, 84]))
noncomputable abbrev q53 : Str := (@Str.mk (Array.mk [66, 76, 65, 78, 75]))
noncomputable abbrev q54 : Str := (@Str.mk (Array.mk [80, 69, 82, 67, 69, 78, 84]))
noncomputable abbrev q55 : Str := (@Str.mk (Array.mk [84, 73, 76, 68, 69]))
noncomputable abbrev q56 : Str := (@Str.mk (Array.mk [105, 115, 95, 119, 104, 111, 108, 101]))
noncomputable abbrev q57 : Str := (@Str.mk (Array.mk [115, 104, 111, 119, 110]))
noncomputable abbrev q58 : Str := (@Str.mk (Array.mk [114, 101, 97, 100, 95, 116, 104, 105, 110, 103]))
noncomputable abbrev q59 : Str := (@Str.mk (Array.mk [105, 115, 95, 115, 105, 103, 110]))
noncomputable abbrev q60 : Str := (@Str.mk (Array.mk [67, 104, 97, 110, 103, 101, 46, 107, 105, 110, 100]))
noncomputable abbrev q61 : Str := (@Str.mk (Array.mk [116, 104, 105, 110, 103]))
noncomputable abbrev q62 : Str := (@Str.mk (Array.mk [115, 105, 103, 110]))
noncomputable abbrev q63 : Str := (@Str.mk (Array.mk [110, 117, 109, 98, 101, 114]))
noncomputable abbrev q64 : Str := (@Str.mk (Array.mk [112, 97, 99, 116, 114, 111, 111, 109, 46, 115, 116, 101, 112, 115]))
noncomputable abbrev q65 : Str := (@Str.mk (Array.mk [82, 101, 97, 100, 101, 114]))
noncomputable abbrev q66 : Str := (@Str.mk (Array.mk [77, 79, 83, 84, 95, 70, 73, 71, 85, 82, 69, 83, 95, 115, 116, 101, 112, 115]))
noncomputable abbrev q67 : Str := (@Str.mk (Array.mk [112, 97, 115, 115, 101, 115]))
noncomputable abbrev q68 : Str := (@Str.mk (Array.mk [114, 101, 97, 100, 95, 97, 110, 121]))
noncomputable abbrev q69 : Str := (@Str.mk (Array.mk [114, 101, 97, 100, 95, 112, 97, 114, 116, 115]))
noncomputable abbrev q70 : Str := (@Str.mk (Array.mk [114, 101, 97, 100, 95, 98, 101, 108, 111, 119]))
noncomputable abbrev q71 : Str := (@Str.mk (Array.mk [114, 101, 97, 100, 95, 110, 117, 109, 98, 101, 114]))
noncomputable abbrev q72 : Str := (@Str.mk (Array.mk [114, 101, 97, 100, 95, 115, 105, 103, 110, 115]))
noncomputable abbrev q73 : Str := (@Str.mk (Array.mk [116, 101, 120, 116]))
noncomputable abbrev q74 : Str := (@Str.mk (Array.mk [82, 101, 97, 100, 101, 114, 46, 95, 95, 105, 110, 105, 116, 95, 95]))
noncomputable abbrev q75 : Str := (@Str.mk (Array.mk [82, 101, 97, 100, 101, 114, 46, 112, 97, 115, 115, 101, 115]))
noncomputable abbrev q76 : Str := (@Str.mk (Array.mk [100, 101, 101, 112]))
noncomputable abbrev q77 : Str := (@Str.mk (Array.mk [82, 101, 97, 100, 101, 114, 46, 114, 101, 97, 100, 95, 97, 110, 121]))
noncomputable abbrev q78 : Str := (@Str.mk (Array.mk [112, 97, 114, 116, 115]))
noncomputable abbrev q79 : Str := (@Str.mk (Array.mk [82, 101, 97, 100, 101, 114, 46, 114, 101, 97, 100, 95, 112, 97, 114, 116, 115]))
noncomputable abbrev q80 : Str := (@Str.mk (Array.mk [82, 101, 97, 100, 101, 114, 46, 114, 101, 97, 100, 95, 98, 101, 108, 111, 119]))
noncomputable abbrev q81 : Str := (@Str.mk (Array.mk [115, 116, 97, 114, 116]))
noncomputable abbrev q82 : Str := (@Str.mk (Array.mk [102, 105, 103, 117, 114, 101, 115]))
noncomputable abbrev q83 : Str := (@Str.mk (Array.mk [82, 101, 97, 100, 101, 114, 46, 114, 101, 97, 100, 95, 110, 117, 109, 98, 101, 114]))
noncomputable abbrev q84 : Str := (@Str.mk (Array.mk [109, 97, 110, 121]))
noncomputable abbrev q85 : Str := (@Str.mk (Array.mk [98, 101, 104, 105, 110, 100]))
noncomputable abbrev q86 : Str := (@Str.mk (Array.mk [115, 105, 103, 110, 115]))
noncomputable abbrev q87 : Str := (@Str.mk (Array.mk [82, 101, 97, 100, 101, 114, 46, 114, 101, 97, 100, 95, 115, 105, 103, 110, 115]))
noncomputable abbrev q88 : Str := (@Str.mk (Array.mk [112, 108, 97, 99, 101]))
noncomputable abbrev q89 : Str := (@Str.mk (Array.mk [83, 72, 65, 80, 69, 83]))
noncomputable abbrev q90 : Str := (@Str.mk (Array.mk [83, 116, 101, 112]))
noncomputable abbrev q91 : Str := (@Str.mk (Array.mk [116, 97, 107, 101]))
noncomputable abbrev q92 : Str := (@Str.mk (Array.mk [72, 67]))
noncomputable abbrev q93 : Str := (@Str.mk (Array.mk [109, 101, 97, 110]))
noncomputable abbrev q94 : Str := (@Str.mk (Array.mk [115, 117, 109]))
noncomputable abbrev q95 : Str := (@Str.mk (Array.mk [72, 65, 66]))
noncomputable abbrev q96 : Str := (@Str.mk (Array.mk [103, 105, 118, 101]))
noncomputable abbrev q97 : Str := (@Str.mk (Array.mk [97, 100, 100]))
noncomputable abbrev q98 : Str := (@Str.mk (Array.mk [72, 67, 86]))
noncomputable abbrev q99 : Str := (@Str.mk (Array.mk [112, 108, 117, 115]))
noncomputable abbrev q100 : Str := (@Str.mk (Array.mk [86]))
noncomputable abbrev q101 : Str := (@Str.mk (Array.mk [110, 101, 101, 100]))
noncomputable abbrev q102 : Str := (@Str.mk (Array.mk [104, 111, 117, 115, 101]))
noncomputable abbrev q103 : Str := (@Str.mk (Array.mk [108, 111, 99, 107]))
noncomputable abbrev q104 : Str := (@Str.mk (Array.mk [115, 116, 101, 112, 95, 100, 111, 110, 101]))
noncomputable abbrev q105 : Str := (@Str.mk (Array.mk [98, 97, 99, 107]))
noncomputable abbrev q106 : Str := (@Str.mk (Array.mk [115, 117, 114, 101]))
noncomputable abbrev q107 : Str := (@Str.mk (Array.mk [115, 112, 101, 108, 108, 101, 100]))
noncomputable abbrev q108 : Str := (@Str.mk (Array.mk [83, 116, 101, 112, 46, 104, 111, 117, 115, 101]))
noncomputable abbrev q109 : Str := (@Str.mk (Array.mk [83, 116, 101, 112, 46, 108, 111, 99, 107]))
noncomputable abbrev q110 : Str := (@Str.mk (Array.mk [104, 97, 110, 100]))
noncomputable abbrev q111 : Str := (@Str.mk (Array.mk [118, 97, 108, 117, 101, 95, 111, 102]))
noncomputable abbrev q112 : Str := (@Str.mk (Array.mk [83, 116, 101, 112, 46, 115, 116, 101, 112, 95, 100, 111, 110, 101]))
noncomputable abbrev q113 : Str := (@Str.mk (Array.mk [83, 116, 101, 112, 46, 98, 97, 99, 107]))
noncomputable abbrev q114 : Str := (@Str.mk (Array.mk [83, 116, 101, 112, 46, 115, 117, 114, 101]))
noncomputable abbrev q115 : Str := (@Str.mk (Array.mk [83, 116, 101, 112, 46, 115, 112, 101, 108, 108, 101, 100]))
noncomputable abbrev q116 : Str := (@Str.mk (Array.mk [67, 101, 108, 108, 83, 116, 101, 112]))
noncomputable abbrev q117 : Str := (@Str.mk (Array.mk [119, 104, 101, 114, 101]))
noncomputable abbrev q118 : Str := (@Str.mk (Array.mk [99, 101, 108, 108]))
noncomputable abbrev q119 : Str := (@Str.mk (Array.mk [67, 101, 108, 108, 83, 116, 101, 112, 46, 95, 95, 105, 110, 105, 116, 95, 95]))
noncomputable abbrev q120 : Str := (@Str.mk (Array.mk [67, 101, 108, 108, 83, 116, 101, 112, 46, 104, 111, 117, 115, 101]))
noncomputable abbrev q121 : Str := (@Str.mk (Array.mk [84, 97, 107, 101, 83, 116, 101, 112]))
noncomputable abbrev q122 : Str := (@Str.mk (Array.mk [84, 97, 107, 101, 83, 116, 101, 112, 46, 108, 111, 99, 107]))
noncomputable abbrev q123 : Str := (@Str.mk (Array.mk [84, 97, 107, 101, 83, 116, 101, 112, 46, 115, 116, 101, 112, 95, 100, 111, 110, 101]))
noncomputable abbrev q124 : Str := (@Str.mk (Array.mk [84, 97, 107, 101, 83, 116, 101, 112, 46, 115, 112, 101, 108, 108, 101, 100]))
noncomputable abbrev q125 : Str := (@Str.mk (Array.mk [77, 101, 97, 110, 83, 116, 101, 112]))
noncomputable abbrev q126 : Str := (@Str.mk (Array.mk [77, 101, 97, 110, 83, 116, 101, 112, 46, 108, 111, 99, 107]))
noncomputable abbrev q127 : Str := (@Str.mk (Array.mk [77, 101, 97, 110, 83, 116, 101, 112, 46, 115, 116, 101, 112, 95, 100, 111, 110, 101]))
noncomputable abbrev q128 : Str := (@Str.mk (Array.mk [77, 101, 97, 110, 83, 116, 101, 112, 46, 115, 112, 101, 108, 108, 101, 100]))
noncomputable abbrev q129 : Str := (@Str.mk (Array.mk [83, 117, 109, 83, 116, 101, 112]))
noncomputable abbrev q130 : Str := (@Str.mk (Array.mk [108, 111, 119]))
noncomputable abbrev q131 : Str := (@Str.mk (Array.mk [104, 105, 103, 104]))
noncomputable abbrev q132 : Str := (@Str.mk (Array.mk [83, 117, 109, 83, 116, 101, 112, 46, 95, 95, 105, 110, 105, 116, 95, 95]))
noncomputable abbrev q133 : Str := (@Str.mk (Array.mk [83, 117, 109, 83, 116, 101, 112, 46, 104, 111, 117, 115, 101]))
noncomputable abbrev q134 : Str := (@Str.mk (Array.mk [83, 117, 109, 83, 116, 101, 112, 46, 108, 111, 99, 107]))
noncomputable abbrev q135 : Str := (@Str.mk (Array.mk [83, 117, 109, 83, 116, 101, 112, 46, 115, 116, 101, 112, 95, 100, 111, 110, 101]))
noncomputable abbrev q136 : Str := (@Str.mk (Array.mk [83, 117, 109, 83, 116, 101, 112, 46, 115, 112, 101, 108, 108, 101, 100]))
noncomputable abbrev q137 : Str := (@Str.mk (Array.mk [71, 105, 118, 101, 83, 116, 101, 112]))
noncomputable abbrev q138 : Str := (@Str.mk (Array.mk [71, 105, 118, 101, 83, 116, 101, 112, 46, 108, 111, 99, 107]))
noncomputable abbrev q139 : Str := (@Str.mk (Array.mk [71, 105, 118, 101, 83, 116, 101, 112, 46, 115, 116, 101, 112, 95, 100, 111, 110, 101]))
noncomputable abbrev q140 : Str := (@Str.mk (Array.mk [71, 105, 118, 101, 83, 116, 101, 112, 46, 115, 117, 114, 101]))
noncomputable abbrev q141 : Str := (@Str.mk (Array.mk [71, 105, 118, 101, 83, 116, 101, 112, 46, 115, 112, 101, 108, 108, 101, 100]))
noncomputable abbrev q142 : Str := (@Str.mk (Array.mk [65, 100, 100, 83, 116, 101, 112]))
noncomputable abbrev q143 : Str := (@Str.mk (Array.mk [97, 109, 111, 117, 110, 116]))
noncomputable abbrev q144 : Str := (@Str.mk (Array.mk [65, 100, 100, 83, 116, 101, 112, 46, 95, 95, 105, 110, 105, 116, 95, 95]))
noncomputable abbrev q145 : Str := (@Str.mk (Array.mk [65, 100, 100, 83, 116, 101, 112, 46, 108, 111, 99, 107]))
noncomputable abbrev q146 : Str := (@Str.mk (Array.mk [65, 100, 100, 83, 116, 101, 112, 46, 115, 116, 101, 112, 95, 100, 111, 110, 101]))
noncomputable abbrev q147 : Str := (@Str.mk (Array.mk [65, 100, 100, 83, 116, 101, 112, 46, 98, 97, 99, 107]))
noncomputable abbrev q148 : Str := (@Str.mk (Array.mk [65, 100, 100, 83, 116, 101, 112, 46, 115, 112, 101, 108, 108, 101, 100]))
noncomputable abbrev q149 : Str := (@Str.mk (Array.mk [80, 108, 117, 115, 83, 116, 101, 112]))
noncomputable abbrev q150 : Str := (@Str.mk (Array.mk [80, 108, 117, 115, 83, 116, 101, 112, 46, 95, 95, 105, 110, 105, 116, 95, 95]))
noncomputable abbrev q151 : Str := (@Str.mk (Array.mk [80, 108, 117, 115, 83, 116, 101, 112, 46, 115, 116, 101, 112, 95, 100, 111, 110, 101]))
noncomputable abbrev q152 : Str := (@Str.mk (Array.mk [80, 108, 117, 115, 83, 116, 101, 112, 46, 115, 112, 101, 108, 108, 101, 100]))
noncomputable abbrev q153 : Str := (@Str.mk (Array.mk [108, 97, 119, 95, 112, 97, 99, 116, 114, 111, 111, 109, 95, 107, 50, 49, 95, 115, 116, 101, 112, 115, 95, 116, 104, 101, 114, 101, 95, 97, 110, 100, 95, 98, 97, 99, 107]))
noncomputable abbrev q154 : Str := (@Str.mk (Array.mk [78, 101, 101, 100, 83, 116, 101, 112]))
noncomputable abbrev q155 : Str := (@Str.mk (Array.mk [115, 112, 101, 108, 108]))
noncomputable abbrev q156 : Str := (@Str.mk (Array.mk [114, 101, 97, 100, 95, 115, 116, 101, 112]))
noncomputable abbrev q157 : Str := (@Str.mk (Array.mk [109, 97, 100, 101, 95, 115, 116, 101, 112]))
noncomputable abbrev q158 : Str := (@Str.mk (Array.mk [109, 97, 100, 101, 95, 115, 117, 109]))
noncomputable abbrev q159 : Str := (@Str.mk (Array.mk [95, 108, 97, 119, 95, 119, 104, 111, 108, 101]))
noncomputable abbrev q160 : Str := (@Str.mk (Array.mk [95, 108, 97, 119, 95, 109, 105, 120, 101, 100]))
noncomputable abbrev q161 : Str := (@Str.mk (Array.mk [78, 101, 101, 100, 83, 116, 101, 112, 46, 95, 95, 105, 110, 105, 116, 95, 95]))
noncomputable abbrev q162 : Str := (@Str.mk (Array.mk [78, 101, 101, 100, 83, 116, 101, 112, 46, 115, 116, 101, 112, 95, 100, 111, 110, 101]))
noncomputable abbrev q163 : Str := (@Str.mk (Array.mk [78, 101, 101, 100, 83, 116, 101, 112, 46, 115, 112, 101, 108, 108, 101, 100]))
noncomputable abbrev q164 : Str := (@Str.mk (Array.mk [119, 111, 114, 100]))
noncomputable abbrev q165 : Str := (@Str.mk (Array.mk [108, 101, 116, 116, 101, 114]))
noncomputable abbrev q166 : Str := (@Str.mk (Array.mk [110, 117, 109, 98, 101, 114, 115]))
noncomputable abbrev q167 : Str := (@Str.mk (Array.mk [95, 108, 97, 119, 95, 102, 111, 117, 110, 100]))
noncomputable abbrev q168 : Str := (@Str.mk (Array.mk [95, 108, 97, 119, 95, 99, 101, 108, 108]))
noncomputable abbrev q169 : Str := (@Str.mk (Array.mk [95, 108, 97, 119, 95, 107]))
noncomputable abbrev q170 : Str := (@Str.mk (Array.mk [95, 108, 97, 119, 95, 110, 117, 109, 98, 101, 114, 95, 104, 101, 114, 101]))
noncomputable abbrev q171 : Str := (@Str.mk (Array.mk [95, 108, 97, 119, 95, 110, 117, 109, 98, 101, 114]))
noncomputable abbrev q172 : Str := (@Str.mk (Array.mk [95, 108, 97, 119, 95, 101, 105, 116, 104, 101, 114]))
noncomputable abbrev q173 : Str := (@Str.mk (Array.mk [95, 108, 97, 119, 95, 115, 116, 101, 112]))
noncomputable abbrev q174 : Str := (@Str.mk (Array.mk [95, 108, 97, 119, 95, 116, 101, 120, 116]))
noncomputable abbrev q175 : Str := (@Str.mk (Array.mk [95, 108, 97, 119, 95, 109, 97, 100, 101]))
noncomputable abbrev q176 : Str := (@Str.mk (Array.mk [95, 108, 97, 119, 95, 108, 111, 99, 107, 95, 114, 105, 103, 104, 116]))
noncomputable abbrev q177 : Str := (@Str.mk (Array.mk [95, 108, 97, 119, 95, 114, 105, 103, 104, 116]))
noncomputable abbrev q178 : Str := (@Str.mk (Array.mk [108, 97, 119]))
noncomputable abbrev q179 : Str := (@Str.mk (Array.mk [95, 108, 97, 119, 95, 106]))
noncomputable abbrev q180 : Str := (@Str.mk (Array.mk [95, 108, 97, 119, 95, 119, 111, 114, 100]))
noncomputable abbrev q181 : Str := (@Str.mk (Array.mk [95, 108, 97, 119, 95, 119, 104, 101, 114, 101]))
noncomputable abbrev q182 : Str := (@Str.mk (Array.mk [95, 108, 97, 119, 95, 111, 110, 101]))
noncomputable abbrev q183 : Str := (@Str.mk (Array.mk [95, 108, 97, 119, 95, 111, 116, 104, 101, 114]))
noncomputable abbrev q184 : Str := (@Str.mk (Array.mk [95, 108, 97, 119, 95, 115, 116, 101, 112, 95, 104, 101, 114, 101]))
noncomputable abbrev q185 : Str := (@Str.mk (Array.mk [95, 108, 97, 119, 95, 107, 105, 110, 100, 115]))
noncomputable abbrev q186 : Str := (@Str.mk (Array.mk [95, 108, 97, 119, 95, 115, 99, 114, 105, 112, 116]))
noncomputable abbrev q187 : Str := (@Str.mk (Array.mk [95, 108, 97, 119, 95, 99, 101, 108, 108, 115]))
noncomputable abbrev y0 : Value := (@Value.type SL.s2766695959194262286x5)
noncomputable abbrev y1 : Value := (@Value.type SL.s5856160107412720595x4)
noncomputable abbrev y2 : Value := (@Value.type SL.s658472552662922059x5)
noncomputable abbrev y3 : Value := (@Value.type SL.s14018661285674007319x4)
noncomputable abbrev y4 : Value := (@Value.builtin SL.s7097527257260152453x26)
noncomputable abbrev y5 : Value := (@Value.type SL.s7174869446012820540x8)
noncomputable abbrev y6 : Value := (@Value.type SL.s6070975301684473832x10)
noncomputable abbrev y7 : Value := (@Value.type SL.s11030030927630378310x26)
noncomputable abbrev y8 : Value := (@Value.builtin SL.s10062305145149207511x16)
noncomputable abbrev y9 : Value := (@Value.type SL.s17162191345867700912x4)
noncomputable abbrev y10 : Value := (@Value.type SL.s5946037652744460706x9)
noncomputable abbrev y11 : Value := (@Value.type SL.s4278001404047624695x13)
noncomputable abbrev y12 : Value := (@Value.type SL.s2742458400755230247x6)
noncomputable abbrev y13 : Value := (@Value.builtin SL.s4209523147560561109x18)
noncomputable abbrev y14 : Value := (@Value.type SL.s14755015743595814543x17)
noncomputable abbrev y15 : Value := (@Value.builtin SL.s10220274742760427390x26)
noncomputable abbrev y16 : Value := (@Value.type SL.s4290257624100764138x5)
noncomputable abbrev y17 : Value := (@Value.builtin SL.s4860613602091757760x24)
noncomputable abbrev y18 : Value := (@Value.builtin SL.s11443829558043349243x14)
noncomputable abbrev y19 : Value := (@Value.builtin SL.s6511155373996960695x17)
noncomputable abbrev y20 : Value := (@Value.builtin SL.s12411053484034534018x21)
noncomputable abbrev p0 : Program := PySem.Challenge.pw_pactroom_k21_steps_there_and_back
noncomputable abbrev pq : Program := PySem.W.Fast.tw18149993185101894435
theorem pe : p0 = pq := PySem.W.Fast.te18149993185101894435
noncomputable def B (i : Nat) : Stmt := pq.main.body.getD i (.Pass ⟨0, 0, 0, 0⟩)
noncomputable def T (i : Nat) : Stmt := p0.main.body.getD i (.Pass ⟨0, 0, 0, 0⟩)
noncomputable def M (k j : Nat) : Stmt := L2.inClass (B k) j
noncomputable def N (k j : Nat) : Stmt := L2.inClass (T k) j
noncomputable abbrev fk (a b : Str) (s : Stmt) := FuncData.mk a b (L2.defArgs s) (.stmts (L2.defBody s)) (L2.defScope s)
noncomputable def a11 (P : Params) : Obj := (Obj.mk y0 none (Data.seq E 0) E)
noncomputable def a12 (P : Params) : Obj := (Obj.mk vn none (Data.fields E) E)
noncomputable def m0 (P : Params) (x0 : Str) (x1 : Nat) (x2 : Nat) (x3 : Nat) (x4 : Int) (x5 : Nat) (x6 : Nat) (x7 : Int) (x8 : Nat) : Obj := (Obj.mk y1 none (Data.fields (A [(vs x0 x1), (vs x0 x2), (vs q1 x3), (vi x4 0), (vi 0 0), (vi 0 0), (vi 0 0), (vi 0 0), (vr x5), vF, (vi 181 0), (vr x6), vn, vn, vn, vn, (vi x7 0), (vi x4 0), (vs q1 x8)])) E)
noncomputable def a13 (P : Params) : Obj := m0 P q0 182 183 184 1 11 12 185 186
noncomputable def m1 (P : Params) (x0 : Nat) (x1 : Nat) (x2 : Str) (x3 : Nat) : Obj := (Obj.mk y2 none Data.plain (A [(sr x0), (sr 3), (sr x1), none, (some (vs x2 x3)), none, (sr 0)]))
noncomputable def a14 (P : Params) : Obj := m1 P 13 3 q2 164
noncomputable def u0 (P : Params) : BT := (nd (boot_o_0 P) (nd (boot_o_1 P) (nd (boot_o_3 P) (l1 (boot_o_7 P)) (l1 (a11 P))) (nd (boot_o_5 P) (l1 (boot_o_9 P)) (l1 (a13 P)))) (nd (boot_o_2 P) (nd (boot_o_4 P) (l1 (boot_o_8 P)) (l1 (a12 P))) (nd (boot_o_6 P) (l1 (boot_o_10 P)) (l1 (a14 P)))))
noncomputable def ta (P : Params) : BT := (u0 P)
noncomputable def sa (w : World) (os : OsState) : SharedT := SharedT.mk (ta w.params) 15 (@Life.mk [] [] [] 0 [] [] Bool.false E [] 0 Bool.false Bool.false Bool.false 0 [2000, 10, 10] Bool.false 0 Bool.true [] [] 0 Bool.false) E (@Drawn.mk 0 0 0 0) 187 os
noncomputable def tb (P : Params) : BT := (u0 P)
noncomputable def sb (w : World) (os : OsState) : SharedT := SharedT.mk (tb w.params) 15 (@Life.mk [] [] [] 0 [] [] Bool.false E [] 0 Bool.false Bool.false Bool.false 0 [2000, 10, 10] Bool.false 0 Bool.true [] [] 0 Bool.false) E (@Drawn.mk 0 0 0 0) 187 os
noncomputable def c0_3 (P : Params) : Obj := (Obj.mk y3 none (Data.dict (A [(de P q3 165 (vs q4 194)), (de P q5 166 vn), (de P q6 167 vn), (de P q7 168 y4), (de P q8 169 vn), (de P q9 170 (vr 6)), (de P q10 171 (vr 4)), (de P q11 173 (vs q1 172)), (de P q12 174 vn), (de P q13 193 (vr 21)), (de P q14 213 (vr 31)), (de P q15 229 (vr 44))]) 12) E)
noncomputable def m2 (P : Params) (x0 : Int) (x1 : Int) (x2 : Nat) (x3 : Int) (x4 : Nat) (x5 : Int) (x6 : Nat) : Obj := (Obj.mk vn none (Data.fields (A [(vi x0 0), (vi x1 0), (vr x2), (vi x3 0), (vi x1 0), (vr x4), (vi x5 0), (vi x1 0), (vr x6)])) E)
noncomputable def c0_12 (P : Params) : Obj := m2 P 1 0 20 5 27 7 40
noncomputable def m3 (P : Params) (x0 : Str) (x1 : Nat) : Obj := (Obj.mk y0 none (Data.seq (A [(vs x0 x1)]) 0) E)
noncomputable def c0_17 (P : Params) : Obj := m3 P q16 190
noncomputable def m4 (P : Params) (x0 : Str) (x1 : Str) (x2 : Stmt) : Obj := (Obj.mk vn none (Data.func (fk x0 x1 x2 0 [] vn vn vn vn none vn vn 0)) E)
noncomputable def c0_19 (P : Params) : Obj := m4 P q13 q13 (B 0)
noncomputable def m5 (P : Params) (x0 : Str) (x1 : Nat) (x2 : Str) (x3 : Nat) (x4 : Nat) (x5 : Int) (x6 : Int) (x7 : Nat) (x8 : Nat) (x9 : Nat) (x10 : Nat) (x11 : Nat) (x12 : Int) (x13 : Nat) : Obj := (Obj.mk y1 none (Data.fields (A [(vs x0 x1), (vs x2 x3), (vs q1 x4), (vi x5 0), (vi x6 0), (vi 0 0), (vi 0 0), (vi 3 0), (vr x7), vT, (vi 181 0), (vr x8), vn, (vr x9), (vr x10), (vr x11), (vi x12 0), (vi x5 0), (vs q1 x13)])) E)
noncomputable def c0_20 (P : Params) : Obj := m5 P q13 187 q13 188 189 1 1 15 16 17 18 19 191 192
noncomputable def m6 (P : Params) (x0 : Str) (x1 : Str) (x2 : Stmt) (x3 : Str) (x4 : Nat) (x5 : Nat) : Obj := (Obj.mk y5 none (Data.func (fk x0 x1 x2 3 [] vn vn vn (vs x3 x4) none (vr x5) vn 0)) E)
noncomputable def c0_21 (P : Params) : Obj := m6 P q13 q13 (B 0) q2 164 20
noncomputable def c0_22 (P : Params) : Obj := (Obj.mk y0 none (Data.seq (A [y6]) 0) E)
noncomputable def c0_23 (P : Params) : Obj := (Obj.mk y7 none (Data.fields (A [y8, y9])) E)
noncomputable def c0_24 (P : Params) : Obj := (Obj.mk y3 none (Data.dict (A [(de P q17 203 (vs q4 194)), (de P q18 205 (vs q14 204)), (de P q19 207 (vi 5 206)), (de P q20 208 (vr 29))]) 4) E)
noncomputable def c0_27 (P : Params) : Obj := m0 P q14 198 199 200 5 25 26 201 202
noncomputable def c0_28 (P : Params) : Obj := m1 P 27 24 q4 194
noncomputable def c0_30 (P : Params) : Obj := (Obj.mk y3 none (Data.dict (A [(de P q17 203 (vs q4 194)), (de P q19 207 (vi 5 206)), (de P q20 208 (vr 29)), (de P q21 210 (vr 32)), (de P q5 211 vn)]) 3) E)
noncomputable def c0_31 (P : Params) : Obj := (Obj.mk y9 none (Data.cls (ClassData.mk q14 [y6] [(vr 31), y6, y10, y11, y12] 30 q14 Bool.true [] [(vr 44)] Bool.false none Bool.false)) (A [(sr 22), none, (some (vs q14 196)), (some (vs q14 204)), (some y13), (some vT)]))
noncomputable def m7 (P : Params) (x0 : Nat) (x1 : Nat) : Obj := (Obj.mk y14 none (Data.fields (A [(vs q21 x0), (vr x1), y15, vn])) E)
noncomputable def c0_32 (P : Params) : Obj := m7 P 209 31
noncomputable def m8 (P : Params) (x0 : Nat) : Obj := (Obj.mk y16 none (Data.fields (A [(vr x0), (vr x0), (vr x0)])) E)
noncomputable def c0_33 (P : Params) : Obj := m8 P 31
noncomputable def m9 (P : Params) (x0 : Nat) : Obj := (Obj.mk y7 none (Data.fields (A [y17, (vr x0)])) E)
noncomputable def c0_34 (P : Params) : Obj := m9 P 31
noncomputable def m10 (P : Params) (x0 : Nat) : Obj := (Obj.mk y0 none (Data.seq (A [(vr x0)]) 0) E)
noncomputable def c0_35 (P : Params) : Obj := m10 P 31
noncomputable def c0_37 (P : Params) : Obj := (Obj.mk y3 none (Data.dict (A [(de P q17 221 (vs q4 194)), (de P q18 223 (vs q15 222)), (de P q19 225 (vi 7 224)), (de P q20 226 (vr 42))]) 4) E)
noncomputable def c0_40 (P : Params) : Obj := m0 P q15 216 217 218 7 38 39 219 220
noncomputable def c0_41 (P : Params) : Obj := m1 P 40 37 q4 194
noncomputable def c0_43 (P : Params) : Obj := (Obj.mk y3 none (Data.dict (A [(de P q17 221 (vs q4 194)), (de P q19 225 (vi 7 224)), (de P q20 226 (vr 42)), (de P q5 227 vn)]) 2) E)
noncomputable def c0_44 (P : Params) : Obj := (Obj.mk y9 none (Data.cls (ClassData.mk q15 [(vr 31)] [(vr 44), (vr 31), y6, y10, y11, y12] 43 q15 Bool.true [] [] Bool.false none Bool.false)) (A [(sr 35), none, (some (vs q15 214)), (some (vs q15 222)), (some y13), (some vT)]))
noncomputable def c0_45 (P : Params) : Obj := m8 P 44
noncomputable def c0_46 (P : Params) : Obj := m9 P 44
noncomputable def tc0_ (P : Params) : BT := (nd (boot_o_0 P) (nd (boot_o_1 P) (nd (c0_3 P) (nd (boot_o_7 P) (nd (a11 P) (l1 (c0_31 P)) .nil) (nd (c0_23 P) (l1 (a12 P)) .nil)) (nd (a11 P) (nd (c0_19 P) (l1 (c0_35 P)) .nil) (nd (c0_27 P) (l1 (c0_43 P)) .nil))) (nd (boot_o_5 P) (nd (boot_o_9 P) (nd (c0_17 P) (l1 (c0_33 P)) .nil) (nd (a11 P) (l1 (c0_41 P)) .nil)) (nd (a13 P) (nd (c0_21 P) (l1 (c0_37 P)) .nil) (nd (a11 P) (l1 (c0_45 P)) .nil)))) (nd (boot_o_2 P) (nd (boot_o_4 P) (nd (boot_o_8 P) (nd (a12 P) (l1 (c0_32 P)) .nil) (nd (c0_24 P) (l1 (c0_40 P)) .nil)) (nd (c0_12 P) (nd (c0_20 P) (l1 (c0_23 P)) .nil) (nd (c0_28 P) (l1 (c0_44 P)) .nil))) (nd (boot_o_6 P) (nd (boot_o_10 P) (nd (a11 P) (l1 (c0_34 P)) .nil) (nd (a12 P) (l1 (a11 P)) .nil)) (nd (a14 P) (nd (c0_22 P) (l1 (a11 P)) .nil) (nd (c0_30 P) (l1 (c0_46 P)) .nil)))))
noncomputable def sc0_ (w : World) (os : OsState) : SharedT := SharedT.mk (tc0_ w.params) 47 (@Life.mk [] [] [] 0 [] [] Bool.false E [] 0 Bool.false Bool.false Bool.false 0 [2000, 10, 10] Bool.false 0 Bool.true [] [] 0 Bool.false) E (@Drawn.mk 0 0 0 0) 230 os
noncomputable def c1_3 (P : Params) : Obj := (Obj.mk y3 none (Data.dict (A [(de P q3 165 (vs q22 255)), (de P q5 166 vn), (de P q6 167 vn), (de P q7 168 y4), (de P q8 169 vn), (de P q9 170 (vr 6)), (de P q10 171 (vr 4)), (de P q11 173 (vs q1 172)), (de P q12 174 vn), (de P q13 193 (vr 21)), (de P q14 213 (vr 31)), (de P q15 229 (vr 44)), (de P q23 254 (vr 63))]) 13) E)
noncomputable def c1_12 (P : Params) : Obj := (Obj.mk vn none (Data.fields (A [(vi 1 0), (vi 0 0), (vr 20), (vi 5 0), (vi 0 0), (vr 27), (vi 7 0), (vi 0 0), (vr 40), (vi 9 0), (vi 0 0), (vr 52)])) E)
noncomputable def c1_31 (P : Params) : Obj := (Obj.mk y9 none (Data.cls (ClassData.mk q14 [y6] [(vr 31), y6, y10, y11, y12] 30 q14 Bool.true [] [(vr 44), (vr 63)] Bool.false none Bool.false)) (A [(sr 22), none, (some (vs q14 196)), (some (vs q14 204)), (some y13), (some vT)]))
noncomputable def m11 (P : Params) (x0 : Nat) (x1 : Str) (x2 : Nat) (x3 : Nat) (x4 : Str) (x5 : Nat) (x6 : Nat) (x7 : Int) (x8 : Nat) (x9 : Str) (x10 : Nat) (x11 : Nat) (x12 : Nat) (x13 : Nat) : Obj := (Obj.mk y3 none (Data.dict (A [(de P q17 x0 (vs x1 x2)), (de P q18 x3 (vs x4 x5)), (de P q19 x6 (vi x7 x8)), (de P x9 x10 (vr x11)), (de P q20 x12 (vr x13))]) 5) E)
noncomputable def c1_49 (P : Params) : Obj := m11 P 237 q4 194 239 q23 238 241 9 240 q24 249 60 251 61
noncomputable def m12 (P : Params) (x0 : Int) (x1 : Nat) : Obj := (Obj.mk vn none (Data.fields (A [(vi x0 0), (vi 4 0), (vr x1)])) E)
noncomputable def c1_51 (P : Params) : Obj := m12 P 11 59
noncomputable def c1_52 (P : Params) : Obj := m0 P q23 232 233 234 9 50 51 235 236
noncomputable def c1_53 (P : Params) : Obj := m1 P 52 49 q4 194
noncomputable def m13 (P : Params) (x0 : Str) (x1 : Nat) (x2 : Str) (x3 : Nat) : Obj := (Obj.mk y0 none (Data.seq (A [(vs x0 x1), (vs x2 x3)]) 0) E)
noncomputable def c1_56 (P : Params) : Obj := m13 P q25 245 q26 246
noncomputable def c1_58 (P : Params) : Obj := m4 P q24 q27 (M 4 0)
noncomputable def c1_59 (P : Params) : Obj := m5 P q24 242 q27 243 244 11 2 54 55 56 57 58 247 248
noncomputable def c1_60 (P : Params) : Obj := m6 P q24 q27 (M 4 0) q4 194 59
noncomputable def c1_61 (P : Params) : Obj := m3 P q26 250
noncomputable def m14 (P : Params) (x0 : Nat) (x1 : Str) (x2 : Nat) (x3 : Nat) (x4 : Int) (x5 : Nat) (x6 : Str) (x7 : Nat) (x8 : Nat) (x9 : Nat) (x10 : Nat) (x11 : Nat) : Obj := (Obj.mk y3 none (Data.dict (A [(de P q17 x0 (vs x1 x2)), (de P q19 x3 (vi x4 x5)), (de P x6 x7 (vr x8)), (de P q20 x9 (vr x10)), (de P q5 x11 vn)]) 2) E)
noncomputable def c1_62 (P : Params) : Obj := m14 P 237 q4 194 241 9 240 q24 249 60 251 61 252
noncomputable def c1_63 (P : Params) : Obj := (Obj.mk y9 none (Data.cls (ClassData.mk q23 [(vr 31)] [(vr 63), (vr 31), y6, y10, y11, y12] 62 q23 Bool.true [] [] Bool.false none Bool.false)) (A [(sr 47), none, (some (vs q23 230)), (some (vs q23 238)), (some y13), (some vT)]))
noncomputable def c1_64 (P : Params) : Obj := m8 P 63
noncomputable def c1_65 (P : Params) : Obj := m9 P 63
noncomputable def tc1_ (P : Params) : BT := (nd (boot_o_0 P) (nd (boot_o_1 P) (nd (c1_3 P) (nd (boot_o_7 P) (nd (a11 P) (nd (c1_31 P) (l1 (c1_63 P)) .nil) (l1 (c0_35 P))) (nd (c0_23 P) (l1 (a12 P)) (l1 (a12 P)))) (nd (a11 P) (nd (c0_19 P) (l1 (c0_35 P)) (l1 (c1_51 P))) (nd (c0_27 P) (l1 (c0_43 P)) (l1 (c1_59 P))))) (nd (boot_o_5 P) (nd (boot_o_9 P) (nd (c0_17 P) (nd (c0_33 P) (l1 (c1_65 P)) .nil) (l1 (c1_49 P))) (nd (a11 P) (l1 (c0_41 P)) (l1 (a11 P)))) (nd (a13 P) (nd (c0_21 P) (l1 (c0_37 P)) (l1 (c1_53 P))) (nd (a11 P) (l1 (c0_45 P)) (l1 (c1_61 P)))))) (nd (boot_o_2 P) (nd (boot_o_4 P) (nd (boot_o_8 P) (nd (a12 P) (nd (c0_32 P) (l1 (c1_64 P)) .nil) (l1 (c0_23 P))) (nd (c0_24 P) (l1 (c0_40 P)) (l1 (c1_56 P)))) (nd (c1_12 P) (nd (c0_20 P) (l1 (c0_23 P)) (l1 (c1_52 P))) (nd (c0_28 P) (l1 (c0_44 P)) (l1 (c1_60 P))))) (nd (boot_o_6 P) (nd (boot_o_10 P) (nd (a11 P) (l1 (c0_34 P)) (l1 (a11 P))) (nd (a12 P) (l1 (a11 P)) (l1 (c1_58 P)))) (nd (a14 P) (nd (c0_22 P) (l1 (a11 P)) (l1 (a11 P))) (nd (c0_30 P) (l1 (c0_46 P)) (l1 (c1_62 P)))))))
noncomputable def sc1_ (w : World) (os : OsState) : SharedT := SharedT.mk (tc1_ w.params) 66 (@Life.mk [] [] [] 0 [] [] Bool.false E [] 0 Bool.false Bool.false Bool.false 0 [2000, 10, 10] Bool.false 0 Bool.true [] [] 0 Bool.false) E (@Drawn.mk 0 0 0 0) 257 os
noncomputable def c2_3 (P : Params) : Obj := (Obj.mk y3 none (Data.dict (A [(de P q3 165 (vs q22 255)), (de P q5 166 vn), (de P q6 167 vn), (de P q7 168 y4), (de P q8 169 vn), (de P q9 170 (vr 6)), (de P q10 171 (vr 4)), (de P q11 173 (vs q1 172)), (de P q12 174 vn), (de P q13 193 (vr 21)), (de P q14 213 (vr 31)), (de P q15 229 (vr 44)), (de P q23 254 (vr 63)), (de P q28 317 (vr 110))]) 14) E)
noncomputable def m15 (P : Params) (x0 : Int) (x1 : Int) (x2 : Nat) (x3 : Int) (x4 : Nat) (x5 : Int) (x6 : Nat) (x7 : Int) (x8 : Nat) (x9 : Int) (x10 : Nat) : Obj := (Obj.mk vn none (Data.fields (A [(vi x0 0), (vi x1 0), (vr x2), (vi x3 0), (vi x1 0), (vr x4), (vi x5 0), (vi x1 0), (vr x6), (vi x7 0), (vi x1 0), (vr x8), (vi x9 0), (vi x1 0), (vr x10)])) E)
noncomputable def c2_12 (P : Params) : Obj := m15 P 1 0 20 5 27 7 40 9 52 14 71
noncomputable def c2_68 (P : Params) : Obj := (Obj.mk y3 none (Data.dict (A [(de P q17 264 (vs q22 255)), (de P q18 266 (vs q28 265)), (de P q19 268 (vi 14 267)), (de P q24 277 (vr 79)), (de P q29 284 (vr 86)), (de P q30 292 (vr 93)), (de P q31 300 (vr 100)), (de P q32 307 (vr 107)), (de P q20 310 (vr 108))]) 9) E)
noncomputable def c2_70 (P : Params) : Obj := m15 P 16 4 78 20 85 23 92 26 99 29 106
noncomputable def c2_71 (P : Params) : Obj := m0 P q28 259 260 261 14 69 70 262 263
noncomputable def c2_72 (P : Params) : Obj := m1 P 71 68 q22 255
noncomputable def m16 (P : Params) (x0 : Str) (x1 : Nat) (x2 : Str) (x3 : Nat) (x4 : Str) (x5 : Nat) : Obj := (Obj.mk y0 none (Data.seq (A [(vs x0 x1), (vs x2 x3), (vs x4 x5)]) 0) E)
noncomputable def c2_75 (P : Params) : Obj := m16 P q25 272 q33 273 q34 274
noncomputable def c2_77 (P : Params) : Obj := m4 P q24 q35 (M 6 0)
noncomputable def c2_78 (P : Params) : Obj := m5 P q24 269 q35 270 271 16 3 73 74 75 76 77 275 276
noncomputable def c2_79 (P : Params) : Obj := m6 P q24 q35 (M 6 0) q22 255 78
noncomputable def c2_82 (P : Params) : Obj := m3 P q25 281
noncomputable def c2_84 (P : Params) : Obj := m4 P q29 q36 (M 6 1)
noncomputable def c2_85 (P : Params) : Obj := m5 P q29 278 q36 279 280 20 1 80 81 82 83 84 282 283
noncomputable def c2_86 (P : Params) : Obj := m6 P q29 q36 (M 6 1) q22 255 85
noncomputable def c2_89 (P : Params) : Obj := m13 P q25 288 q37 289
noncomputable def c2_91 (P : Params) : Obj := m4 P q30 q38 (M 6 2)
noncomputable def c2_92 (P : Params) : Obj := m5 P q30 285 q38 286 287 23 2 87 88 89 90 91 290 291
noncomputable def c2_93 (P : Params) : Obj := m6 P q30 q38 (M 6 2) q22 255 92
noncomputable def c2_96 (P : Params) : Obj := m13 P q25 296 q37 297
noncomputable def c2_98 (P : Params) : Obj := m4 P q31 q39 (M 6 3)
noncomputable def c2_99 (P : Params) : Obj := m5 P q31 293 q39 294 295 26 2 94 95 96 97 98 298 299
noncomputable def c2_100 (P : Params) : Obj := m6 P q31 q39 (M 6 3) q22 255 99
noncomputable def c2_103 (P : Params) : Obj := m3 P q25 304
noncomputable def c2_105 (P : Params) : Obj := m4 P q32 q40 (M 6 4)
noncomputable def c2_106 (P : Params) : Obj := m5 P q32 301 q40 302 303 29 1 101 102 103 104 105 305 306
noncomputable def c2_107 (P : Params) : Obj := m6 P q32 q40 (M 6 4) q22 255 106
noncomputable def c2_108 (P : Params) : Obj := m13 P q33 308 q34 309
noncomputable def c2_109 (P : Params) : Obj := (Obj.mk y3 none (Data.dict (A [(de P q17 264 (vs q22 255)), (de P q19 268 (vi 14 267)), (de P q24 277 (vr 79)), (de P q29 284 (vr 86)), (de P q30 292 (vr 93)), (de P q31 300 (vr 100)), (de P q32 307 (vr 107)), (de P q20 310 (vr 108)), (de P q41 312 (vr 111)), (de P q21 314 (vr 112)), (de P q5 315 vn)]) 4) E)
noncomputable def c2_110 (P : Params) : Obj := (Obj.mk y9 none (Data.cls (ClassData.mk q28 [y12] [(vr 110), y12] 109 q28 Bool.true [] [] Bool.false none Bool.false)) (A [none, none, (some (vs q28 257)), (some (vs q28 265)), (some y18), (some vT)]))
noncomputable def m17 (P : Params) (x0 : Nat) (x1 : Nat) : Obj := (Obj.mk y14 none (Data.fields (A [(vs q41 x0), (vr x1), y19, y20])) E)
noncomputable def c2_111 (P : Params) : Obj := m17 P 311 110
noncomputable def c2_112 (P : Params) : Obj := m7 P 313 110
noncomputable def c2_113 (P : Params) : Obj := m8 P 110
noncomputable def c2_114 (P : Params) : Obj := m9 P 110
noncomputable def tc2_ (P : Params) : BT := (nd (boot_o_0 P) (nd (boot_o_1 P) (nd (c2_3 P) (nd (boot_o_7 P) (nd (a11 P) (nd (c1_31 P) (l1 (c1_63 P)) (l1 (a12 P))) (nd (c0_35 P) (l1 (c2_79 P)) (l1 (c2_111 P)))) (nd (c0_23 P) (nd (a12 P) (l1 (c2_71 P)) (l1 (c2_103 P))) (nd (a12 P) (l1 (a11 P)) .nil))) (nd (a11 P) (nd (c0_19 P) (nd (c0_35 P) (l1 (c0_23 P)) (l1 (c2_99 P))) (nd (c1_51 P) (l1 (a11 P)) .nil)) (nd (c0_27 P) (nd (c0_43 P) (l1 (c2_75 P)) (l1 (c2_107 P))) (nd (c1_59 P) (l1 (c2_91 P)) .nil)))) (nd (boot_o_5 P) (nd (boot_o_9 P) (nd (c0_17 P) (nd (c0_33 P) (l1 (c1_65 P)) (l1 (a11 P))) (nd (c1_49 P) (l1 (a12 P)) (l1 (c2_113 P)))) (nd (a11 P) (nd (c0_41 P) (l1 (a11 P)) (l1 (c2_105 P))) (nd (a11 P) (l1 (c2_89 P)) .nil))) (nd (a13 P) (nd (c0_21 P) (nd (c0_37 P) (l1 (a11 P)) (l1 (a11 P))) (nd (c1_53 P) (l1 (c2_85 P)) .nil)) (nd (a11 P) (nd (c0_45 P) (l1 (c2_77 P)) (l1 (c2_109 P))) (nd (c1_61 P) (l1 (c2_93 P)) .nil))))) (nd (boot_o_2 P) (nd (boot_o_4 P) (nd (boot_o_8 P) (nd (a12 P) (nd (c0_32 P) (l1 (c1_64 P)) (l1 (c2_96 P))) (nd (c0_23 P) (l1 (a11 P)) (l1 (c2_112 P)))) (nd (c0_24 P) (nd (c0_40 P) (l1 (c2_72 P)) (l1 (a11 P))) (nd (c1_56 P) (l1 (a12 P)) .nil))) (nd (c2_12 P) (nd (c0_20 P) (nd (c0_23 P) (l1 (c2_68 P)) (l1 (c2_100 P))) (nd (c1_52 P) (l1 (c2_84 P)) .nil)) (nd (c0_28 P) (nd (c0_44 P) (l1 (a11 P)) (l1 (c2_108 P))) (nd (c1_60 P) (l1 (c2_92 P)) .nil)))) (nd (boot_o_6 P) (nd (boot_o_10 P) (nd (a11 P) (nd (c0_34 P) (l1 (a11 P)) (l1 (c2_98 P))) (nd (a11 P) (l1 (c2_82 P)) (l1 (c2_114 P)))) (nd (a12 P) (nd (a11 P) (l1 (a12 P)) (l1 (c2_106 P))) (nd (c1_58 P) (l1 (a11 P)) .nil))) (nd (a14 P) (nd (c0_22 P) (nd (a11 P) (l1 (c2_70 P)) (l1 (a12 P))) (nd (a11 P) (l1 (c2_86 P)) .nil)) (nd (c0_30 P) (nd (c0_46 P) (l1 (c2_78 P)) (l1 (c2_110 P))) (nd (c1_62 P) (l1 (a11 P)) .nil))))))
noncomputable def sc2_ (w : World) (os : OsState) : SharedT := SharedT.mk (tc2_ w.params) 115 (@Life.mk [] [] [] 0 [] [] Bool.false E [] 0 Bool.false Bool.false Bool.false 0 [2000, 10, 10] Bool.false 0 Bool.true [] [] 0 Bool.false) E (@Drawn.mk 0 0 0 0) 318 os
noncomputable def c3_3 (P : Params) : Obj := (Obj.mk y3 none (Data.dict (A [(de P q3 165 (vs q22 255)), (de P q5 166 vn), (de P q6 167 vn), (de P q7 168 y4), (de P q8 169 vn), (de P q9 170 (vr 6)), (de P q10 171 (vr 4)), (de P q11 173 (vs q1 172)), (de P q12 174 vn), (de P q13 193 (vr 21)), (de P q14 213 (vr 31)), (de P q15 229 (vr 44)), (de P q23 254 (vr 63)), (de P q28 317 (vr 110)), (de P q42 340 (vr 131)), (de P q43 363 (vr 150))]) 16) E)
noncomputable def c3_12 (P : Params) : Obj := (Obj.mk vn none (Data.fields (A [(vi 1 0), (vi 0 0), (vr 20), (vi 5 0), (vi 0 0), (vr 27), (vi 7 0), (vi 0 0), (vr 40), (vi 9 0), (vi 0 0), (vr 52), (vi 14 0), (vi 0 0), (vr 71), (vi 31 0), (vi 0 0), (vr 120), (vi 35 0), (vi 0 0), (vr 139)])) E)
noncomputable def c3_110 (P : Params) : Obj := (Obj.mk y9 none (Data.cls (ClassData.mk q28 [y12] [(vr 110), y12] 109 q28 Bool.true [] [(vr 131), (vr 150)] Bool.false none Bool.false)) (A [none, none, (some (vs q28 257)), (some (vs q28 265)), (some y18), (some vT)]))
noncomputable def c3_115 (P : Params) : Obj := m10 P 110
noncomputable def c3_117 (P : Params) : Obj := m11 P 325 q22 255 327 q42 326 329 31 328 q29 336 128 337 129
noncomputable def c3_119 (P : Params) : Obj := m12 P 33 127
noncomputable def c3_120 (P : Params) : Obj := m0 P q42 320 321 322 31 118 119 323 324
noncomputable def c3_121 (P : Params) : Obj := m1 P 120 117 q22 255
noncomputable def c3_124 (P : Params) : Obj := m3 P q25 333
noncomputable def c3_126 (P : Params) : Obj := m4 P q29 q44 (M 7 0)
noncomputable def c3_127 (P : Params) : Obj := m5 P q29 330 q44 331 332 33 1 122 123 124 125 126 334 335
noncomputable def c3_128 (P : Params) : Obj := m6 P q29 q44 (M 7 0) q22 255 127
noncomputable def c3_130 (P : Params) : Obj := m14 P 325 q22 255 329 31 328 q29 336 128 337 129 338
noncomputable def c3_131 (P : Params) : Obj := (Obj.mk y9 none (Data.cls (ClassData.mk q42 [(vr 110)] [(vr 131), (vr 110), y12] 130 q42 Bool.true [] [] Bool.false none Bool.false)) (A [(sr 115), none, (some (vs q42 318)), (some (vs q42 326)), (some y18), (some vT)]))
noncomputable def c3_132 (P : Params) : Obj := m8 P 131
noncomputable def c3_133 (P : Params) : Obj := m9 P 131
noncomputable def c3_136 (P : Params) : Obj := m11 P 348 q22 255 350 q43 349 352 35 351 q29 359 147 360 148
noncomputable def c3_138 (P : Params) : Obj := m12 P 37 146
noncomputable def c3_139 (P : Params) : Obj := m0 P q43 343 344 345 35 137 138 346 347
noncomputable def c3_140 (P : Params) : Obj := m1 P 139 136 q22 255
noncomputable def c3_143 (P : Params) : Obj := m3 P q25 356
noncomputable def c3_145 (P : Params) : Obj := m4 P q29 q45 (M 8 0)
noncomputable def c3_146 (P : Params) : Obj := m5 P q29 353 q45 354 355 37 1 141 142 143 144 145 357 358
noncomputable def c3_147 (P : Params) : Obj := m6 P q29 q45 (M 8 0) q22 255 146
noncomputable def c3_149 (P : Params) : Obj := m14 P 348 q22 255 352 35 351 q29 359 147 360 148 361
noncomputable def c3_150 (P : Params) : Obj := (Obj.mk y9 none (Data.cls (ClassData.mk q43 [(vr 110)] [(vr 150), (vr 110), y12] 149 q43 Bool.true [] [] Bool.false none Bool.false)) (A [(sr 134), none, (some (vs q43 341)), (some (vs q43 349)), (some y18), (some vT)]))
noncomputable def c3_151 (P : Params) : Obj := m8 P 150
noncomputable def c3_152 (P : Params) : Obj := m9 P 150
noncomputable def tc3_ (P : Params) : BT := (nd (boot_o_0 P) (nd (boot_o_1 P) (nd (c3_3 P) (nd (boot_o_7 P) (nd (a11 P) (nd (c1_31 P) (nd (c1_63 P) (l1 (c3_127 P)) .nil) (l1 (a12 P))) (nd (c0_35 P) (nd (c2_79 P) (l1 (c3_143 P)) .nil) (l1 (c2_111 P)))) (nd (c0_23 P) (nd (a12 P) (nd (c2_71 P) (l1 (c0_23 P)) .nil) (l1 (c2_103 P))) (nd (a12 P) (nd (a11 P) (l1 (c3_151 P)) .nil) (l1 (c3_119 P))))) (nd (a11 P) (nd (c0_19 P) (nd (c0_35 P) (nd (c0_23 P) (l1 (c3_131 P)) .nil) (l1 (c2_99 P))) (nd (c1_51 P) (nd (a11 P) (l1 (c3_147 P)) .nil) (l1 (c3_115 P)))) (nd (c0_27 P) (nd (c0_43 P) (nd (c2_75 P) (l1 (c3_139 P)) .nil) (l1 (c2_107 P))) (nd (c1_59 P) (l1 (c2_91 P)) (l1 (a12 P)))))) (nd (boot_o_5 P) (nd (boot_o_9 P) (nd (c0_17 P) (nd (c0_33 P) (nd (c1_65 P) (l1 (a11 P)) .nil) (l1 (a11 P))) (nd (c1_49 P) (nd (a12 P) (l1 (c3_145 P)) .nil) (l1 (c2_113 P)))) (nd (a11 P) (nd (c0_41 P) (nd (a11 P) (l1 (a11 P)) .nil) (l1 (c2_105 P))) (nd (a11 P) (l1 (c2_89 P)) (l1 (c3_121 P))))) (nd (a13 P) (nd (c0_21 P) (nd (c0_37 P) (nd (a11 P) (l1 (c3_133 P)) .nil) (l1 (a11 P))) (nd (c1_53 P) (nd (c2_85 P) (l1 (c3_149 P)) .nil) (l1 (c3_117 P)))) (nd (a11 P) (nd (c0_45 P) (nd (c2_77 P) (l1 (a11 P)) .nil) (l1 (c2_109 P))) (nd (c1_61 P) (l1 (c2_93 P)) (l1 (a11 P))))))) (nd (boot_o_2 P) (nd (boot_o_4 P) (nd (boot_o_8 P) (nd (a12 P) (nd (c0_32 P) (nd (c1_64 P) (l1 (c3_128 P)) .nil) (l1 (c2_96 P))) (nd (c0_23 P) (nd (a11 P) (l1 (a11 P)) .nil) (l1 (c2_112 P)))) (nd (c0_24 P) (nd (c0_40 P) (nd (c2_72 P) (l1 (c3_136 P)) .nil) (l1 (a11 P))) (nd (c1_56 P) (nd (a12 P) (l1 (c3_152 P)) .nil) (l1 (c3_120 P))))) (nd (c3_12 P) (nd (c0_20 P) (nd (c0_23 P) (nd (c2_68 P) (l1 (c3_132 P)) .nil) (l1 (c2_100 P))) (nd (c1_52 P) (nd (c2_84 P) (l1 (a11 P)) .nil) (l1 (c0_23 P)))) (nd (c0_28 P) (nd (c0_44 P) (nd (a11 P) (l1 (c3_140 P)) .nil) (l1 (c2_108 P))) (nd (c1_60 P) (l1 (c2_92 P)) (l1 (c3_124 P)))))) (nd (boot_o_6 P) (nd (boot_o_10 P) (nd (a11 P) (nd (c0_34 P) (nd (a11 P) (l1 (c3_130 P)) .nil) (l1 (c2_98 P))) (nd (a11 P) (nd (c2_82 P) (l1 (c3_146 P)) .nil) (l1 (c2_114 P)))) (nd (a12 P) (nd (a11 P) (nd (a12 P) (l1 (c3_138 P)) .nil) (l1 (c2_106 P))) (nd (c1_58 P) (l1 (a11 P)) (l1 (a11 P))))) (nd (a14 P) (nd (c0_22 P) (nd (a11 P) (nd (c2_70 P) (l1 (c3_115 P)) .nil) (l1 (a12 P))) (nd (a11 P) (nd (c2_86 P) (l1 (c3_150 P)) .nil) (l1 (a11 P)))) (nd (c0_30 P) (nd (c0_46 P) (nd (c2_78 P) (l1 (a12 P)) .nil) (l1 (c3_110 P))) (nd (c1_62 P) (l1 (a11 P)) (l1 (c3_126 P))))))))
noncomputable def sc3_ (w : World) (os : OsState) : SharedT := SharedT.mk (tc3_ w.params) 153 (@Life.mk [] [] [] 0 [] [] Bool.false E [] 0 Bool.false Bool.false Bool.false 0 [2000, 10, 10] Bool.false 0 Bool.true [] [] 0 Bool.false) E (@Drawn.mk 0 0 0 0) 364 os
noncomputable def c4_3 (P : Params) : Obj := (Obj.mk y3 none (Data.dict (A [(de P q3 165 (vs q46 387)), (de P q5 166 vn), (de P q6 167 vn), (de P q7 168 y4), (de P q8 169 vn), (de P q9 170 (vr 6)), (de P q10 171 (vr 4)), (de P q11 173 (vs q1 172)), (de P q12 174 vn), (de P q13 193 (vr 21)), (de P q14 213 (vr 31)), (de P q15 229 (vr 44)), (de P q23 254 (vr 63)), (de P q28 317 (vr 110)), (de P q42 340 (vr 131)), (de P q43 363 (vr 150)), (de P q47 386 (vr 169)), (de P q48 390 (vi 400 389)), (de P q49 392 (vi 2000 391)), (de P q50 394 (vi 2000 393)), (de P q51 396 (vi 8 395)), (de P q52 398 (vi 100000 397)), (de P q53 400 (vi 32 399)), (de P q54 402 (vi 37 401)), (de P q55 404 (vi 126 403)), (de P q56 411 (vr 178)), (de P q57 417 (vr 183)), (de P q58 423 (vr 188)), (de P q59 431 (vr 195))]) 29) E)
noncomputable def c4_12 (P : Params) : Obj := (Obj.mk vn none (Data.fields (A [(vi 1 0), (vi 0 0), (vr 20), (vi 5 0), (vi 0 0), (vr 27), (vi 7 0), (vi 0 0), (vr 40), (vi 9 0), (vi 0 0), (vr 52), (vi 14 0), (vi 0 0), (vr 71), (vi 31 0), (vi 0 0), (vr 120), (vi 35 0), (vi 0 0), (vr 139), (vi 39 0), (vi 0 0), (vr 158), (vi 52 0), (vi 0 0), (vr 177), (vi 54 0), (vi 0 0), (vr 182), (vi 60 0), (vi 0 0), (vr 187), (vi 70 0), (vi 0 0), (vr 194)])) E)
noncomputable def c4_110 (P : Params) : Obj := (Obj.mk y9 none (Data.cls (ClassData.mk q28 [y12] [(vr 110), y12] 109 q28 Bool.true [] [(vr 131), (vr 150), (vr 169)] Bool.false none Bool.false)) (A [none, none, (some (vs q28 257)), (some (vs q28 265)), (some y18), (some vT)]))
noncomputable def c4_155 (P : Params) : Obj := m11 P 371 q22 255 373 q47 372 375 39 374 q29 382 166 383 167
noncomputable def c4_157 (P : Params) : Obj := m12 P 41 165
noncomputable def c4_158 (P : Params) : Obj := m0 P q47 366 367 368 39 156 157 369 370
noncomputable def c4_159 (P : Params) : Obj := m1 P 158 155 q22 255
noncomputable def c4_162 (P : Params) : Obj := m3 P q25 379
noncomputable def c4_164 (P : Params) : Obj := m4 P q29 q60 (M 9 0)
noncomputable def c4_165 (P : Params) : Obj := m5 P q29 376 q60 377 378 41 1 160 161 162 163 164 380 381
noncomputable def c4_166 (P : Params) : Obj := m6 P q29 q60 (M 9 0) q22 255 165
noncomputable def c4_168 (P : Params) : Obj := m14 P 371 q22 255 375 39 374 q29 382 166 383 167 384
noncomputable def c4_169 (P : Params) : Obj := (Obj.mk y9 none (Data.cls (ClassData.mk q47 [(vr 110)] [(vr 169), (vr 110), y12] 168 q47 Bool.true [] [] Bool.false none Bool.false)) (A [(sr 153), none, (some (vs q47 364)), (some (vs q47 372)), (some y18), (some vT)]))
noncomputable def c4_170 (P : Params) : Obj := m8 P 169
noncomputable def c4_171 (P : Params) : Obj := m9 P 169
noncomputable def c4_174 (P : Params) : Obj := m3 P q61 408
noncomputable def c4_176 (P : Params) : Obj := m4 P q56 q56 (B 19)
noncomputable def c4_177 (P : Params) : Obj := m5 P q56 405 q56 406 407 52 1 172 173 174 175 176 409 410
noncomputable def c4_178 (P : Params) : Obj := m6 P q56 q56 (B 19) q46 387 177
noncomputable def c4_181 (P : Params) : Obj := m4 P q57 q57 (B 20)
noncomputable def m18 (P : Params) (x0 : Str) (x1 : Nat) (x2 : Nat) (x3 : Nat) (x4 : Int) (x5 : Int) (x6 : Nat) (x7 : Nat) (x8 : Nat) (x9 : Int) (x10 : Nat) : Obj := (Obj.mk y1 none (Data.fields (A [(vs x0 x1), (vs x0 x2), (vs q1 x3), (vi x4 0), (vi x5 0), (vi 0 0), (vi 0 0), (vi 3 0), (vr x6), vT, (vi 181 0), (vr x7), vn, vn, vn, (vr x8), (vi x9 0), (vi x4 0), (vs q1 x10)])) E)
noncomputable def c4_182 (P : Params) : Obj := m18 P q57 412 413 414 54 1 179 180 181 415 416
noncomputable def c4_183 (P : Params) : Obj := m6 P q57 q57 (B 20) q46 387 182
noncomputable def c4_186 (P : Params) : Obj := m4 P q58 q58 (B 21)
noncomputable def c4_187 (P : Params) : Obj := m18 P q58 418 419 420 60 1 184 185 186 421 422
noncomputable def c4_188 (P : Params) : Obj := m6 P q58 q58 (B 21) q46 387 187
noncomputable def c4_191 (P : Params) : Obj := m13 P q62 427 q63 428
noncomputable def c4_193 (P : Params) : Obj := m4 P q59 q59 (B 22)
noncomputable def c4_194 (P : Params) : Obj := m5 P q59 424 q59 425 426 70 1 189 190 191 192 193 429 430
noncomputable def c4_195 (P : Params) : Obj := m6 P q59 q59 (B 22) q46 387 194
noncomputable def tc4_ (P : Params) : BT := (nd (boot_o_0 P) (nd (boot_o_1 P) (nd (c4_3 P) (nd (boot_o_7 P) (nd (a11 P) (nd (c1_31 P) (nd (c1_63 P) (l1 (c3_127 P)) (l1 (c4_191 P))) (nd (a12 P) (l1 (c4_159 P)) .nil)) (nd (c0_35 P) (nd (c2_79 P) (l1 (c3_143 P)) .nil) (nd (c2_111 P) (l1 (a11 P)) .nil))) (nd (c0_23 P) (nd (a12 P) (nd (c2_71 P) (l1 (c0_23 P)) .nil) (nd (c2_103 P) (l1 (a11 P)) .nil)) (nd (a12 P) (nd (a11 P) (l1 (c3_151 P)) .nil) (nd (c3_119 P) (l1 (c4_183 P)) .nil)))) (nd (a11 P) (nd (c0_19 P) (nd (c0_35 P) (nd (c0_23 P) (l1 (c3_131 P)) (l1 (c4_195 P))) (nd (c2_99 P) (l1 (a11 P)) .nil)) (nd (c1_51 P) (nd (a11 P) (l1 (c3_147 P)) .nil) (nd (c3_115 P) (l1 (a11 P)) .nil))) (nd (c0_27 P) (nd (c0_43 P) (nd (c2_75 P) (l1 (c3_139 P)) .nil) (nd (c2_107 P) (l1 (c4_171 P)) .nil)) (nd (c1_59 P) (nd (c2_91 P) (l1 (c4_155 P)) .nil) (nd (a12 P) (l1 (c4_187 P)) .nil))))) (nd (boot_o_5 P) (nd (boot_o_9 P) (nd (c0_17 P) (nd (c0_33 P) (nd (c1_65 P) (l1 (a11 P)) (l1 (c4_193 P))) (nd (a11 P) (l1 (a12 P)) .nil)) (nd (c1_49 P) (nd (a12 P) (l1 (c3_145 P)) .nil) (nd (c2_113 P) (l1 (c4_177 P)) .nil))) (nd (a11 P) (nd (c0_41 P) (nd (a11 P) (l1 (a11 P)) .nil) (nd (c2_105 P) (l1 (c4_169 P)) .nil)) (nd (a11 P) (nd (c2_89 P) (l1 (c3_115 P)) .nil) (nd (c3_121 P) (l1 (a12 P)) .nil)))) (nd (a13 P) (nd (c0_21 P) (nd (c0_37 P) (nd (a11 P) (l1 (c3_133 P)) .nil) (nd (a11 P) (l1 (c4_165 P)) .nil)) (nd (c1_53 P) (nd (c2_85 P) (l1 (c3_149 P)) .nil) (nd (c3_117 P) (l1 (c4_181 P)) .nil))) (nd (a11 P) (nd (c0_45 P) (nd (c2_77 P) (l1 (a11 P)) .nil) (nd (c2_109 P) (l1 (a12 P)) .nil)) (nd (c1_61 P) (nd (c2_93 P) (l1 (c4_157 P)) .nil) (nd (a11 P) (l1 (a11 P)) .nil)))))) (nd (boot_o_2 P) (nd (boot_o_4 P) (nd (boot_o_8 P) (nd (a12 P) (nd (c0_32 P) (nd (c1_64 P) (l1 (c3_128 P)) (l1 (a11 P))) (nd (c2_96 P) (l1 (a11 P)) .nil)) (nd (c0_23 P) (nd (a11 P) (l1 (a11 P)) .nil) (nd (c2_112 P) (l1 (c4_176 P)) .nil))) (nd (c0_24 P) (nd (c0_40 P) (nd (c2_72 P) (l1 (c3_136 P)) .nil) (nd (a11 P) (l1 (c4_168 P)) .nil)) (nd (c1_56 P) (nd (a12 P) (l1 (c3_152 P)) .nil) (nd (c3_120 P) (l1 (a11 P)) .nil)))) (nd (c4_12 P) (nd (c0_20 P) (nd (c0_23 P) (nd (c2_68 P) (l1 (c3_132 P)) .nil) (nd (c2_100 P) (l1 (c4_164 P)) .nil)) (nd (c1_52 P) (nd (c2_84 P) (l1 (a11 P)) .nil) (nd (c0_23 P) (l1 (a12 P)) .nil))) (nd (c0_28 P) (nd (c0_44 P) (nd (a11 P) (l1 (c3_140 P)) .nil) (nd (c2_108 P) (l1 (a11 P)) .nil)) (nd (c1_60 P) (nd (c2_92 P) (l1 (a11 P)) .nil) (nd (c3_124 P) (l1 (c4_188 P)) .nil))))) (nd (boot_o_6 P) (nd (boot_o_10 P) (nd (a11 P) (nd (c0_34 P) (nd (a11 P) (l1 (c3_130 P)) (l1 (c4_194 P))) (nd (c2_98 P) (l1 (c4_162 P)) .nil)) (nd (a11 P) (nd (c2_82 P) (l1 (c3_146 P)) .nil) (nd (c2_114 P) (l1 (c4_178 P)) .nil))) (nd (a12 P) (nd (a11 P) (nd (a12 P) (l1 (c3_138 P)) .nil) (nd (c2_106 P) (l1 (c4_170 P)) .nil)) (nd (c1_58 P) (nd (a11 P) (l1 (c0_23 P)) .nil) (nd (a11 P) (l1 (c4_186 P)) .nil)))) (nd (a14 P) (nd (c0_22 P) (nd (a11 P) (nd (c2_70 P) (l1 (c3_115 P)) .nil) (nd (a12 P) (l1 (c4_166 P)) .nil)) (nd (a11 P) (nd (c2_86 P) (l1 (c3_150 P)) .nil) (nd (a11 P) (l1 (c4_182 P)) .nil))) (nd (c0_30 P) (nd (c0_46 P) (nd (c2_78 P) (l1 (a12 P)) .nil) (nd (c4_110 P) (l1 (c4_174 P)) .nil)) (nd (c1_62 P) (nd (a11 P) (l1 (c4_158 P)) .nil) (nd (c3_126 P) (l1 (a12 P)) .nil)))))))
noncomputable def sc4_ (w : World) (os : OsState) : SharedT := SharedT.mk (tc4_ w.params) 196 (@Life.mk [] [] [] 0 [] [] Bool.false E [] 0 Bool.false Bool.false Bool.false 0 [2000, 10, 10] Bool.false 0 Bool.true [] [] 0 Bool.false) E (@Drawn.mk 0 0 0 0) 432 os
noncomputable def c5_3 (P : Params) : Obj := (Obj.mk y3 none (Data.dict (A [(de P q3 165 (vs q64 515)), (de P q5 166 vn), (de P q6 167 vn), (de P q7 168 y4), (de P q8 169 vn), (de P q9 170 (vr 6)), (de P q10 171 (vr 4)), (de P q11 173 (vs q1 172)), (de P q12 174 vn), (de P q13 193 (vr 21)), (de P q14 213 (vr 31)), (de P q15 229 (vr 44)), (de P q23 254 (vr 63)), (de P q28 317 (vr 110)), (de P q42 340 (vr 131)), (de P q43 363 (vr 150)), (de P q47 386 (vr 169)), (de P q48 390 (vi 400 389)), (de P q49 392 (vi 2000 391)), (de P q50 394 (vi 2000 393)), (de P q51 396 (vi 8 395)), (de P q52 398 (vi 100000 397)), (de P q53 400 (vi 32 399)), (de P q54 402 (vi 37 401)), (de P q55 404 (vi 126 403)), (de P q56 411 (vr 178)), (de P q57 417 (vr 183)), (de P q58 423 (vr 188)), (de P q59 431 (vr 195)), (de P q65 514 (vr 254)), (de P q66 518 (vi 40 517))]) 31) E)
noncomputable def c5_12 (P : Params) : Obj := (Obj.mk vn none (Data.fields (A [(vi 1 0), (vi 0 0), (vr 20), (vi 5 0), (vi 0 0), (vr 27), (vi 7 0), (vi 0 0), (vr 40), (vi 9 0), (vi 0 0), (vr 52), (vi 14 0), (vi 0 0), (vr 71), (vi 31 0), (vi 0 0), (vr 120), (vi 35 0), (vi 0 0), (vr 139), (vi 39 0), (vi 0 0), (vr 158), (vi 52 0), (vi 0 0), (vr 177), (vi 54 0), (vi 0 0), (vr 182), (vi 60 0), (vi 0 0), (vr 187), (vi 70 0), (vi 0 0), (vr 194), (vi 73 0), (vi 0 0), (vr 201)])) E)
noncomputable def c5_198 (P : Params) : Obj := (Obj.mk y3 none (Data.dict (A [(de P q17 439 (vs q46 387)), (de P q18 441 (vs q65 440)), (de P q19 443 (vi 73 442)), (de P q24 451 (vr 209)), (de P q67 459 (vr 216)), (de P q68 468 (vr 223)), (de P q69 477 (vr 230)), (de P q70 485 (vr 237)), (de P q71 494 (vr 244)), (de P q72 504 (vr 251)), (de P q20 507 (vr 252))]) 11) E)
noncomputable def c5_200 (P : Params) : Obj := (Obj.mk vn none (Data.fields (A [(vi 75 0), (vi 4 0), (vr 208), (vi 79 0), (vi 4 0), (vr 215), (vi 85 0), (vi 4 0), (vr 222), (vi 95 0), (vi 4 0), (vr 229), (vi 109 0), (vi 4 0), (vr 236), (vi 115 0), (vi 4 0), (vr 243), (vi 128 0), (vi 4 0), (vr 250)])) E)
noncomputable def c5_201 (P : Params) : Obj := m0 P q65 434 435 436 73 199 200 437 438
noncomputable def c5_202 (P : Params) : Obj := m1 P 201 198 q46 387
noncomputable def c5_205 (P : Params) : Obj := m13 P q25 447 q73 448
noncomputable def c5_207 (P : Params) : Obj := m4 P q24 q74 (M 23 0)
noncomputable def c5_208 (P : Params) : Obj := m5 P q24 444 q74 445 446 75 2 203 204 205 206 207 449 450
noncomputable def c5_209 (P : Params) : Obj := m6 P q24 q74 (M 23 0) q46 387 208
noncomputable def c5_212 (P : Params) : Obj := m13 P q25 455 q62 456
noncomputable def c5_214 (P : Params) : Obj := m4 P q67 q75 (M 23 1)
noncomputable def c5_215 (P : Params) : Obj := m5 P q67 452 q75 453 454 79 2 210 211 212 213 214 457 458
noncomputable def c5_216 (P : Params) : Obj := m6 P q67 q75 (M 23 1) q46 387 215
noncomputable def c5_219 (P : Params) : Obj := m16 P q25 463 q76 464 q63 465
noncomputable def c5_221 (P : Params) : Obj := m4 P q68 q77 (M 23 2)
noncomputable def c5_222 (P : Params) : Obj := m5 P q68 460 q77 461 462 85 2 217 218 219 220 221 466 467
noncomputable def c5_223 (P : Params) : Obj := m6 P q68 q77 (M 23 2) q46 387 222
noncomputable def c5_226 (P : Params) : Obj := m16 P q25 472 q76 473 q78 474
noncomputable def c5_228 (P : Params) : Obj := m4 P q69 q79 (M 23 3)
noncomputable def c5_229 (P : Params) : Obj := m5 P q69 469 q79 470 471 95 2 224 225 226 227 228 475 476
noncomputable def c5_230 (P : Params) : Obj := m6 P q69 q79 (M 23 3) q46 387 229
noncomputable def c5_233 (P : Params) : Obj := m13 P q25 481 q63 482
noncomputable def c5_235 (P : Params) : Obj := m4 P q70 q80 (M 23 4)
noncomputable def c5_236 (P : Params) : Obj := m5 P q70 478 q80 479 480 109 1 231 232 233 234 235 483 484
noncomputable def c5_237 (P : Params) : Obj := m6 P q70 q80 (M 23 4) q46 387 236
noncomputable def c5_240 (P : Params) : Obj := m16 P q25 489 q81 490 q82 491
noncomputable def c5_242 (P : Params) : Obj := m4 P q71 q83 (M 23 5)
noncomputable def c5_243 (P : Params) : Obj := m5 P q71 486 q83 487 488 115 1 238 239 240 241 242 492 493
noncomputable def c5_244 (P : Params) : Obj := m6 P q71 q83 (M 23 5) q46 387 243
noncomputable def m19 (P : Params) (x0 : Str) (x1 : Nat) (x2 : Str) (x3 : Nat) (x4 : Str) (x5 : Nat) (x6 : Str) (x7 : Nat) : Obj := (Obj.mk y0 none (Data.seq (A [(vs x0 x1), (vs x2 x3), (vs x4 x5), (vs x6 x7)]) 0) E)
noncomputable def c5_247 (P : Params) : Obj := m19 P q25 498 q84 499 q85 500 q86 501
noncomputable def c5_249 (P : Params) : Obj := m4 P q72 q87 (M 23 6)
noncomputable def c5_250 (P : Params) : Obj := m5 P q72 495 q87 496 497 128 2 245 246 247 248 249 502 503
noncomputable def c5_251 (P : Params) : Obj := m6 P q72 q87 (M 23 6) q46 387 250
noncomputable def c5_252 (P : Params) : Obj := m13 P q88 505 q73 506
noncomputable def c5_253 (P : Params) : Obj := (Obj.mk y3 none (Data.dict (A [(de P q17 439 (vs q46 387)), (de P q19 443 (vi 73 442)), (de P q24 451 (vr 209)), (de P q67 459 (vr 216)), (de P q68 468 (vr 223)), (de P q69 477 (vr 230)), (de P q70 485 (vr 237)), (de P q71 494 (vr 244)), (de P q72 504 (vr 251)), (de P q20 507 (vr 252)), (de P q41 509 (vr 255)), (de P q21 511 (vr 256)), (de P q5 512 vn)]) 4) E)
noncomputable def c5_254 (P : Params) : Obj := (Obj.mk y9 none (Data.cls (ClassData.mk q65 [y12] [(vr 254), y12] 253 q65 Bool.true [] [] Bool.false none Bool.false)) (A [none, none, (some (vs q65 432)), (some (vs q65 440)), (some y18), (some vT)]))
noncomputable def c5_255 (P : Params) : Obj := m17 P 508 254
noncomputable def c5_256 (P : Params) : Obj := m7 P 510 254
noncomputable def c5_257 (P : Params) : Obj := m8 P 254
noncomputable def c5_258 (P : Params) : Obj := m9 P 254
noncomputable def u1 (P : Params) : BT := (nd (c1_63 P) (nd (c3_127 P) (l1 (c5_255 P)) .nil) (l1 (c4_191 P)))
noncomputable def u2 (P : Params) : BT := (nd (c1_65 P) (nd (a11 P) (l1 (c5_257 P)) .nil) (l1 (c4_193 P)))
noncomputable def u3 (P : Params) : BT := (nd (c1_64 P) (nd (c3_128 P) (l1 (c5_256 P)) .nil) (l1 (a11 P)))
noncomputable def u4 (P : Params) : BT := (nd (a11 P) (nd (c3_130 P) (l1 (c5_258 P)) .nil) (l1 (c4_194 P)))
noncomputable def tc5_ (P : Params) : BT := (nd (boot_o_0 P) (nd (boot_o_1 P) (nd (c5_3 P) (nd (boot_o_7 P) (nd (a11 P) (nd (c1_31 P) (u1 P) (nd (a12 P) (l1 (c4_159 P)) (l1 (c5_223 P)))) (nd (c0_35 P) (nd (c2_79 P) (l1 (c3_143 P)) (l1 (c5_207 P))) (nd (c2_111 P) (l1 (a11 P)) (l1 (a12 P))))) (nd (c0_23 P) (nd (a12 P) (nd (c2_71 P) (l1 (c0_23 P)) (l1 (a11 P))) (nd (c2_103 P) (l1 (a11 P)) (l1 (a11 P)))) (nd (a12 P) (nd (a11 P) (l1 (c3_151 P)) (l1 (c5_215 P))) (nd (c3_119 P) (l1 (c4_183 P)) (l1 (c5_247 P)))))) (nd (a11 P) (nd (c0_19 P) (nd (c0_35 P) (nd (c0_23 P) (l1 (c3_131 P)) (l1 (c4_195 P))) (nd (c2_99 P) (l1 (a11 P)) (l1 (a11 P)))) (nd (c1_51 P) (nd (a11 P) (l1 (c3_147 P)) (l1 (a12 P))) (nd (c3_115 P) (l1 (a11 P)) (l1 (c5_243 P))))) (nd (c0_27 P) (nd (c0_43 P) (nd (c2_75 P) (l1 (c3_139 P)) (l1 (a11 P))) (nd (c2_107 P) (l1 (c4_171 P)) (l1 (c5_235 P)))) (nd (c1_59 P) (nd (c2_91 P) (l1 (c4_155 P)) (l1 (c5_219 P))) (nd (a12 P) (l1 (c4_187 P)) (l1 (c5_251 P))))))) (nd (boot_o_5 P) (nd (boot_o_9 P) (nd (c0_17 P) (nd (c0_33 P) (u2 P) (nd (a11 P) (l1 (a12 P)) (l1 (a12 P)))) (nd (c1_49 P) (nd (a12 P) (l1 (c3_145 P)) (l1 (c5_209 P))) (nd (c2_113 P) (l1 (c4_177 P)) (l1 (a11 P))))) (nd (a11 P) (nd (c0_41 P) (nd (a11 P) (l1 (a11 P)) (l1 (c5_201 P))) (nd (c2_105 P) (l1 (c4_169 P)) (l1 (c5_233 P)))) (nd (a11 P) (nd (c2_89 P) (l1 (c3_115 P)) (l1 (a11 P))) (nd (c3_121 P) (l1 (a12 P)) (l1 (c5_249 P)))))) (nd (a13 P) (nd (c0_21 P) (nd (c0_37 P) (nd (a11 P) (l1 (c3_133 P)) (l1 (c0_23 P))) (nd (a11 P) (l1 (c4_165 P)) (l1 (c5_229 P)))) (nd (c1_53 P) (nd (c2_85 P) (l1 (c3_149 P)) (l1 (a11 P))) (nd (c3_117 P) (l1 (c4_181 P)) (l1 (a11 P))))) (nd (a11 P) (nd (c0_45 P) (nd (c2_77 P) (l1 (a11 P)) (l1 (c5_205 P))) (nd (c2_109 P) (l1 (a12 P)) (l1 (c5_237 P)))) (nd (c1_61 P) (nd (c2_93 P) (l1 (c4_157 P)) (l1 (c5_221 P))) (nd (a11 P) (l1 (a11 P)) (l1 (c5_253 P)))))))) (nd (boot_o_2 P) (nd (boot_o_4 P) (nd (boot_o_8 P) (nd (a12 P) (nd (c0_32 P) (u3 P) (nd (c2_96 P) (l1 (a11 P)) (l1 (a11 P)))) (nd (c0_23 P) (nd (a11 P) (l1 (a11 P)) (l1 (c5_208 P))) (nd (c2_112 P) (l1 (c4_176 P)) (l1 (c5_240 P))))) (nd (c0_24 P) (nd (c0_40 P) (nd (c2_72 P) (l1 (c3_136 P)) (l1 (c5_200 P))) (nd (a11 P) (l1 (c4_168 P)) (l1 (a12 P)))) (nd (c1_56 P) (nd (a12 P) (l1 (c3_152 P)) (l1 (c5_216 P))) (nd (c3_120 P) (l1 (a11 P)) (l1 (a11 P)))))) (nd (c5_12 P) (nd (c0_20 P) (nd (c0_23 P) (nd (c2_68 P) (l1 (c3_132 P)) (l1 (a11 P))) (nd (c2_100 P) (l1 (c4_164 P)) (l1 (c5_228 P)))) (nd (c1_52 P) (nd (c2_84 P) (l1 (a11 P)) (l1 (c5_212 P))) (nd (c0_23 P) (l1 (a12 P)) (l1 (c5_244 P))))) (nd (c0_28 P) (nd (c0_44 P) (nd (a11 P) (l1 (c3_140 P)) (l1 (a12 P))) (nd (c2_108 P) (l1 (a11 P)) (l1 (c5_236 P)))) (nd (c1_60 P) (nd (c2_92 P) (l1 (a11 P)) (l1 (a11 P))) (nd (c3_124 P) (l1 (c4_188 P)) (l1 (c5_252 P))))))) (nd (boot_o_6 P) (nd (boot_o_10 P) (nd (a11 P) (nd (c0_34 P) (u4 P) (nd (c2_98 P) (l1 (c4_162 P)) (l1 (c5_226 P)))) (nd (a11 P) (nd (c2_82 P) (l1 (c3_146 P)) (l1 (a11 P))) (nd (c2_114 P) (l1 (c4_178 P)) (l1 (c5_242 P))))) (nd (a12 P) (nd (a11 P) (nd (a12 P) (l1 (c3_138 P)) (l1 (c5_202 P))) (nd (c2_106 P) (l1 (c4_170 P)) (l1 (a11 P)))) (nd (c1_58 P) (nd (a11 P) (l1 (c0_23 P)) (l1 (a12 P))) (nd (a11 P) (l1 (c4_186 P)) (l1 (c5_250 P)))))) (nd (a14 P) (nd (c0_22 P) (nd (a11 P) (nd (c2_70 P) (l1 (c3_115 P)) (l1 (c5_198 P))) (nd (a12 P) (l1 (c4_166 P)) (l1 (c5_230 P)))) (nd (a11 P) (nd (c2_86 P) (l1 (c3_150 P)) (l1 (c5_214 P))) (nd (a11 P) (l1 (c4_182 P)) (l1 (a12 P))))) (nd (c0_30 P) (nd (c0_46 P) (nd (c2_78 P) (l1 (a12 P)) (l1 (a11 P))) (nd (c4_110 P) (l1 (c4_174 P)) (l1 (a11 P)))) (nd (c1_62 P) (nd (a11 P) (l1 (c4_158 P)) (l1 (c5_222 P))) (nd (c3_126 P) (l1 (a12 P)) (l1 (c5_254 P)))))))))
noncomputable def sc5_ (w : World) (os : OsState) : SharedT := SharedT.mk (tc5_ w.params) 259 (@Life.mk [] [] [] 0 [] [] Bool.false E [] 0 Bool.false Bool.false Bool.false 0 [2000, 10, 10] Bool.false 0 Bool.true [] [] 0 Bool.false) E (@Drawn.mk 0 0 0 0) 519 os
noncomputable def c6_3 (P : Params) : Obj := (Obj.mk y3 none (Data.dict (A [(de P q3 165 (vs q64 515)), (de P q5 166 vn), (de P q6 167 vn), (de P q7 168 y4), (de P q8 169 vn), (de P q9 170 (vr 6)), (de P q10 171 (vr 4)), (de P q11 173 (vs q1 172)), (de P q12 174 vn), (de P q13 193 (vr 21)), (de P q14 213 (vr 31)), (de P q15 229 (vr 44)), (de P q23 254 (vr 63)), (de P q28 317 (vr 110)), (de P q42 340 (vr 131)), (de P q43 363 (vr 150)), (de P q47 386 (vr 169)), (de P q48 390 (vi 400 389)), (de P q49 392 (vi 2000 391)), (de P q50 394 (vi 2000 393)), (de P q51 396 (vi 8 395)), (de P q52 398 (vi 100000 397)), (de P q53 400 (vi 32 399)), (de P q54 402 (vi 37 401)), (de P q55 404 (vi 126 403)), (de P q56 411 (vr 178)), (de P q57 417 (vr 183)), (de P q58 423 (vr 188)), (de P q59 431 (vr 195)), (de P q65 514 (vr 254)), (de P q66 518 (vi 40 517)), (de P q89 540 (vr 259)), (de P q90 605 (vr 311))]) 33) E)
noncomputable def c6_12 (P : Params) : Obj := (Obj.mk vn none (Data.fields (A [(vi 1 0), (vi 0 0), (vr 20), (vi 5 0), (vi 0 0), (vr 27), (vi 7 0), (vi 0 0), (vr 40), (vi 9 0), (vi 0 0), (vr 52), (vi 14 0), (vi 0 0), (vr 71), (vi 31 0), (vi 0 0), (vr 120), (vi 35 0), (vi 0 0), (vr 139), (vi 39 0), (vi 0 0), (vr 158), (vi 52 0), (vi 0 0), (vr 177), (vi 54 0), (vi 0 0), (vr 182), (vi 60 0), (vi 0 0), (vr 187), (vi 70 0), (vi 0 0), (vr 194), (vi 73 0), (vi 0 0), (vr 201), (vi 140 0), (vi 0 0), (vr 265)])) E)
noncomputable def c6_259 (P : Params) : Obj := (Obj.mk y3 none (Data.dict (A [(de P q91 519 (vs q92 520)), (de P q93 521 (vs q92 522)), (de P q94 523 (vs q95 524)), (de P q96 525 (vs q92 526)), (de P q97 527 (vs q98 528)), (de P q99 529 (vs q100 530)), (de P q101 531 (vs q100 532))]) 7) E)
noncomputable def c6_262 (P : Params) : Obj := (Obj.mk y3 none (Data.dict (A [(de P q17 548 (vs q64 515)), (de P q18 550 (vs q90 549)), (de P q19 552 (vi 140 551)), (de P q102 559 (vr 273)), (de P q103 566 (vr 280)), (de P q104 575 (vr 287)), (de P q105 583 (vr 294)), (de P q106 590 (vr 301)), (de P q107 597 (vr 308)), (de P q20 598 (vr 309))]) 10) E)
noncomputable def c6_264 (P : Params) : Obj := (Obj.mk vn none (Data.fields (A [(vi 142 0), (vi 4 0), (vr 272), (vi 145 0), (vi 4 0), (vr 279), (vi 148 0), (vi 4 0), (vr 286), (vi 151 0), (vi 4 0), (vr 293), (vi 154 0), (vi 4 0), (vr 300), (vi 157 0), (vi 4 0), (vr 307)])) E)
noncomputable def c6_265 (P : Params) : Obj := m0 P q90 543 544 545 140 263 264 546 547
noncomputable def c6_266 (P : Params) : Obj := m1 P 265 262 q64 515
noncomputable def c6_269 (P : Params) : Obj := m3 P q25 556
noncomputable def c6_271 (P : Params) : Obj := m4 P q102 q108 (M 27 0)
noncomputable def c6_272 (P : Params) : Obj := m5 P q102 553 q108 554 555 142 1 267 268 269 270 271 557 558
noncomputable def c6_273 (P : Params) : Obj := m6 P q102 q108 (M 27 0) q64 515 272
noncomputable def c6_276 (P : Params) : Obj := m3 P q25 563
noncomputable def c6_278 (P : Params) : Obj := m4 P q103 q109 (M 27 1)
noncomputable def c6_279 (P : Params) : Obj := m5 P q103 560 q109 561 562 145 1 274 275 276 277 278 564 565
noncomputable def c6_280 (P : Params) : Obj := m6 P q103 q109 (M 27 1) q64 515 279
noncomputable def c6_283 (P : Params) : Obj := m16 P q25 570 q110 571 q111 572
noncomputable def c6_285 (P : Params) : Obj := m4 P q104 q112 (M 27 2)
noncomputable def c6_286 (P : Params) : Obj := m5 P q104 567 q112 568 569 148 3 281 282 283 284 285 573 574
noncomputable def c6_287 (P : Params) : Obj := m6 P q104 q112 (M 27 2) q64 515 286
noncomputable def c6_290 (P : Params) : Obj := m13 P q25 579 q111 580
noncomputable def c6_292 (P : Params) : Obj := m4 P q105 q113 (M 27 3)
noncomputable def c6_293 (P : Params) : Obj := m5 P q105 576 q113 577 578 151 2 288 289 290 291 292 581 582
noncomputable def c6_294 (P : Params) : Obj := m6 P q105 q113 (M 27 3) q64 515 293
noncomputable def c6_297 (P : Params) : Obj := m3 P q25 587
noncomputable def c6_299 (P : Params) : Obj := m4 P q106 q114 (M 27 4)
noncomputable def c6_300 (P : Params) : Obj := m5 P q106 584 q114 585 586 154 1 295 296 297 298 299 588 589
noncomputable def c6_301 (P : Params) : Obj := m6 P q106 q114 (M 27 4) q64 515 300
noncomputable def c6_304 (P : Params) : Obj := m3 P q25 594
noncomputable def c6_306 (P : Params) : Obj := m4 P q107 q115 (M 27 5)
noncomputable def c6_307 (P : Params) : Obj := m5 P q107 591 q115 592 593 157 1 302 303 304 305 306 595 596
noncomputable def c6_308 (P : Params) : Obj := m6 P q107 q115 (M 27 5) q64 515 307
noncomputable def c6_310 (P : Params) : Obj := (Obj.mk y3 none (Data.dict (A [(de P q17 548 (vs q64 515)), (de P q19 552 (vi 140 551)), (de P q102 559 (vr 273)), (de P q103 566 (vr 280)), (de P q104 575 (vr 287)), (de P q105 583 (vr 294)), (de P q106 590 (vr 301)), (de P q107 597 (vr 308)), (de P q20 598 (vr 309)), (de P q41 600 (vr 312)), (de P q21 602 (vr 313)), (de P q5 603 vn)]) 4) E)
noncomputable def c6_311 (P : Params) : Obj := (Obj.mk y9 none (Data.cls (ClassData.mk q90 [y12] [(vr 311), y12] 310 q90 Bool.true [] [] Bool.false none Bool.false)) (A [none, none, (some (vs q90 541)), (some (vs q90 549)), (some y18), (some vT)]))
noncomputable def c6_312 (P : Params) : Obj := m17 P 599 311
noncomputable def c6_313 (P : Params) : Obj := m7 P 601 311
noncomputable def c6_314 (P : Params) : Obj := m8 P 311
noncomputable def c6_315 (P : Params) : Obj := m9 P 311
noncomputable def u5 (P : Params) : BT := (nd (a12 P) (nd (c4_159 P) (l1 (c6_287 P)) .nil) (l1 (c5_223 P)))
noncomputable def u6 (P : Params) : BT := (nd (a11 P) (nd (c3_151 P) (l1 (c6_279 P)) .nil) (l1 (c5_215 P)))
noncomputable def u7 (P : Params) : BT := (nd (c3_115 P) (nd (a11 P) (l1 (c6_307 P)) .nil) (l1 (c5_243 P)))
noncomputable def u8 (P : Params) : BT := (nd (c2_107 P) (nd (c4_171 P) (l1 (c6_299 P)) .nil) (l1 (c5_235 P)))
noncomputable def u9 (P : Params) : BT := (nd (a12 P) (nd (c4_187 P) (l1 (c6_315 P)) .nil) (l1 (c5_251 P)))
noncomputable def u10 (P : Params) : BT := (nd (c1_59 P) (nd (c2_91 P) (nd (c4_155 P) (l1 (c6_283 P)) .nil) (l1 (c5_219 P))) (u9 P))
noncomputable def u11 (P : Params) : BT := (nd (c2_113 P) (nd (c4_177 P) (l1 (a11 P)) .nil) (l1 (a11 P)))
noncomputable def u12 (P : Params) : BT := (nd (c2_105 P) (nd (c4_169 P) (l1 (c6_297 P)) .nil) (l1 (c5_233 P)))
noncomputable def u13 (P : Params) : BT := (nd (c3_121 P) (nd (a12 P) (l1 (c6_313 P)) .nil) (l1 (c5_249 P)))
noncomputable def u14 (P : Params) : BT := (nd (a11 P) (nd (c2_89 P) (nd (c3_115 P) (l1 (a11 P)) .nil) (l1 (a11 P))) (u13 P))
noncomputable def u15 (P : Params) : BT := (nd (a11 P) (nd (c4_165 P) (l1 (c6_293 P)) .nil) (l1 (c5_229 P)))
noncomputable def u16 (P : Params) : BT := (nd (c3_117 P) (nd (c4_181 P) (l1 (a11 P)) .nil) (l1 (a11 P)))
noncomputable def u17 (P : Params) : BT := (nd (c2_109 P) (nd (a12 P) (l1 (c6_301 P)) .nil) (l1 (c5_237 P)))
noncomputable def u18 (P : Params) : BT := (nd (c2_93 P) (nd (c4_157 P) (l1 (c6_285 P)) .nil) (l1 (c5_221 P)))
noncomputable def u19 (P : Params) : BT := (nd (c2_112 P) (nd (c4_176 P) (l1 (c6_304 P)) .nil) (l1 (c5_240 P)))
noncomputable def u20 (P : Params) : BT := (nd (c3_120 P) (nd (a11 P) (l1 (c6_312 P)) .nil) (l1 (a11 P)))
noncomputable def u21 (P : Params) : BT := (nd (c1_56 P) (nd (a12 P) (nd (c3_152 P) (l1 (c6_280 P)) .nil) (l1 (c5_216 P))) (u20 P))
noncomputable def u22 (P : Params) : BT := (nd (c2_100 P) (nd (c4_164 P) (l1 (c6_292 P)) .nil) (l1 (c5_228 P)))
noncomputable def u23 (P : Params) : BT := (nd (c0_23 P) (nd (a12 P) (l1 (c6_308 P)) .nil) (l1 (c5_244 P)))
noncomputable def u24 (P : Params) : BT := (nd (c2_108 P) (nd (a11 P) (l1 (c6_300 P)) .nil) (l1 (c5_236 P)))
noncomputable def u25 (P : Params) : BT := (nd (c2_98 P) (nd (c4_162 P) (l1 (c6_290 P)) .nil) (l1 (c5_226 P)))
noncomputable def u26 (P : Params) : BT := (nd (c2_114 P) (nd (c4_178 P) (l1 (c6_306 P)) .nil) (l1 (c5_242 P)))
noncomputable def u27 (P : Params) : BT := (nd (c2_106 P) (nd (c4_170 P) (l1 (a11 P)) .nil) (l1 (a11 P)))
noncomputable def u28 (P : Params) : BT := (nd (a11 P) (nd (c4_186 P) (l1 (c6_314 P)) .nil) (l1 (c5_250 P)))
noncomputable def u29 (P : Params) : BT := (nd (c1_58 P) (nd (a11 P) (nd (c0_23 P) (l1 (a12 P)) .nil) (l1 (a12 P))) (u28 P))
noncomputable def u30 (P : Params) : BT := (nd (a12 P) (nd (c4_166 P) (l1 (c6_294 P)) .nil) (l1 (c5_230 P)))
noncomputable def u31 (P : Params) : BT := (nd (a11 P) (nd (c2_86 P) (nd (c3_150 P) (l1 (c6_278 P)) .nil) (l1 (c5_214 P))) (nd (a11 P) (nd (c4_182 P) (l1 (c6_310 P)) .nil) (l1 (a12 P))))
noncomputable def u32 (P : Params) : BT := (nd (c4_110 P) (nd (c4_174 P) (l1 (a11 P)) .nil) (l1 (a11 P)))
noncomputable def u33 (P : Params) : BT := (nd (a11 P) (nd (c4_158 P) (l1 (c6_286 P)) .nil) (l1 (c5_222 P)))
noncomputable def tc6_ (P : Params) : BT := (nd (boot_o_0 P) (nd (boot_o_1 P) (nd (c6_3 P) (nd (boot_o_7 P) (nd (a11 P) (nd (c1_31 P) (u1 P) (u5 P)) (nd (c0_35 P) (nd (c2_79 P) (nd (c3_143 P) (l1 (c6_271 P)) .nil) (l1 (c5_207 P))) (nd (c2_111 P) (nd (a11 P) (l1 (a12 P)) .nil) (l1 (a12 P))))) (nd (c0_23 P) (nd (a12 P) (nd (c2_71 P) (nd (c0_23 P) (l1 (a11 P)) .nil) (l1 (a11 P))) (nd (c2_103 P) (nd (a11 P) (l1 (a11 P)) .nil) (l1 (a11 P)))) (nd (a12 P) (u6 P) (nd (c3_119 P) (nd (c4_183 P) (l1 (c6_311 P)) .nil) (l1 (c5_247 P)))))) (nd (a11 P) (nd (c0_19 P) (nd (c0_35 P) (nd (c0_23 P) (nd (c3_131 P) (l1 (c6_259 P)) .nil) (l1 (c4_195 P))) (nd (c2_99 P) (nd (a11 P) (l1 (a11 P)) .nil) (l1 (a11 P)))) (nd (c1_51 P) (nd (a11 P) (nd (c3_147 P) (l1 (a12 P)) .nil) (l1 (a12 P))) (u7 P))) (nd (c0_27 P) (nd (c0_43 P) (nd (c2_75 P) (nd (c3_139 P) (l1 (a11 P)) .nil) (l1 (a11 P))) (u8 P)) (u10 P)))) (nd (boot_o_5 P) (nd (boot_o_9 P) (nd (c0_17 P) (nd (c0_33 P) (u2 P) (nd (a11 P) (nd (a12 P) (l1 (a12 P)) .nil) (l1 (a12 P)))) (nd (c1_49 P) (nd (a12 P) (nd (c3_145 P) (l1 (c6_273 P)) .nil) (l1 (c5_209 P))) (u11 P))) (nd (a11 P) (nd (c0_41 P) (nd (a11 P) (nd (a11 P) (l1 (c6_265 P)) .nil) (l1 (c5_201 P))) (u12 P)) (u14 P))) (nd (a13 P) (nd (c0_21 P) (nd (c0_37 P) (nd (a11 P) (nd (c3_133 P) (l1 (c0_23 P)) .nil) (l1 (c0_23 P))) (u15 P)) (nd (c1_53 P) (nd (c2_85 P) (nd (c3_149 P) (l1 (a11 P)) .nil) (l1 (a11 P))) (u16 P))) (nd (a11 P) (nd (c0_45 P) (nd (c2_77 P) (nd (a11 P) (l1 (c6_269 P)) .nil) (l1 (c5_205 P))) (u17 P)) (nd (c1_61 P) (u18 P) (nd (a11 P) (l1 (a11 P)) (l1 (c5_253 P)))))))) (nd (boot_o_2 P) (nd (boot_o_4 P) (nd (boot_o_8 P) (nd (a12 P) (nd (c0_32 P) (u3 P) (nd (c2_96 P) (nd (a11 P) (l1 (a11 P)) .nil) (l1 (a11 P)))) (nd (c0_23 P) (nd (a11 P) (nd (a11 P) (l1 (c6_272 P)) .nil) (l1 (c5_208 P))) (u19 P))) (nd (c0_24 P) (nd (c0_40 P) (nd (c2_72 P) (nd (c3_136 P) (l1 (c6_264 P)) .nil) (l1 (c5_200 P))) (nd (a11 P) (nd (c4_168 P) (l1 (a12 P)) .nil) (l1 (a12 P)))) (u21 P))) (nd (c6_12 P) (nd (c0_20 P) (nd (c0_23 P) (nd (c2_68 P) (nd (c3_132 P) (l1 (a11 P)) .nil) (l1 (a11 P))) (u22 P)) (nd (c1_52 P) (nd (c2_84 P) (nd (a11 P) (l1 (c6_276 P)) .nil) (l1 (c5_212 P))) (u23 P))) (nd (c0_28 P) (nd (c0_44 P) (nd (a11 P) (nd (c3_140 P) (l1 (a12 P)) .nil) (l1 (a12 P))) (u24 P)) (nd (c1_60 P) (nd (c2_92 P) (nd (a11 P) (l1 (a11 P)) .nil) (l1 (a11 P))) (nd (c3_124 P) (l1 (c4_188 P)) (l1 (c5_252 P))))))) (nd (boot_o_6 P) (nd (boot_o_10 P) (nd (a11 P) (nd (c0_34 P) (u4 P) (u25 P)) (nd (a11 P) (nd (c2_82 P) (nd (c3_146 P) (l1 (a11 P)) .nil) (l1 (a11 P))) (u26 P))) (nd (a12 P) (nd (a11 P) (nd (a12 P) (nd (c3_138 P) (l1 (c6_266 P)) .nil) (l1 (c5_202 P))) (u27 P)) (u29 P))) (nd (a14 P) (nd (c0_22 P) (nd (a11 P) (nd (c2_70 P) (nd (c3_115 P) (l1 (c6_262 P)) .nil) (l1 (c5_198 P))) (u30 P)) (u31 P)) (nd (c0_30 P) (nd (c0_46 P) (nd (c2_78 P) (nd (a12 P) (l1 (a11 P)) .nil) (l1 (a11 P))) (u32 P)) (nd (c1_62 P) (u33 P) (nd (c3_126 P) (l1 (a12 P)) (l1 (c5_254 P)))))))))
noncomputable def sc6_ (w : World) (os : OsState) : SharedT := SharedT.mk (tc6_ w.params) 316 (@Life.mk [] [] [] 0 [] [] Bool.false E [] 0 Bool.false Bool.false Bool.false 0 [2000, 10, 10] Bool.false 0 Bool.true [] [] 0 Bool.false) E (@Drawn.mk 0 0 0 0) 606 os
noncomputable def c7_3 (P : Params) : Obj := (Obj.mk y3 none (Data.dict (A [(de P q3 165 (vs q64 515)), (de P q5 166 vn), (de P q6 167 vn), (de P q7 168 y4), (de P q8 169 vn), (de P q9 170 (vr 6)), (de P q10 171 (vr 4)), (de P q11 173 (vs q1 172)), (de P q12 174 vn), (de P q13 193 (vr 21)), (de P q14 213 (vr 31)), (de P q15 229 (vr 44)), (de P q23 254 (vr 63)), (de P q28 317 (vr 110)), (de P q42 340 (vr 131)), (de P q43 363 (vr 150)), (de P q47 386 (vr 169)), (de P q48 390 (vi 400 389)), (de P q49 392 (vi 2000 391)), (de P q50 394 (vi 2000 393)), (de P q51 396 (vi 8 395)), (de P q52 398 (vi 100000 397)), (de P q53 400 (vi 32 399)), (de P q54 402 (vi 37 401)), (de P q55 404 (vi 126 403)), (de P q56 411 (vr 178)), (de P q57 417 (vr 183)), (de P q58 423 (vr 188)), (de P q59 431 (vr 195)), (de P q65 514 (vr 254)), (de P q66 518 (vi 40 517)), (de P q89 540 (vr 259)), (de P q90 605 (vr 311)), (de P q116 639 (vr 339))]) 34) E)
noncomputable def c7_12 (P : Params) : Obj := (Obj.mk vn none (Data.fields (A [(vi 1 0), (vi 0 0), (vr 20), (vi 5 0), (vi 0 0), (vr 27), (vi 7 0), (vi 0 0), (vr 40), (vi 9 0), (vi 0 0), (vr 52), (vi 14 0), (vi 0 0), (vr 71), (vi 31 0), (vi 0 0), (vr 120), (vi 35 0), (vi 0 0), (vr 139), (vi 39 0), (vi 0 0), (vr 158), (vi 52 0), (vi 0 0), (vr 177), (vi 54 0), (vi 0 0), (vr 182), (vi 60 0), (vi 0 0), (vr 187), (vi 70 0), (vi 0 0), (vr 194), (vi 73 0), (vi 0 0), (vr 201), (vi 140 0), (vi 0 0), (vr 265), (vi 159 0), (vi 0 0), (vr 321)])) E)
noncomputable def c7_311 (P : Params) : Obj := (Obj.mk y9 none (Data.cls (ClassData.mk q90 [y12] [(vr 311), y12] 310 q90 Bool.true [] [(vr 339)] Bool.false none Bool.false)) (A [none, none, (some (vs q90 541)), (some (vs q90 549)), (some y18), (some vT)]))
noncomputable def c7_316 (P : Params) : Obj := m10 P 311
noncomputable def c7_318 (P : Params) : Obj := (Obj.mk y3 none (Data.dict (A [(de P q17 613 (vs q64 515)), (de P q18 615 (vs q116 614)), (de P q19 617 (vi 159 616)), (de P q24 626 (vr 329)), (de P q102 633 (vr 336)), (de P q20 636 (vr 337))]) 6) E)
noncomputable def c7_320 (P : Params) : Obj := (Obj.mk vn none (Data.fields (A [(vi 161 0), (vi 4 0), (vr 328), (vi 165 0), (vi 4 0), (vr 335)])) E)
noncomputable def c7_321 (P : Params) : Obj := m0 P q116 608 609 610 159 319 320 611 612
noncomputable def c7_322 (P : Params) : Obj := m1 P 321 318 q64 515
noncomputable def c7_325 (P : Params) : Obj := m16 P q25 621 q117 622 q118 623
noncomputable def c7_327 (P : Params) : Obj := m4 P q24 q119 (M 28 0)
noncomputable def c7_328 (P : Params) : Obj := m5 P q24 618 q119 619 620 161 3 323 324 325 326 327 624 625
noncomputable def c7_329 (P : Params) : Obj := m6 P q24 q119 (M 28 0) q64 515 328
noncomputable def c7_332 (P : Params) : Obj := m3 P q25 630
noncomputable def c7_334 (P : Params) : Obj := m4 P q102 q120 (M 28 1)
noncomputable def c7_335 (P : Params) : Obj := m5 P q102 627 q120 628 629 165 1 330 331 332 333 334 631 632
noncomputable def c7_336 (P : Params) : Obj := m6 P q102 q120 (M 28 1) q64 515 335
noncomputable def c7_337 (P : Params) : Obj := m13 P q118 634 q117 635
noncomputable def c7_338 (P : Params) : Obj := (Obj.mk y3 none (Data.dict (A [(de P q17 613 (vs q64 515)), (de P q19 617 (vi 159 616)), (de P q24 626 (vr 329)), (de P q102 633 (vr 336)), (de P q20 636 (vr 337)), (de P q5 637 vn)]) 2) E)
noncomputable def c7_339 (P : Params) : Obj := (Obj.mk y9 none (Data.cls (ClassData.mk q116 [(vr 311)] [(vr 339), (vr 311), y12] 338 q116 Bool.true [] [] Bool.false none Bool.false)) (A [(sr 316), none, (some (vs q116 606)), (some (vs q116 614)), (some y18), (some vT)]))
noncomputable def c7_340 (P : Params) : Obj := m8 P 339
noncomputable def c7_341 (P : Params) : Obj := m9 P 339
noncomputable def u34 (P : Params) : BT := (nd (c1_63 P) (nd (c3_127 P) (l1 (c5_255 P)) .nil) (nd (c4_191 P) (l1 (a11 P)) .nil))
noncomputable def u35 (P : Params) : BT := (nd (c2_79 P) (nd (c3_143 P) (l1 (c6_271 P)) .nil) (nd (c5_207 P) (l1 (c7_335 P)) .nil))
noncomputable def u36 (P : Params) : BT := (nd (c2_71 P) (nd (c0_23 P) (l1 (a11 P)) .nil) (nd (a11 P) (l1 (c7_327 P)) .nil))
noncomputable def u37 (P : Params) : BT := (nd (c3_119 P) (nd (c4_183 P) (l1 (c7_311 P)) .nil) (l1 (c5_247 P)))
noncomputable def u38 (P : Params) : BT := (nd (c0_23 P) (nd (c3_131 P) (l1 (c6_259 P)) .nil) (nd (c4_195 P) (l1 (a11 P)) .nil))
noncomputable def u39 (P : Params) : BT := (nd (c2_75 P) (nd (c3_139 P) (l1 (a11 P)) .nil) (nd (a11 P) (l1 (a12 P)) .nil))
noncomputable def u40 (P : Params) : BT := (nd (c1_65 P) (nd (a11 P) (l1 (c5_257 P)) .nil) (nd (c4_193 P) (l1 (c7_321 P)) .nil))
noncomputable def u41 (P : Params) : BT := (nd (a12 P) (nd (c3_145 P) (l1 (c6_273 P)) .nil) (nd (c5_209 P) (l1 (c7_337 P)) .nil))
noncomputable def u42 (P : Params) : BT := (nd (a11 P) (nd (a11 P) (l1 (c6_265 P)) .nil) (nd (c5_201 P) (l1 (c7_329 P)) .nil))
noncomputable def u43 (P : Params) : BT := (nd (a11 P) (nd (c3_133 P) (l1 (c0_23 P)) .nil) (nd (c0_23 P) (l1 (c7_325 P)) .nil))
noncomputable def u44 (P : Params) : BT := (nd (c2_85 P) (nd (c3_149 P) (l1 (a11 P)) .nil) (nd (a11 P) (l1 (c7_341 P)) .nil))
noncomputable def u45 (P : Params) : BT := (nd (c2_77 P) (nd (a11 P) (l1 (c6_269 P)) .nil) (nd (c5_205 P) (l1 (a11 P)) .nil))
noncomputable def u46 (P : Params) : BT := (nd (a11 P) (nd (a11 P) (l1 (c0_23 P)) .nil) (l1 (c5_253 P)))
noncomputable def u47 (P : Params) : BT := (nd (c1_64 P) (nd (c3_128 P) (l1 (c5_256 P)) .nil) (nd (a11 P) (l1 (c7_320 P)) .nil))
noncomputable def u48 (P : Params) : BT := (nd (a11 P) (nd (a11 P) (l1 (c6_272 P)) .nil) (nd (c5_208 P) (l1 (c7_336 P)) .nil))
noncomputable def u49 (P : Params) : BT := (nd (c2_72 P) (nd (c3_136 P) (l1 (c6_264 P)) .nil) (nd (c5_200 P) (l1 (c7_328 P)) .nil))
noncomputable def u50 (P : Params) : BT := (nd (c2_68 P) (nd (c3_132 P) (l1 (a11 P)) .nil) (nd (a11 P) (l1 (a12 P)) .nil))
noncomputable def u51 (P : Params) : BT := (nd (c2_84 P) (nd (a11 P) (l1 (c6_276 P)) .nil) (nd (c5_212 P) (l1 (c7_340 P)) .nil))
noncomputable def u52 (P : Params) : BT := (nd (a11 P) (nd (c3_140 P) (l1 (a12 P)) .nil) (nd (a12 P) (l1 (c7_332 P)) .nil))
noncomputable def u53 (P : Params) : BT := (nd (c3_124 P) (nd (c4_188 P) (l1 (c7_316 P)) .nil) (l1 (c5_252 P)))
noncomputable def u54 (P : Params) : BT := (nd (a11 P) (nd (c3_130 P) (l1 (c5_258 P)) .nil) (nd (c4_194 P) (l1 (c7_322 P)) .nil))
noncomputable def u55 (P : Params) : BT := (nd (c2_82 P) (nd (c3_146 P) (l1 (a11 P)) .nil) (nd (a11 P) (l1 (c7_338 P)) .nil))
noncomputable def u56 (P : Params) : BT := (nd (a12 P) (nd (c3_138 P) (l1 (c6_266 P)) .nil) (nd (c5_202 P) (l1 (a11 P)) .nil))
noncomputable def u57 (P : Params) : BT := (nd (c2_70 P) (nd (c3_115 P) (l1 (c6_262 P)) .nil) (nd (c5_198 P) (l1 (a11 P)) .nil))
noncomputable def u58 (P : Params) : BT := (nd (c2_78 P) (nd (a12 P) (l1 (a11 P)) .nil) (nd (a11 P) (l1 (c7_334 P)) .nil))
noncomputable def u59 (P : Params) : BT := (nd (c3_126 P) (nd (a12 P) (l1 (c7_318 P)) .nil) (l1 (c5_254 P)))
noncomputable def tc7_ (P : Params) : BT := (nd (boot_o_0 P) (nd (boot_o_1 P) (nd (c7_3 P) (nd (boot_o_7 P) (nd (a11 P) (nd (c1_31 P) (u34 P) (u5 P)) (nd (c0_35 P) (u35 P) (nd (c2_111 P) (nd (a11 P) (l1 (a12 P)) .nil) (l1 (a12 P))))) (nd (c0_23 P) (nd (a12 P) (u36 P) (nd (c2_103 P) (nd (a11 P) (l1 (a11 P)) .nil) (l1 (a11 P)))) (nd (a12 P) (u6 P) (u37 P)))) (nd (a11 P) (nd (c0_19 P) (nd (c0_35 P) (u38 P) (nd (c2_99 P) (nd (a11 P) (l1 (a11 P)) .nil) (l1 (a11 P)))) (nd (c1_51 P) (nd (a11 P) (nd (c3_147 P) (l1 (a12 P)) .nil) (nd (a12 P) (l1 (c7_339 P)) .nil)) (u7 P))) (nd (c0_27 P) (nd (c0_43 P) (u39 P) (u8 P)) (u10 P)))) (nd (boot_o_5 P) (nd (boot_o_9 P) (nd (c0_17 P) (nd (c0_33 P) (u40 P) (nd (a11 P) (nd (a12 P) (l1 (a12 P)) .nil) (l1 (a12 P)))) (nd (c1_49 P) (u41 P) (u11 P))) (nd (a11 P) (nd (c0_41 P) (u42 P) (u12 P)) (u14 P))) (nd (a13 P) (nd (c0_21 P) (nd (c0_37 P) (u43 P) (u15 P)) (nd (c1_53 P) (u44 P) (u16 P))) (nd (a11 P) (nd (c0_45 P) (u45 P) (u17 P)) (nd (c1_61 P) (u18 P) (u46 P)))))) (nd (boot_o_2 P) (nd (boot_o_4 P) (nd (boot_o_8 P) (nd (a12 P) (nd (c0_32 P) (u47 P) (nd (c2_96 P) (nd (a11 P) (l1 (a11 P)) .nil) (l1 (a11 P)))) (nd (c0_23 P) (u48 P) (u19 P))) (nd (c0_24 P) (nd (c0_40 P) (u49 P) (nd (a11 P) (nd (c4_168 P) (l1 (a12 P)) .nil) (l1 (a12 P)))) (u21 P))) (nd (c7_12 P) (nd (c0_20 P) (nd (c0_23 P) (u50 P) (u22 P)) (nd (c1_52 P) (u51 P) (u23 P))) (nd (c0_28 P) (nd (c0_44 P) (u52 P) (u24 P)) (nd (c1_60 P) (nd (c2_92 P) (nd (a11 P) (l1 (a11 P)) .nil) (l1 (a11 P))) (u53 P))))) (nd (boot_o_6 P) (nd (boot_o_10 P) (nd (a11 P) (nd (c0_34 P) (u54 P) (u25 P)) (nd (a11 P) (u55 P) (u26 P))) (nd (a12 P) (nd (a11 P) (u56 P) (u27 P)) (u29 P))) (nd (a14 P) (nd (c0_22 P) (nd (a11 P) (u57 P) (u30 P)) (u31 P)) (nd (c0_30 P) (nd (c0_46 P) (u58 P) (u32 P)) (nd (c1_62 P) (u33 P) (u59 P)))))))
noncomputable def sc7_ (w : World) (os : OsState) : SharedT := SharedT.mk (tc7_ w.params) 342 (@Life.mk [] [] [] 0 [] [] Bool.false E [] 0 Bool.false Bool.false Bool.false 0 [2000, 10, 10] Bool.false 0 Bool.true [] [] 0 Bool.false) E (@Drawn.mk 0 0 0 0) 640 os
noncomputable def c8_3 (P : Params) : Obj := (Obj.mk y3 none (Data.dict (A [(de P q3 165 (vs q64 515)), (de P q5 166 vn), (de P q6 167 vn), (de P q7 168 y4), (de P q8 169 vn), (de P q9 170 (vr 6)), (de P q10 171 (vr 4)), (de P q11 173 (vs q1 172)), (de P q12 174 vn), (de P q13 193 (vr 21)), (de P q14 213 (vr 31)), (de P q15 229 (vr 44)), (de P q23 254 (vr 63)), (de P q28 317 (vr 110)), (de P q42 340 (vr 131)), (de P q43 363 (vr 150)), (de P q47 386 (vr 169)), (de P q48 390 (vi 400 389)), (de P q49 392 (vi 2000 391)), (de P q50 394 (vi 2000 393)), (de P q51 396 (vi 8 395)), (de P q52 398 (vi 100000 397)), (de P q53 400 (vi 32 399)), (de P q54 402 (vi 37 401)), (de P q55 404 (vi 126 403)), (de P q56 411 (vr 178)), (de P q57 417 (vr 183)), (de P q58 423 (vr 188)), (de P q59 431 (vr 195)), (de P q65 514 (vr 254)), (de P q66 518 (vi 40 517)), (de P q89 540 (vr 259)), (de P q90 605 (vr 311)), (de P q116 639 (vr 339)), (de P q121 678 (vr 372))]) 35) E)
noncomputable def c8_12 (P : Params) : Obj := (Obj.mk vn none (Data.fields (A [(vi 1 0), (vi 0 0), (vr 20), (vi 5 0), (vi 0 0), (vr 27), (vi 7 0), (vi 0 0), (vr 40), (vi 9 0), (vi 0 0), (vr 52), (vi 14 0), (vi 0 0), (vr 71), (vi 31 0), (vi 0 0), (vr 120), (vi 35 0), (vi 0 0), (vr 139), (vi 39 0), (vi 0 0), (vr 158), (vi 52 0), (vi 0 0), (vr 177), (vi 54 0), (vi 0 0), (vr 182), (vi 60 0), (vi 0 0), (vr 187), (vi 70 0), (vi 0 0), (vr 194), (vi 73 0), (vi 0 0), (vr 201), (vi 140 0), (vi 0 0), (vr 265), (vi 159 0), (vi 0 0), (vr 321), (vi 167 0), (vi 0 0), (vr 347)])) E)
noncomputable def c8_339 (P : Params) : Obj := (Obj.mk y9 none (Data.cls (ClassData.mk q116 [(vr 311)] [(vr 339), (vr 311), y12] 338 q116 Bool.true [] [(vr 372)] Bool.false none Bool.false)) (A [(sr 316), none, (some (vs q116 606)), (some (vs q116 614)), (some y18), (some vT)]))
noncomputable def c8_342 (P : Params) : Obj := m10 P 339
noncomputable def m20 (P : Params) (x0 : Nat) (x1 : Nat) (x2 : Str) (x3 : Nat) (x4 : Nat) (x5 : Int) (x6 : Nat) (x7 : Str) (x8 : Nat) (x9 : Nat) (x10 : Nat) (x11 : Nat) (x12 : Nat) (x13 : Nat) (x14 : Nat) (x15 : Nat) : Obj := (Obj.mk y3 none (Data.dict (A [(de P q17 x0 (vs q64 515)), (de P q18 x1 (vs x2 x3)), (de P q19 x4 (vi x5 x6)), (de P x7 x8 (vr x9)), (de P q104 x10 (vr x11)), (de P q107 x12 (vr x13)), (de P q20 x14 (vr x15))]) 7) E)
noncomputable def c8_344 (P : Params) : Obj := m20 P 647 649 q121 648 651 167 650 q103 658 355 667 362 674 369 675 370
noncomputable def c8_346 (P : Params) : Obj := m2 P 169 4 354 172 361 175 368
noncomputable def c8_347 (P : Params) : Obj := m0 P q121 642 643 644 167 345 346 645 646
noncomputable def c8_348 (P : Params) : Obj := m1 P 347 344 q64 515
noncomputable def c8_351 (P : Params) : Obj := m3 P q25 655
noncomputable def c8_353 (P : Params) : Obj := m4 P q103 q122 (M 29 0)
noncomputable def c8_354 (P : Params) : Obj := m5 P q103 652 q122 653 654 169 1 349 350 351 352 353 656 657
noncomputable def c8_355 (P : Params) : Obj := m6 P q103 q122 (M 29 0) q64 515 354
noncomputable def c8_358 (P : Params) : Obj := m16 P q25 662 q110 663 q111 664
noncomputable def c8_360 (P : Params) : Obj := m4 P q104 q123 (M 29 1)
noncomputable def c8_361 (P : Params) : Obj := m5 P q104 659 q123 660 661 172 3 356 357 358 359 360 665 666
noncomputable def c8_362 (P : Params) : Obj := m6 P q104 q123 (M 29 1) q64 515 361
noncomputable def c8_365 (P : Params) : Obj := m3 P q25 671
noncomputable def c8_367 (P : Params) : Obj := m4 P q107 q124 (M 29 2)
noncomputable def c8_368 (P : Params) : Obj := m5 P q107 668 q124 669 670 175 1 363 364 365 366 367 672 673
noncomputable def c8_369 (P : Params) : Obj := m6 P q107 q124 (M 29 2) q64 515 368
noncomputable def m21 (P : Params) (x0 : Nat) (x1 : Nat) (x2 : Int) (x3 : Nat) (x4 : Str) (x5 : Nat) (x6 : Nat) (x7 : Nat) (x8 : Nat) (x9 : Nat) (x10 : Nat) (x11 : Nat) (x12 : Nat) (x13 : Nat) : Obj := (Obj.mk y3 none (Data.dict (A [(de P q17 x0 (vs q64 515)), (de P q19 x1 (vi x2 x3)), (de P x4 x5 (vr x6)), (de P q104 x7 (vr x8)), (de P q107 x9 (vr x10)), (de P q20 x11 (vr x12)), (de P q5 x13 vn)]) 2) E)
noncomputable def c8_371 (P : Params) : Obj := m21 P 647 651 167 650 q103 658 355 667 362 674 369 675 370 676
noncomputable def c8_372 (P : Params) : Obj := (Obj.mk y9 none (Data.cls (ClassData.mk q121 [(vr 339)] [(vr 372), (vr 339), (vr 311), y12] 371 q121 Bool.true [] [] Bool.false none Bool.false)) (A [(sr 342), none, (some (vs q121 640)), (some (vs q121 648)), (some y18), (some vT)]))
noncomputable def c8_373 (P : Params) : Obj := m8 P 372
noncomputable def c8_374 (P : Params) : Obj := m9 P 372
noncomputable def u60 (P : Params) : BT := (nd (a12 P) (nd (c4_159 P) (l1 (c6_287 P)) .nil) (nd (c5_223 P) (l1 (c8_351 P)) .nil))
noncomputable def u61 (P : Params) : BT := (nd (c2_111 P) (nd (a11 P) (l1 (a12 P)) .nil) (nd (a12 P) (l1 (c8_367 P)) .nil))
noncomputable def u62 (P : Params) : BT := (nd (c2_103 P) (nd (a11 P) (l1 (a11 P)) .nil) (nd (a11 P) (l1 (a11 P)) .nil))
noncomputable def u63 (P : Params) : BT := (nd (c2_99 P) (nd (a11 P) (l1 (a11 P)) .nil) (nd (a11 P) (l1 (c8_355 P)) .nil))
noncomputable def u64 (P : Params) : BT := (nd (c3_115 P) (nd (a11 P) (l1 (c6_307 P)) .nil) (nd (c5_243 P) (l1 (c8_371 P)) .nil))
noncomputable def u65 (P : Params) : BT := (nd (c2_107 P) (nd (c4_171 P) (l1 (c6_299 P)) .nil) (nd (c5_235 P) (l1 (a11 P)) .nil))
noncomputable def u66 (P : Params) : BT := (nd (c2_91 P) (nd (c4_155 P) (l1 (c6_283 P)) .nil) (nd (c5_219 P) (l1 (c8_347 P)) .nil))
noncomputable def u67 (P : Params) : BT := (nd (a11 P) (nd (a12 P) (l1 (a12 P)) .nil) (nd (a12 P) (l1 (c8_353 P)) .nil))
noncomputable def u68 (P : Params) : BT := (nd (c2_113 P) (nd (c4_177 P) (l1 (a11 P)) .nil) (nd (a11 P) (l1 (c8_369 P)) .nil))
noncomputable def u69 (P : Params) : BT := (nd (c2_105 P) (nd (c4_169 P) (l1 (c6_297 P)) .nil) (nd (c5_233 P) (l1 (c8_361 P)) .nil))
noncomputable def u70 (P : Params) : BT := (nd (c2_89 P) (nd (c3_115 P) (l1 (a11 P)) .nil) (nd (a11 P) (l1 (a11 P)) .nil))
noncomputable def u71 (P : Params) : BT := (nd (a11 P) (nd (c4_165 P) (l1 (c6_293 P)) .nil) (nd (c5_229 P) (l1 (a12 P)) .nil))
noncomputable def u72 (P : Params) : BT := (nd (c3_117 P) (nd (c4_181 P) (l1 (a11 P)) .nil) (nd (a11 P) (l1 (c8_373 P)) .nil))
noncomputable def u73 (P : Params) : BT := (nd (c2_109 P) (nd (a12 P) (l1 (c6_301 P)) .nil) (nd (c5_237 P) (l1 (c8_365 P)) .nil))
noncomputable def u74 (P : Params) : BT := (nd (c2_93 P) (nd (c4_157 P) (l1 (c6_285 P)) .nil) (nd (c5_221 P) (l1 (a11 P)) .nil))
noncomputable def u75 (P : Params) : BT := (nd (c2_96 P) (nd (a11 P) (l1 (a11 P)) .nil) (nd (a11 P) (l1 (a11 P)) .nil))
noncomputable def u76 (P : Params) : BT := (nd (c2_112 P) (nd (c4_176 P) (l1 (c6_304 P)) .nil) (nd (c5_240 P) (l1 (c8_368 P)) .nil))
noncomputable def u77 (P : Params) : BT := (nd (a11 P) (nd (c4_168 P) (l1 (a12 P)) .nil) (nd (a12 P) (l1 (c8_360 P)) .nil))
noncomputable def u78 (P : Params) : BT := (nd (a12 P) (nd (c3_152 P) (l1 (c6_280 P)) .nil) (nd (c5_216 P) (l1 (c8_344 P)) .nil))
noncomputable def u79 (P : Params) : BT := (nd (c2_100 P) (nd (c4_164 P) (l1 (c6_292 P)) .nil) (nd (c5_228 P) (l1 (a11 P)) .nil))
noncomputable def u80 (P : Params) : BT := (nd (c0_23 P) (nd (a12 P) (l1 (c6_308 P)) .nil) (nd (c5_244 P) (l1 (c8_372 P)) .nil))
noncomputable def u81 (P : Params) : BT := (nd (c2_108 P) (nd (a11 P) (l1 (c6_300 P)) .nil) (nd (c5_236 P) (l1 (a12 P)) .nil))
noncomputable def u82 (P : Params) : BT := (nd (c2_92 P) (nd (a11 P) (l1 (a11 P)) .nil) (nd (a11 P) (l1 (c8_348 P)) .nil))
noncomputable def u83 (P : Params) : BT := (nd (c2_98 P) (nd (c4_162 P) (l1 (c6_290 P)) .nil) (nd (c5_226 P) (l1 (c8_354 P)) .nil))
noncomputable def u84 (P : Params) : BT := (nd (c2_114 P) (nd (c4_178 P) (l1 (c6_306 P)) .nil) (nd (c5_242 P) (l1 (a11 P)) .nil))
noncomputable def u85 (P : Params) : BT := (nd (c2_106 P) (nd (c4_170 P) (l1 (a11 P)) .nil) (nd (a11 P) (l1 (c8_362 P)) .nil))
noncomputable def u86 (P : Params) : BT := (nd (a11 P) (nd (c0_23 P) (l1 (a12 P)) .nil) (nd (a12 P) (l1 (c8_346 P)) .nil))
noncomputable def u87 (P : Params) : BT := (nd (a12 P) (nd (c4_166 P) (l1 (c6_294 P)) .nil) (nd (c5_230 P) (l1 (c8_358 P)) .nil))
noncomputable def u88 (P : Params) : BT := (nd (a11 P) (nd (c4_182 P) (l1 (c6_310 P)) .nil) (nd (a12 P) (l1 (c8_374 P)) .nil))
noncomputable def u89 (P : Params) : BT := (nd (c4_110 P) (nd (c4_174 P) (l1 (a11 P)) .nil) (nd (a11 P) (l1 (a11 P)) .nil))
noncomputable def u90 (P : Params) : BT := (nd (a11 P) (nd (c4_158 P) (l1 (c6_286 P)) .nil) (nd (c5_222 P) (l1 (a12 P)) .nil))
noncomputable def tc8_ (P : Params) : BT := (nd (boot_o_0 P) (nd (boot_o_1 P) (nd (c8_3 P) (nd (boot_o_7 P) (nd (a11 P) (nd (c1_31 P) (u34 P) (u60 P)) (nd (c0_35 P) (u35 P) (u61 P))) (nd (c0_23 P) (nd (a12 P) (u36 P) (u62 P)) (nd (a12 P) (nd (a11 P) (nd (c3_151 P) (l1 (c6_279 P)) .nil) (nd (c5_215 P) (l1 (c0_23 P)) .nil)) (u37 P)))) (nd (a11 P) (nd (c0_19 P) (nd (c0_35 P) (u38 P) (u63 P)) (nd (c1_51 P) (nd (a11 P) (nd (c3_147 P) (l1 (a12 P)) .nil) (nd (a12 P) (l1 (c8_339 P)) .nil)) (u64 P))) (nd (c0_27 P) (nd (c0_43 P) (u39 P) (u65 P)) (nd (c1_59 P) (u66 P) (u9 P))))) (nd (boot_o_5 P) (nd (boot_o_9 P) (nd (c0_17 P) (nd (c0_33 P) (u40 P) (u67 P)) (nd (c1_49 P) (u41 P) (u68 P))) (nd (a11 P) (nd (c0_41 P) (u42 P) (u69 P)) (nd (a11 P) (u70 P) (u13 P)))) (nd (a13 P) (nd (c0_21 P) (nd (c0_37 P) (u43 P) (u71 P)) (nd (c1_53 P) (u44 P) (u72 P))) (nd (a11 P) (nd (c0_45 P) (u45 P) (u73 P)) (nd (c1_61 P) (u74 P) (u46 P)))))) (nd (boot_o_2 P) (nd (boot_o_4 P) (nd (boot_o_8 P) (nd (a12 P) (nd (c0_32 P) (u47 P) (u75 P)) (nd (c0_23 P) (u48 P) (u76 P))) (nd (c0_24 P) (nd (c0_40 P) (u49 P) (u77 P)) (nd (c1_56 P) (u78 P) (u20 P)))) (nd (c8_12 P) (nd (c0_20 P) (nd (c0_23 P) (u50 P) (u79 P)) (nd (c1_52 P) (u51 P) (u80 P))) (nd (c0_28 P) (nd (c0_44 P) (u52 P) (u81 P)) (nd (c1_60 P) (u82 P) (u53 P))))) (nd (boot_o_6 P) (nd (boot_o_10 P) (nd (a11 P) (nd (c0_34 P) (u54 P) (u83 P)) (nd (a11 P) (u55 P) (u84 P))) (nd (a12 P) (nd (a11 P) (u56 P) (u85 P)) (nd (c1_58 P) (u86 P) (u28 P)))) (nd (a14 P) (nd (c0_22 P) (nd (a11 P) (u57 P) (u87 P)) (nd (a11 P) (nd (c2_86 P) (nd (c3_150 P) (l1 (c6_278 P)) .nil) (nd (c5_214 P) (l1 (c8_342 P)) .nil)) (u88 P))) (nd (c0_30 P) (nd (c0_46 P) (u58 P) (u89 P)) (nd (c1_62 P) (u90 P) (u59 P)))))))
noncomputable def sc8_ (w : World) (os : OsState) : SharedT := SharedT.mk (tc8_ w.params) 375 (@Life.mk [] [] [] 0 [] [] Bool.false E [] 0 Bool.false Bool.false Bool.false 0 [2000, 10, 10] Bool.false 0 Bool.true [] [] 0 Bool.false) E (@Drawn.mk 0 0 0 0) 679 os
noncomputable def c9_3 (P : Params) : Obj := (Obj.mk y3 none (Data.dict (A [(de P q3 165 (vs q64 515)), (de P q5 166 vn), (de P q6 167 vn), (de P q7 168 y4), (de P q8 169 vn), (de P q9 170 (vr 6)), (de P q10 171 (vr 4)), (de P q11 173 (vs q1 172)), (de P q12 174 vn), (de P q13 193 (vr 21)), (de P q14 213 (vr 31)), (de P q15 229 (vr 44)), (de P q23 254 (vr 63)), (de P q28 317 (vr 110)), (de P q42 340 (vr 131)), (de P q43 363 (vr 150)), (de P q47 386 (vr 169)), (de P q48 390 (vi 400 389)), (de P q49 392 (vi 2000 391)), (de P q50 394 (vi 2000 393)), (de P q51 396 (vi 8 395)), (de P q52 398 (vi 100000 397)), (de P q53 400 (vi 32 399)), (de P q54 402 (vi 37 401)), (de P q55 404 (vi 126 403)), (de P q56 411 (vr 178)), (de P q57 417 (vr 183)), (de P q58 423 (vr 188)), (de P q59 431 (vr 195)), (de P q65 514 (vr 254)), (de P q66 518 (vi 40 517)), (de P q89 540 (vr 259)), (de P q90 605 (vr 311)), (de P q116 639 (vr 339)), (de P q121 678 (vr 372)), (de P q125 717 (vr 405))]) 36) E)
noncomputable def c9_12 (P : Params) : Obj := (Obj.mk vn none (Data.fields (A [(vi 1 0), (vi 0 0), (vr 20), (vi 5 0), (vi 0 0), (vr 27), (vi 7 0), (vi 0 0), (vr 40), (vi 9 0), (vi 0 0), (vr 52), (vi 14 0), (vi 0 0), (vr 71), (vi 31 0), (vi 0 0), (vr 120), (vi 35 0), (vi 0 0), (vr 139), (vi 39 0), (vi 0 0), (vr 158), (vi 52 0), (vi 0 0), (vr 177), (vi 54 0), (vi 0 0), (vr 182), (vi 60 0), (vi 0 0), (vr 187), (vi 70 0), (vi 0 0), (vr 194), (vi 73 0), (vi 0 0), (vr 201), (vi 140 0), (vi 0 0), (vr 265), (vi 159 0), (vi 0 0), (vr 321), (vi 167 0), (vi 0 0), (vr 347), (vi 177 0), (vi 0 0), (vr 380)])) E)
noncomputable def c9_339 (P : Params) : Obj := (Obj.mk y9 none (Data.cls (ClassData.mk q116 [(vr 311)] [(vr 339), (vr 311), y12] 338 q116 Bool.true [] [(vr 372), (vr 405)] Bool.false none Bool.false)) (A [(sr 316), none, (some (vs q116 606)), (some (vs q116 614)), (some y18), (some vT)]))
noncomputable def c9_377 (P : Params) : Obj := m20 P 686 688 q125 687 690 177 689 q103 697 388 706 395 713 402 714 403
noncomputable def c9_379 (P : Params) : Obj := m2 P 179 4 387 182 394 185 401
noncomputable def c9_380 (P : Params) : Obj := m0 P q125 681 682 683 177 378 379 684 685
noncomputable def c9_381 (P : Params) : Obj := m1 P 380 377 q64 515
noncomputable def c9_384 (P : Params) : Obj := m3 P q25 694
noncomputable def c9_386 (P : Params) : Obj := m4 P q103 q126 (M 30 0)
noncomputable def c9_387 (P : Params) : Obj := m5 P q103 691 q126 692 693 179 1 382 383 384 385 386 695 696
noncomputable def c9_388 (P : Params) : Obj := m6 P q103 q126 (M 30 0) q64 515 387
noncomputable def c9_391 (P : Params) : Obj := m16 P q25 701 q110 702 q111 703
noncomputable def c9_393 (P : Params) : Obj := m4 P q104 q127 (M 30 1)
noncomputable def c9_394 (P : Params) : Obj := m5 P q104 698 q127 699 700 182 3 389 390 391 392 393 704 705
noncomputable def c9_395 (P : Params) : Obj := m6 P q104 q127 (M 30 1) q64 515 394
noncomputable def c9_398 (P : Params) : Obj := m3 P q25 710
noncomputable def c9_400 (P : Params) : Obj := m4 P q107 q128 (M 30 2)
noncomputable def c9_401 (P : Params) : Obj := m5 P q107 707 q128 708 709 185 1 396 397 398 399 400 711 712
noncomputable def c9_402 (P : Params) : Obj := m6 P q107 q128 (M 30 2) q64 515 401
noncomputable def c9_404 (P : Params) : Obj := m21 P 686 690 177 689 q103 697 388 706 395 713 402 714 403 715
noncomputable def c9_405 (P : Params) : Obj := (Obj.mk y9 none (Data.cls (ClassData.mk q125 [(vr 339)] [(vr 405), (vr 339), (vr 311), y12] 404 q125 Bool.true [] [] Bool.false none Bool.false)) (A [(sr 375), none, (some (vs q125 679)), (some (vs q125 687)), (some y18), (some vT)]))
noncomputable def c9_406 (P : Params) : Obj := m8 P 405
noncomputable def c9_407 (P : Params) : Obj := m9 P 405
noncomputable def u91 (P : Params) : BT := (nd (c2_79 P) (nd (c3_143 P) (l1 (c6_271 P)) (l1 (a11 P))) (nd (c5_207 P) (l1 (c7_335 P)) .nil))
noncomputable def u92 (P : Params) : BT := (nd (c2_71 P) (nd (c0_23 P) (l1 (a11 P)) (l1 (c9_391 P))) (nd (a11 P) (l1 (c7_327 P)) .nil))
noncomputable def u93 (P : Params) : BT := (nd (a11 P) (nd (c3_151 P) (l1 (c6_279 P)) (l1 (c9_407 P))) (nd (c5_215 P) (l1 (c0_23 P)) .nil))
noncomputable def u94 (P : Params) : BT := (nd (a11 P) (nd (c3_147 P) (l1 (a12 P)) (l1 (a11 P))) (nd (a12 P) (l1 (c9_339 P)) .nil))
noncomputable def u95 (P : Params) : BT := (nd (c2_75 P) (nd (c3_139 P) (l1 (a11 P)) (l1 (c9_395 P))) (nd (a11 P) (l1 (a12 P)) .nil))
noncomputable def u96 (P : Params) : BT := (nd (a12 P) (nd (c3_145 P) (l1 (c6_273 P)) (l1 (c9_401 P))) (nd (c5_209 P) (l1 (c7_337 P)) .nil))
noncomputable def u97 (P : Params) : BT := (nd (a11 P) (nd (a11 P) (l1 (c6_265 P)) (l1 (c9_393 P))) (nd (c5_201 P) (l1 (c7_329 P)) .nil))
noncomputable def u98 (P : Params) : BT := (nd (c2_85 P) (nd (c3_149 P) (l1 (a11 P)) (l1 (c9_405 P))) (nd (a11 P) (l1 (c7_341 P)) .nil))
noncomputable def u99 (P : Params) : BT := (nd (c2_77 P) (nd (a11 P) (l1 (c6_269 P)) (l1 (a12 P))) (nd (c5_205 P) (l1 (a11 P)) .nil))
noncomputable def u100 (P : Params) : BT := (nd (a11 P) (nd (a11 P) (l1 (c6_272 P)) (l1 (c9_400 P))) (nd (c5_208 P) (l1 (c7_336 P)) .nil))
noncomputable def u101 (P : Params) : BT := (nd (c2_72 P) (nd (c3_136 P) (l1 (c6_264 P)) (l1 (a11 P))) (nd (c5_200 P) (l1 (c7_328 P)) .nil))
noncomputable def u102 (P : Params) : BT := (nd (c2_84 P) (nd (a11 P) (l1 (c6_276 P)) (l1 (c9_404 P))) (nd (c5_212 P) (l1 (c7_340 P)) .nil))
noncomputable def u103 (P : Params) : BT := (nd (a11 P) (nd (c3_140 P) (l1 (a12 P)) (l1 (a11 P))) (nd (a12 P) (l1 (c7_332 P)) .nil))
noncomputable def u104 (P : Params) : BT := (nd (c2_82 P) (nd (c3_146 P) (l1 (a11 P)) (l1 (c9_402 P))) (nd (a11 P) (l1 (c7_338 P)) .nil))
noncomputable def u105 (P : Params) : BT := (nd (a12 P) (nd (c3_138 P) (l1 (c6_266 P)) (l1 (c9_394 P))) (nd (c5_202 P) (l1 (a11 P)) .nil))
noncomputable def u106 (P : Params) : BT := (nd (c2_86 P) (nd (c3_150 P) (l1 (c6_278 P)) (l1 (c9_406 P))) (nd (c5_214 P) (l1 (c8_342 P)) .nil))
noncomputable def u107 (P : Params) : BT := (nd (c2_78 P) (nd (a12 P) (l1 (a11 P)) (l1 (c9_398 P))) (nd (a11 P) (l1 (c7_334 P)) .nil))
noncomputable def tc9_ (P : Params) : BT := (nd (boot_o_0 P) (nd (boot_o_1 P) (nd (c9_3 P) (nd (boot_o_7 P) (nd (a11 P) (nd (c1_31 P) (nd (c1_63 P) (nd (c3_127 P) (l1 (c5_255 P)) (l1 (a12 P))) (nd (c4_191 P) (l1 (a11 P)) .nil)) (u60 P)) (nd (c0_35 P) (u91 P) (u61 P))) (nd (c0_23 P) (nd (a12 P) (u92 P) (u62 P)) (nd (a12 P) (u93 P) (nd (c3_119 P) (nd (c4_183 P) (l1 (c7_311 P)) .nil) (nd (c5_247 P) (l1 (c8_342 P)) .nil))))) (nd (a11 P) (nd (c0_19 P) (nd (c0_35 P) (nd (c0_23 P) (nd (c3_131 P) (l1 (c6_259 P)) (l1 (c9_387 P))) (nd (c4_195 P) (l1 (a11 P)) .nil)) (u63 P)) (nd (c1_51 P) (u94 P) (u64 P))) (nd (c0_27 P) (nd (c0_43 P) (u95 P) (u65 P)) (nd (c1_59 P) (u66 P) (nd (a12 P) (nd (c4_187 P) (l1 (c6_315 P)) .nil) (nd (c5_251 P) (l1 (c9_379 P)) .nil)))))) (nd (boot_o_5 P) (nd (boot_o_9 P) (nd (c0_17 P) (nd (c0_33 P) (nd (c1_65 P) (nd (a11 P) (l1 (c5_257 P)) (l1 (a11 P))) (nd (c4_193 P) (l1 (c7_321 P)) .nil)) (u67 P)) (nd (c1_49 P) (u96 P) (u68 P))) (nd (a11 P) (nd (c0_41 P) (u97 P) (u69 P)) (nd (a11 P) (u70 P) (nd (c3_121 P) (nd (a12 P) (l1 (c6_313 P)) .nil) (nd (c5_249 P) (l1 (c9_377 P)) .nil))))) (nd (a13 P) (nd (c0_21 P) (nd (c0_37 P) (nd (a11 P) (nd (c3_133 P) (l1 (c0_23 P)) (l1 (a11 P))) (nd (c0_23 P) (l1 (c7_325 P)) .nil)) (u71 P)) (nd (c1_53 P) (u98 P) (u72 P))) (nd (a11 P) (nd (c0_45 P) (u99 P) (u73 P)) (nd (c1_61 P) (u74 P) (nd (a11 P) (nd (a11 P) (l1 (c0_23 P)) .nil) (nd (c5_253 P) (l1 (c9_381 P)) .nil))))))) (nd (boot_o_2 P) (nd (boot_o_4 P) (nd (boot_o_8 P) (nd (a12 P) (nd (c0_32 P) (nd (c1_64 P) (nd (c3_128 P) (l1 (c5_256 P)) (l1 (c9_384 P))) (nd (a11 P) (l1 (c7_320 P)) .nil)) (u75 P)) (nd (c0_23 P) (u100 P) (u76 P))) (nd (c0_24 P) (nd (c0_40 P) (u101 P) (u77 P)) (nd (c1_56 P) (u78 P) (nd (c3_120 P) (nd (a11 P) (l1 (c6_312 P)) .nil) (nd (a11 P) (l1 (c0_23 P)) .nil))))) (nd (c9_12 P) (nd (c0_20 P) (nd (c0_23 P) (nd (c2_68 P) (nd (c3_132 P) (l1 (a11 P)) (l1 (c9_388 P))) (nd (a11 P) (l1 (a12 P)) .nil)) (u79 P)) (nd (c1_52 P) (u102 P) (u80 P))) (nd (c0_28 P) (nd (c0_44 P) (u103 P) (u81 P)) (nd (c1_60 P) (u82 P) (nd (c3_124 P) (nd (c4_188 P) (l1 (c7_316 P)) .nil) (nd (c5_252 P) (l1 (c9_380 P)) .nil)))))) (nd (boot_o_6 P) (nd (boot_o_10 P) (nd (a11 P) (nd (c0_34 P) (nd (a11 P) (nd (c3_130 P) (l1 (c5_258 P)) (l1 (c9_386 P))) (nd (c4_194 P) (l1 (c7_322 P)) .nil)) (u83 P)) (nd (a11 P) (u104 P) (u84 P))) (nd (a12 P) (nd (a11 P) (u105 P) (u85 P)) (nd (c1_58 P) (u86 P) (nd (a11 P) (nd (c4_186 P) (l1 (c6_314 P)) .nil) (nd (c5_250 P) (l1 (a11 P)) .nil))))) (nd (a14 P) (nd (c0_22 P) (nd (a11 P) (nd (c2_70 P) (nd (c3_115 P) (l1 (c6_262 P)) (l1 (a12 P))) (nd (c5_198 P) (l1 (a11 P)) .nil)) (u87 P)) (nd (a11 P) (u106 P) (u88 P))) (nd (c0_30 P) (nd (c0_46 P) (u107 P) (u89 P)) (nd (c1_62 P) (u90 P) (nd (c3_126 P) (nd (a12 P) (l1 (c7_318 P)) .nil) (nd (c5_254 P) (l1 (a11 P)) .nil))))))))
noncomputable def sc9_ (w : World) (os : OsState) : SharedT := SharedT.mk (tc9_ w.params) 408 (@Life.mk [] [] [] 0 [] [] Bool.false E [] 0 Bool.false Bool.false Bool.false 0 [2000, 10, 10] Bool.false 0 Bool.true [] [] 0 Bool.false) E (@Drawn.mk 0 0 0 0) 718 os
noncomputable def c10_3 (P : Params) : Obj := (Obj.mk y3 none (Data.dict (A [(de P q3 165 (vs q64 515)), (de P q5 166 vn), (de P q6 167 vn), (de P q7 168 y4), (de P q8 169 vn), (de P q9 170 (vr 6)), (de P q10 171 (vr 4)), (de P q11 173 (vs q1 172)), (de P q12 174 vn), (de P q13 193 (vr 21)), (de P q14 213 (vr 31)), (de P q15 229 (vr 44)), (de P q23 254 (vr 63)), (de P q28 317 (vr 110)), (de P q42 340 (vr 131)), (de P q43 363 (vr 150)), (de P q47 386 (vr 169)), (de P q48 390 (vi 400 389)), (de P q49 392 (vi 2000 391)), (de P q50 394 (vi 2000 393)), (de P q51 396 (vi 8 395)), (de P q52 398 (vi 100000 397)), (de P q53 400 (vi 32 399)), (de P q54 402 (vi 37 401)), (de P q55 404 (vi 126 403)), (de P q56 411 (vr 178)), (de P q57 417 (vr 183)), (de P q58 423 (vr 188)), (de P q59 431 (vr 195)), (de P q65 514 (vr 254)), (de P q66 518 (vi 40 517)), (de P q89 540 (vr 259)), (de P q90 605 (vr 311)), (de P q116 639 (vr 339)), (de P q121 678 (vr 372)), (de P q125 717 (vr 405)), (de P q129 776 (vr 452))]) 37) E)
noncomputable def c10_12 (P : Params) : Obj := (Obj.mk vn none (Data.fields (A [(vi 1 0), (vi 0 0), (vr 20), (vi 5 0), (vi 0 0), (vr 27), (vi 7 0), (vi 0 0), (vr 40), (vi 9 0), (vi 0 0), (vr 52), (vi 14 0), (vi 0 0), (vr 71), (vi 31 0), (vi 0 0), (vr 120), (vi 35 0), (vi 0 0), (vr 139), (vi 39 0), (vi 0 0), (vr 158), (vi 52 0), (vi 0 0), (vr 177), (vi 54 0), (vi 0 0), (vr 182), (vi 60 0), (vi 0 0), (vr 187), (vi 70 0), (vi 0 0), (vr 194), (vi 73 0), (vi 0 0), (vr 201), (vi 140 0), (vi 0 0), (vr 265), (vi 159 0), (vi 0 0), (vr 321), (vi 167 0), (vi 0 0), (vr 347), (vi 177 0), (vi 0 0), (vr 380), (vi 187 0), (vi 0 0), (vr 413)])) E)
noncomputable def c10_311 (P : Params) : Obj := (Obj.mk y9 none (Data.cls (ClassData.mk q90 [y12] [(vr 311), y12] 310 q90 Bool.true [] [(vr 339), (vr 452)] Bool.false none Bool.false)) (A [none, none, (some (vs q90 541)), (some (vs q90 549)), (some y18), (some vT)]))
noncomputable def c10_410 (P : Params) : Obj := (Obj.mk y3 none (Data.dict (A [(de P q17 725 (vs q64 515)), (de P q18 727 (vs q129 726)), (de P q19 729 (vi 187 728)), (de P q24 739 (vr 421)), (de P q102 746 (vr 428)), (de P q103 753 (vr 435)), (de P q104 762 (vr 442)), (de P q107 769 (vr 449)), (de P q20 773 (vr 450))]) 9) E)
noncomputable def c10_412 (P : Params) : Obj := m15 P 189 4 420 194 427 197 434 200 441 203 448
noncomputable def c10_413 (P : Params) : Obj := m0 P q129 720 721 722 187 411 412 723 724
noncomputable def c10_414 (P : Params) : Obj := m1 P 413 410 q64 515
noncomputable def c10_417 (P : Params) : Obj := m19 P q25 733 q117 734 q130 735 q131 736
noncomputable def c10_419 (P : Params) : Obj := m4 P q24 q132 (M 31 0)
noncomputable def c10_420 (P : Params) : Obj := m5 P q24 730 q132 731 732 189 4 415 416 417 418 419 737 738
noncomputable def c10_421 (P : Params) : Obj := m6 P q24 q132 (M 31 0) q64 515 420
noncomputable def c10_424 (P : Params) : Obj := m3 P q25 743
noncomputable def c10_426 (P : Params) : Obj := m4 P q102 q133 (M 31 1)
noncomputable def c10_427 (P : Params) : Obj := m5 P q102 740 q133 741 742 194 1 422 423 424 425 426 744 745
noncomputable def c10_428 (P : Params) : Obj := m6 P q102 q133 (M 31 1) q64 515 427
noncomputable def c10_431 (P : Params) : Obj := m3 P q25 750
noncomputable def c10_433 (P : Params) : Obj := m4 P q103 q134 (M 31 2)
noncomputable def c10_434 (P : Params) : Obj := m5 P q103 747 q134 748 749 197 1 429 430 431 432 433 751 752
noncomputable def c10_435 (P : Params) : Obj := m6 P q103 q134 (M 31 2) q64 515 434
noncomputable def c10_438 (P : Params) : Obj := m16 P q25 757 q110 758 q111 759
noncomputable def c10_440 (P : Params) : Obj := m4 P q104 q135 (M 31 3)
noncomputable def c10_441 (P : Params) : Obj := m5 P q104 754 q135 755 756 200 3 436 437 438 439 440 760 761
noncomputable def c10_442 (P : Params) : Obj := m6 P q104 q135 (M 31 3) q64 515 441
noncomputable def c10_445 (P : Params) : Obj := m3 P q25 766
noncomputable def c10_447 (P : Params) : Obj := m4 P q107 q136 (M 31 4)
noncomputable def c10_448 (P : Params) : Obj := m5 P q107 763 q136 764 765 203 1 443 444 445 446 447 767 768
noncomputable def c10_449 (P : Params) : Obj := m6 P q107 q136 (M 31 4) q64 515 448
noncomputable def c10_450 (P : Params) : Obj := m16 P q131 770 q130 771 q117 772
noncomputable def c10_451 (P : Params) : Obj := (Obj.mk y3 none (Data.dict (A [(de P q17 725 (vs q64 515)), (de P q19 729 (vi 187 728)), (de P q24 739 (vr 421)), (de P q102 746 (vr 428)), (de P q103 753 (vr 435)), (de P q104 762 (vr 442)), (de P q107 769 (vr 449)), (de P q20 773 (vr 450)), (de P q5 774 vn)]) 2) E)
noncomputable def c10_452 (P : Params) : Obj := (Obj.mk y9 none (Data.cls (ClassData.mk q129 [(vr 311)] [(vr 452), (vr 311), y12] 451 q129 Bool.true [] [] Bool.false none Bool.false)) (A [(sr 408), none, (some (vs q129 718)), (some (vs q129 726)), (some y18), (some vT)]))
noncomputable def c10_453 (P : Params) : Obj := m8 P 452
noncomputable def c10_454 (P : Params) : Obj := m9 P 452
noncomputable def u108 (P : Params) : BT := (nd (c1_63 P) (nd (c3_127 P) (l1 (c5_255 P)) (l1 (a12 P))) (nd (c4_191 P) (l1 (a11 P)) (l1 (c10_447 P))))
noncomputable def u109 (P : Params) : BT := (nd (c2_111 P) (nd (a11 P) (l1 (a12 P)) (l1 (c10_431 P))) (nd (a12 P) (l1 (c8_367 P)) .nil))
noncomputable def u110 (P : Params) : BT := (nd (c3_119 P) (nd (c4_183 P) (l1 (c10_311 P)) (l1 (a11 P))) (nd (c5_247 P) (l1 (c8_342 P)) .nil))
noncomputable def u111 (P : Params) : BT := (nd (c0_23 P) (nd (c3_131 P) (l1 (c6_259 P)) (l1 (c9_387 P))) (nd (c4_195 P) (l1 (a11 P)) (l1 (c10_451 P))))
noncomputable def u112 (P : Params) : BT := (nd (c3_115 P) (nd (a11 P) (l1 (c6_307 P)) (l1 (c10_435 P))) (nd (c5_243 P) (l1 (c8_371 P)) .nil))
noncomputable def u113 (P : Params) : BT := (nd (a12 P) (nd (c4_187 P) (l1 (c6_315 P)) (l1 (a11 P))) (nd (c5_251 P) (l1 (c9_379 P)) .nil))
noncomputable def u114 (P : Params) : BT := (nd (c1_65 P) (nd (a11 P) (l1 (c5_257 P)) (l1 (a11 P))) (nd (c4_193 P) (l1 (c7_321 P)) (l1 (c10_449 P))))
noncomputable def u115 (P : Params) : BT := (nd (c2_113 P) (nd (c4_177 P) (l1 (a11 P)) (l1 (c10_433 P))) (nd (a11 P) (l1 (c8_369 P)) .nil))
noncomputable def u116 (P : Params) : BT := (nd (c3_121 P) (nd (a12 P) (l1 (c6_313 P)) (l1 (c10_441 P))) (nd (c5_249 P) (l1 (c9_377 P)) .nil))
noncomputable def u117 (P : Params) : BT := (nd (a11 P) (nd (c3_133 P) (l1 (c0_23 P)) (l1 (a11 P))) (nd (c0_23 P) (l1 (c7_325 P)) (l1 (c10_453 P))))
noncomputable def u118 (P : Params) : BT := (nd (c3_117 P) (nd (c4_181 P) (l1 (a11 P)) (l1 (a12 P))) (nd (a11 P) (l1 (c8_373 P)) .nil))
noncomputable def u119 (P : Params) : BT := (nd (a11 P) (nd (a11 P) (l1 (c0_23 P)) (l1 (c10_445 P))) (nd (c5_253 P) (l1 (c9_381 P)) .nil))
noncomputable def u120 (P : Params) : BT := (nd (c1_64 P) (nd (c3_128 P) (l1 (c5_256 P)) (l1 (c9_384 P))) (nd (a11 P) (l1 (c7_320 P)) (l1 (c10_448 P))))
noncomputable def u121 (P : Params) : BT := (nd (c2_112 P) (nd (c4_176 P) (l1 (c6_304 P)) (l1 (a11 P))) (nd (c5_240 P) (l1 (c8_368 P)) .nil))
noncomputable def u122 (P : Params) : BT := (nd (c3_120 P) (nd (a11 P) (l1 (c6_312 P)) (l1 (c10_440 P))) (nd (a11 P) (l1 (c0_23 P)) .nil))
noncomputable def u123 (P : Params) : BT := (nd (c2_68 P) (nd (c3_132 P) (l1 (a11 P)) (l1 (c9_388 P))) (nd (a11 P) (l1 (a12 P)) (l1 (c10_452 P))))
noncomputable def u124 (P : Params) : BT := (nd (c0_23 P) (nd (a12 P) (l1 (c6_308 P)) (l1 (a11 P))) (nd (c5_244 P) (l1 (c8_372 P)) .nil))
noncomputable def u125 (P : Params) : BT := (nd (c3_124 P) (nd (c4_188 P) (l1 (c7_316 P)) (l1 (a12 P))) (nd (c5_252 P) (l1 (c9_380 P)) .nil))
noncomputable def u126 (P : Params) : BT := (nd (a11 P) (nd (c3_130 P) (l1 (c5_258 P)) (l1 (c9_386 P))) (nd (c4_194 P) (l1 (c7_322 P)) (l1 (c10_450 P))))
noncomputable def u127 (P : Params) : BT := (nd (c2_114 P) (nd (c4_178 P) (l1 (c6_306 P)) (l1 (c10_434 P))) (nd (c5_242 P) (l1 (a11 P)) .nil))
noncomputable def u128 (P : Params) : BT := (nd (a11 P) (nd (c4_186 P) (l1 (c6_314 P)) (l1 (c10_442 P))) (nd (c5_250 P) (l1 (a11 P)) .nil))
noncomputable def u129 (P : Params) : BT := (nd (c2_70 P) (nd (c3_115 P) (l1 (c6_262 P)) (l1 (a12 P))) (nd (c5_198 P) (l1 (a11 P)) (l1 (c10_454 P))))
noncomputable def u130 (P : Params) : BT := (nd (a11 P) (nd (c4_182 P) (l1 (c6_310 P)) (l1 (c10_438 P))) (nd (a12 P) (l1 (c8_374 P)) .nil))
noncomputable def u131 (P : Params) : BT := (nd (c3_126 P) (nd (a12 P) (l1 (c7_318 P)) (l1 (a11 P))) (nd (c5_254 P) (l1 (a11 P)) .nil))
noncomputable def tc10_ (P : Params) : BT := (nd (boot_o_0 P) (nd (boot_o_1 P) (nd (c10_3 P) (nd (boot_o_7 P) (nd (a11 P) (nd (c1_31 P) (u108 P) (nd (a12 P) (nd (c4_159 P) (l1 (c6_287 P)) (l1 (a11 P))) (nd (c5_223 P) (l1 (c8_351 P)) .nil))) (nd (c0_35 P) (u91 P) (u109 P))) (nd (c0_23 P) (nd (a12 P) (u92 P) (nd (c2_103 P) (nd (a11 P) (l1 (a11 P)) (l1 (a12 P))) (nd (a11 P) (l1 (a11 P)) .nil))) (nd (a12 P) (u93 P) (u110 P)))) (nd (a11 P) (nd (c0_19 P) (nd (c0_35 P) (u111 P) (nd (c2_99 P) (nd (a11 P) (l1 (a11 P)) (l1 (c10_419 P))) (nd (a11 P) (l1 (c8_355 P)) .nil))) (nd (c1_51 P) (u94 P) (u112 P))) (nd (c0_27 P) (nd (c0_43 P) (u95 P) (nd (c2_107 P) (nd (c4_171 P) (l1 (c6_299 P)) (l1 (c10_427 P))) (nd (c5_235 P) (l1 (a11 P)) .nil))) (nd (c1_59 P) (nd (c2_91 P) (nd (c4_155 P) (l1 (c6_283 P)) (l1 (a11 P))) (nd (c5_219 P) (l1 (c8_347 P)) .nil)) (u113 P))))) (nd (boot_o_5 P) (nd (boot_o_9 P) (nd (c0_17 P) (nd (c0_33 P) (u114 P) (nd (a11 P) (nd (a12 P) (l1 (a12 P)) (l1 (c10_417 P))) (nd (a12 P) (l1 (c8_353 P)) .nil))) (nd (c1_49 P) (u96 P) (u115 P))) (nd (a11 P) (nd (c0_41 P) (u97 P) (nd (c2_105 P) (nd (c4_169 P) (l1 (c6_297 P)) (l1 (a11 P))) (nd (c5_233 P) (l1 (c8_361 P)) .nil))) (nd (a11 P) (nd (c2_89 P) (nd (c3_115 P) (l1 (a11 P)) (l1 (c0_23 P))) (nd (a11 P) (l1 (a11 P)) .nil)) (u116 P)))) (nd (a13 P) (nd (c0_21 P) (nd (c0_37 P) (u117 P) (nd (a11 P) (nd (c4_165 P) (l1 (c6_293 P)) (l1 (c10_421 P))) (nd (c5_229 P) (l1 (a12 P)) .nil))) (nd (c1_53 P) (u98 P) (u118 P))) (nd (a11 P) (nd (c0_45 P) (u99 P) (nd (c2_109 P) (nd (a12 P) (l1 (c6_301 P)) (l1 (a11 P))) (nd (c5_237 P) (l1 (c8_365 P)) .nil))) (nd (c1_61 P) (nd (c2_93 P) (nd (c4_157 P) (l1 (c6_285 P)) (l1 (c10_413 P))) (nd (c5_221 P) (l1 (a11 P)) .nil)) (u119 P)))))) (nd (boot_o_2 P) (nd (boot_o_4 P) (nd (boot_o_8 P) (nd (a12 P) (nd (c0_32 P) (u120 P) (nd (c2_96 P) (nd (a11 P) (l1 (a11 P)) (l1 (a12 P))) (nd (a11 P) (l1 (a11 P)) .nil))) (nd (c0_23 P) (u100 P) (u121 P))) (nd (c0_24 P) (nd (c0_40 P) (u101 P) (nd (a11 P) (nd (c4_168 P) (l1 (a12 P)) (l1 (c10_424 P))) (nd (a12 P) (l1 (c8_360 P)) .nil))) (nd (c1_56 P) (nd (a12 P) (nd (c3_152 P) (l1 (c6_280 P)) (l1 (c7_316 P))) (nd (c5_216 P) (l1 (c8_344 P)) .nil)) (u122 P)))) (nd (c10_12 P) (nd (c0_20 P) (nd (c0_23 P) (u123 P) (nd (c2_100 P) (nd (c4_164 P) (l1 (c6_292 P)) (l1 (c10_420 P))) (nd (c5_228 P) (l1 (a11 P)) .nil))) (nd (c1_52 P) (u102 P) (u124 P))) (nd (c0_28 P) (nd (c0_44 P) (u103 P) (nd (c2_108 P) (nd (a11 P) (l1 (c6_300 P)) (l1 (c10_428 P))) (nd (c5_236 P) (l1 (a12 P)) .nil))) (nd (c1_60 P) (nd (c2_92 P) (nd (a11 P) (l1 (a11 P)) (l1 (c10_412 P))) (nd (a11 P) (l1 (c8_348 P)) .nil)) (u125 P))))) (nd (boot_o_6 P) (nd (boot_o_10 P) (nd (a11 P) (nd (c0_34 P) (u126 P) (nd (c2_98 P) (nd (c4_162 P) (l1 (c6_290 P)) (l1 (a11 P))) (nd (c5_226 P) (l1 (c8_354 P)) .nil))) (nd (a11 P) (u104 P) (u127 P))) (nd (a12 P) (nd (a11 P) (u105 P) (nd (c2_106 P) (nd (c4_170 P) (l1 (a11 P)) (l1 (c10_426 P))) (nd (a11 P) (l1 (c8_362 P)) .nil))) (nd (c1_58 P) (nd (a11 P) (nd (c0_23 P) (l1 (a12 P)) (l1 (c10_410 P))) (nd (a12 P) (l1 (c8_346 P)) .nil)) (u128 P)))) (nd (a14 P) (nd (c0_22 P) (nd (a11 P) (u129 P) (nd (a12 P) (nd (c4_166 P) (l1 (c6_294 P)) (l1 (a11 P))) (nd (c5_230 P) (l1 (c8_358 P)) .nil))) (nd (a11 P) (u106 P) (u130 P))) (nd (c0_30 P) (nd (c0_46 P) (u107 P) (nd (c4_110 P) (nd (c4_174 P) (l1 (a11 P)) (l1 (a12 P))) (nd (a11 P) (l1 (a11 P)) .nil))) (nd (c1_62 P) (nd (a11 P) (nd (c4_158 P) (l1 (c6_286 P)) (l1 (c10_414 P))) (nd (c5_222 P) (l1 (a12 P)) .nil)) (u131 P)))))))
noncomputable def sc10_ (w : World) (os : OsState) : SharedT := SharedT.mk (tc10_ w.params) 455 (@Life.mk [] [] [] 0 [] [] Bool.false E [] 0 Bool.false Bool.false Bool.false 0 [2000, 10, 10] Bool.false 0 Bool.true [] [] 0 Bool.false) E (@Drawn.mk 0 0 0 0) 777 os
noncomputable def c11_3 (P : Params) : Obj := (Obj.mk y3 none (Data.dict (A [(de P q3 165 (vs q64 515)), (de P q5 166 vn), (de P q6 167 vn), (de P q7 168 y4), (de P q8 169 vn), (de P q9 170 (vr 6)), (de P q10 171 (vr 4)), (de P q11 173 (vs q1 172)), (de P q12 174 vn), (de P q13 193 (vr 21)), (de P q14 213 (vr 31)), (de P q15 229 (vr 44)), (de P q23 254 (vr 63)), (de P q28 317 (vr 110)), (de P q42 340 (vr 131)), (de P q43 363 (vr 150)), (de P q47 386 (vr 169)), (de P q48 390 (vi 400 389)), (de P q49 392 (vi 2000 391)), (de P q50 394 (vi 2000 393)), (de P q51 396 (vi 8 395)), (de P q52 398 (vi 100000 397)), (de P q53 400 (vi 32 399)), (de P q54 402 (vi 37 401)), (de P q55 404 (vi 126 403)), (de P q56 411 (vr 178)), (de P q57 417 (vr 183)), (de P q58 423 (vr 188)), (de P q59 431 (vr 195)), (de P q65 514 (vr 254)), (de P q66 518 (vi 40 517)), (de P q89 540 (vr 259)), (de P q90 605 (vr 311)), (de P q116 639 (vr 339)), (de P q121 678 (vr 372)), (de P q125 717 (vr 405)), (de P q129 776 (vr 452)), (de P q137 822 (vr 492))]) 38) E)
noncomputable def c11_12 (P : Params) : Obj := (Obj.mk vn none (Data.fields (A [(vi 1 0), (vi 0 0), (vr 20), (vi 5 0), (vi 0 0), (vr 27), (vi 7 0), (vi 0 0), (vr 40), (vi 9 0), (vi 0 0), (vr 52), (vi 14 0), (vi 0 0), (vr 71), (vi 31 0), (vi 0 0), (vr 120), (vi 35 0), (vi 0 0), (vr 139), (vi 39 0), (vi 0 0), (vr 158), (vi 52 0), (vi 0 0), (vr 177), (vi 54 0), (vi 0 0), (vr 182), (vi 60 0), (vi 0 0), (vr 187), (vi 70 0), (vi 0 0), (vr 194), (vi 73 0), (vi 0 0), (vr 201), (vi 140 0), (vi 0 0), (vr 265), (vi 159 0), (vi 0 0), (vr 321), (vi 167 0), (vi 0 0), (vr 347), (vi 177 0), (vi 0 0), (vr 380), (vi 187 0), (vi 0 0), (vr 413), (vi 205 0), (vi 0 0), (vr 460)])) E)
noncomputable def c11_339 (P : Params) : Obj := (Obj.mk y9 none (Data.cls (ClassData.mk q116 [(vr 311)] [(vr 339), (vr 311), y12] 338 q116 Bool.true [] [(vr 372), (vr 405), (vr 492)] Bool.false none Bool.false)) (A [(sr 316), none, (some (vs q116 606)), (some (vs q116 614)), (some y18), (some vT)]))
noncomputable def c11_457 (P : Params) : Obj := (Obj.mk y3 none (Data.dict (A [(de P q17 784 (vs q64 515)), (de P q18 786 (vs q137 785)), (de P q19 788 (vi 205 787)), (de P q103 795 (vr 468)), (de P q104 804 (vr 475)), (de P q106 811 (vr 482)), (de P q107 818 (vr 489)), (de P q20 819 (vr 490))]) 8) E)
noncomputable def c11_459 (P : Params) : Obj := (Obj.mk vn none (Data.fields (A [(vi 207 0), (vi 4 0), (vr 467), (vi 210 0), (vi 4 0), (vr 474), (vi 213 0), (vi 4 0), (vr 481), (vi 216 0), (vi 4 0), (vr 488)])) E)
noncomputable def c11_460 (P : Params) : Obj := m0 P q137 779 780 781 205 458 459 782 783
noncomputable def c11_461 (P : Params) : Obj := m1 P 460 457 q64 515
noncomputable def c11_464 (P : Params) : Obj := m3 P q25 792
noncomputable def c11_466 (P : Params) : Obj := m4 P q103 q138 (M 32 0)
noncomputable def c11_467 (P : Params) : Obj := m5 P q103 789 q138 790 791 207 1 462 463 464 465 466 793 794
noncomputable def c11_468 (P : Params) : Obj := m6 P q103 q138 (M 32 0) q64 515 467
noncomputable def c11_471 (P : Params) : Obj := m16 P q25 799 q110 800 q111 801
noncomputable def c11_473 (P : Params) : Obj := m4 P q104 q139 (M 32 1)
noncomputable def c11_474 (P : Params) : Obj := m5 P q104 796 q139 797 798 210 3 469 470 471 472 473 802 803
noncomputable def c11_475 (P : Params) : Obj := m6 P q104 q139 (M 32 1) q64 515 474
noncomputable def c11_478 (P : Params) : Obj := m3 P q25 808
noncomputable def c11_480 (P : Params) : Obj := m4 P q106 q140 (M 32 2)
noncomputable def c11_481 (P : Params) : Obj := m5 P q106 805 q140 806 807 213 1 476 477 478 479 480 809 810
noncomputable def c11_482 (P : Params) : Obj := m6 P q106 q140 (M 32 2) q64 515 481
noncomputable def c11_485 (P : Params) : Obj := m3 P q25 815
noncomputable def c11_487 (P : Params) : Obj := m4 P q107 q141 (M 32 3)
noncomputable def c11_488 (P : Params) : Obj := m5 P q107 812 q141 813 814 216 1 483 484 485 486 487 816 817
noncomputable def c11_489 (P : Params) : Obj := m6 P q107 q141 (M 32 3) q64 515 488
noncomputable def c11_491 (P : Params) : Obj := (Obj.mk y3 none (Data.dict (A [(de P q17 784 (vs q64 515)), (de P q19 788 (vi 205 787)), (de P q103 795 (vr 468)), (de P q104 804 (vr 475)), (de P q106 811 (vr 482)), (de P q107 818 (vr 489)), (de P q20 819 (vr 490)), (de P q5 820 vn)]) 2) E)
noncomputable def c11_492 (P : Params) : Obj := (Obj.mk y9 none (Data.cls (ClassData.mk q137 [(vr 339)] [(vr 492), (vr 339), (vr 311), y12] 491 q137 Bool.true [] [] Bool.false none Bool.false)) (A [(sr 455), none, (some (vs q137 777)), (some (vs q137 785)), (some y18), (some vT)]))
noncomputable def c11_493 (P : Params) : Obj := m8 P 492
noncomputable def c11_494 (P : Params) : Obj := m9 P 492
noncomputable def u132 (P : Params) : BT := (nd (a12 P) (nd (c4_159 P) (l1 (c6_287 P)) (l1 (a11 P))) (nd (c5_223 P) (l1 (c8_351 P)) (l1 (a11 P))))
noncomputable def u133 (P : Params) : BT := (nd (c2_103 P) (nd (a11 P) (l1 (a11 P)) (l1 (a12 P))) (nd (a11 P) (l1 (a11 P)) (l1 (c11_487 P))))
noncomputable def u134 (P : Params) : BT := (nd (c2_99 P) (nd (a11 P) (l1 (a11 P)) (l1 (c10_419 P))) (nd (a11 P) (l1 (c8_355 P)) (l1 (a11 P))))
noncomputable def u135 (P : Params) : BT := (nd (c2_107 P) (nd (c4_171 P) (l1 (c6_299 P)) (l1 (c10_427 P))) (nd (c5_235 P) (l1 (a11 P)) (l1 (c11_491 P))))
noncomputable def u136 (P : Params) : BT := (nd (a11 P) (nd (a12 P) (l1 (a12 P)) (l1 (c10_417 P))) (nd (a12 P) (l1 (c8_353 P)) (l1 (c11_481 P))))
noncomputable def u137 (P : Params) : BT := (nd (c2_105 P) (nd (c4_169 P) (l1 (c6_297 P)) (l1 (a11 P))) (nd (c5_233 P) (l1 (c8_361 P)) (l1 (c11_489 P))))
noncomputable def u138 (P : Params) : BT := (nd (a11 P) (nd (c4_165 P) (l1 (c6_293 P)) (l1 (c10_421 P))) (nd (c5_229 P) (l1 (a12 P)) (l1 (c11_485 P))))
noncomputable def u139 (P : Params) : BT := (nd (c2_109 P) (nd (a12 P) (l1 (c6_301 P)) (l1 (a11 P))) (nd (c5_237 P) (l1 (c8_365 P)) (l1 (c11_493 P))))
noncomputable def u140 (P : Params) : BT := (nd (c2_96 P) (nd (a11 P) (l1 (a11 P)) (l1 (a12 P))) (nd (a11 P) (l1 (a11 P)) (l1 (c11_480 P))))
noncomputable def u141 (P : Params) : BT := (nd (a11 P) (nd (c4_168 P) (l1 (a12 P)) (l1 (c10_424 P))) (nd (a12 P) (l1 (c8_360 P)) (l1 (c11_488 P))))
noncomputable def u142 (P : Params) : BT := (nd (c2_100 P) (nd (c4_164 P) (l1 (c6_292 P)) (l1 (c10_420 P))) (nd (c5_228 P) (l1 (a11 P)) (l1 (a12 P))))
noncomputable def u143 (P : Params) : BT := (nd (c2_108 P) (nd (a11 P) (l1 (c6_300 P)) (l1 (c10_428 P))) (nd (c5_236 P) (l1 (a12 P)) (l1 (c11_492 P))))
noncomputable def u144 (P : Params) : BT := (nd (c2_98 P) (nd (c4_162 P) (l1 (c6_290 P)) (l1 (a11 P))) (nd (c5_226 P) (l1 (c8_354 P)) (l1 (c11_482 P))))
noncomputable def u145 (P : Params) : BT := (nd (c2_106 P) (nd (c4_170 P) (l1 (a11 P)) (l1 (c10_426 P))) (nd (a11 P) (l1 (c8_362 P)) (l1 (a11 P))))
noncomputable def u146 (P : Params) : BT := (nd (a12 P) (nd (c4_166 P) (l1 (c6_294 P)) (l1 (a11 P))) (nd (c5_230 P) (l1 (c8_358 P)) (l1 (a11 P))))
noncomputable def u147 (P : Params) : BT := (nd (c4_110 P) (nd (c4_174 P) (l1 (a11 P)) (l1 (a12 P))) (nd (a11 P) (l1 (a11 P)) (l1 (c11_494 P))))
noncomputable def u148 (P : Params) : BT := (nd (a11 P) (nd (c4_158 P) (l1 (c6_286 P)) (l1 (c10_414 P))) (nd (c5_222 P) (l1 (a12 P)) (l1 (c11_478 P))))
noncomputable def tc11_ (P : Params) : BT := (nd (boot_o_0 P) (nd (boot_o_1 P) (nd (c11_3 P) (nd (boot_o_7 P) (nd (a11 P) (nd (c1_31 P) (u108 P) (u132 P)) (nd (c0_35 P) (nd (c2_79 P) (nd (c3_143 P) (l1 (c6_271 P)) (l1 (a11 P))) (nd (c5_207 P) (l1 (c7_335 P)) (l1 (a12 P)))) (u109 P))) (nd (c0_23 P) (nd (a12 P) (nd (c2_71 P) (nd (c0_23 P) (l1 (a11 P)) (l1 (c9_391 P))) (nd (a11 P) (l1 (c7_327 P)) (l1 (c8_342 P)))) (u133 P)) (nd (a12 P) (nd (a11 P) (nd (c3_151 P) (l1 (c6_279 P)) (l1 (c9_407 P))) (nd (c5_215 P) (l1 (c0_23 P)) (l1 (c11_471 P)))) (u110 P)))) (nd (a11 P) (nd (c0_19 P) (nd (c0_35 P) (u111 P) (u134 P)) (nd (c1_51 P) (nd (a11 P) (nd (c3_147 P) (l1 (a12 P)) (l1 (a11 P))) (nd (a12 P) (l1 (c11_339 P)) (l1 (c11_467 P)))) (u112 P))) (nd (c0_27 P) (nd (c0_43 P) (nd (c2_75 P) (nd (c3_139 P) (l1 (a11 P)) (l1 (c9_395 P))) (nd (a11 P) (l1 (a12 P)) (l1 (c11_459 P)))) (u135 P)) (nd (c1_59 P) (nd (c2_91 P) (nd (c4_155 P) (l1 (c6_283 P)) (l1 (a11 P))) (nd (c5_219 P) (l1 (c8_347 P)) (l1 (c11_475 P)))) (u113 P))))) (nd (boot_o_5 P) (nd (boot_o_9 P) (nd (c0_17 P) (nd (c0_33 P) (u114 P) (u136 P)) (nd (c1_49 P) (nd (a12 P) (nd (c3_145 P) (l1 (c6_273 P)) (l1 (c9_401 P))) (nd (c5_209 P) (l1 (c7_337 P)) (l1 (a11 P)))) (u115 P))) (nd (a11 P) (nd (c0_41 P) (nd (a11 P) (nd (a11 P) (l1 (c6_265 P)) (l1 (c9_393 P))) (nd (c5_201 P) (l1 (c7_329 P)) (l1 (c11_457 P)))) (u137 P)) (nd (a11 P) (nd (c2_89 P) (nd (c3_115 P) (l1 (a11 P)) (l1 (c0_23 P))) (nd (a11 P) (l1 (a11 P)) (l1 (c11_473 P)))) (u116 P)))) (nd (a13 P) (nd (c0_21 P) (nd (c0_37 P) (u117 P) (u138 P)) (nd (c1_53 P) (nd (c2_85 P) (nd (c3_149 P) (l1 (a11 P)) (l1 (c9_405 P))) (nd (a11 P) (l1 (c7_341 P)) (l1 (a11 P)))) (u118 P))) (nd (a11 P) (nd (c0_45 P) (nd (c2_77 P) (nd (a11 P) (l1 (c6_269 P)) (l1 (a12 P))) (nd (c5_205 P) (l1 (a11 P)) (l1 (c11_461 P)))) (u139 P)) (nd (c1_61 P) (nd (c2_93 P) (nd (c4_157 P) (l1 (c6_285 P)) (l1 (c10_413 P))) (nd (c5_221 P) (l1 (a11 P)) (l1 (a12 P)))) (u119 P)))))) (nd (boot_o_2 P) (nd (boot_o_4 P) (nd (boot_o_8 P) (nd (a12 P) (nd (c0_32 P) (u120 P) (u140 P)) (nd (c0_23 P) (nd (a11 P) (nd (a11 P) (l1 (c6_272 P)) (l1 (c9_400 P))) (nd (c5_208 P) (l1 (c7_336 P)) (l1 (c11_464 P)))) (u121 P))) (nd (c0_24 P) (nd (c0_40 P) (nd (c2_72 P) (nd (c3_136 P) (l1 (c6_264 P)) (l1 (a11 P))) (nd (c5_200 P) (l1 (c7_328 P)) (l1 (c0_23 P)))) (u141 P)) (nd (c1_56 P) (nd (a12 P) (nd (c3_152 P) (l1 (c6_280 P)) (l1 (c7_316 P))) (nd (c5_216 P) (l1 (c8_344 P)) (l1 (a11 P)))) (u122 P)))) (nd (c11_12 P) (nd (c0_20 P) (nd (c0_23 P) (u123 P) (u142 P)) (nd (c1_52 P) (nd (c2_84 P) (nd (a11 P) (l1 (c6_276 P)) (l1 (c9_404 P))) (nd (c5_212 P) (l1 (c7_340 P)) (l1 (c11_468 P)))) (u124 P))) (nd (c0_28 P) (nd (c0_44 P) (nd (a11 P) (nd (c3_140 P) (l1 (a12 P)) (l1 (a11 P))) (nd (a12 P) (l1 (c7_332 P)) (l1 (c11_460 P)))) (u143 P)) (nd (c1_60 P) (nd (c2_92 P) (nd (a11 P) (l1 (a11 P)) (l1 (c10_412 P))) (nd (a11 P) (l1 (c8_348 P)) (l1 (a11 P)))) (u125 P))))) (nd (boot_o_6 P) (nd (boot_o_10 P) (nd (a11 P) (nd (c0_34 P) (u126 P) (u144 P)) (nd (a11 P) (nd (c2_82 P) (nd (c3_146 P) (l1 (a11 P)) (l1 (c9_402 P))) (nd (a11 P) (l1 (c7_338 P)) (l1 (c11_466 P)))) (u127 P))) (nd (a12 P) (nd (a11 P) (nd (a12 P) (nd (c3_138 P) (l1 (c6_266 P)) (l1 (c9_394 P))) (nd (c5_202 P) (l1 (a11 P)) (l1 (a11 P)))) (u145 P)) (nd (c1_58 P) (nd (a11 P) (nd (c0_23 P) (l1 (a12 P)) (l1 (c10_410 P))) (nd (a12 P) (l1 (c8_346 P)) (l1 (c11_474 P)))) (u128 P)))) (nd (a14 P) (nd (c0_22 P) (nd (a11 P) (u129 P) (u146 P)) (nd (a11 P) (nd (c2_86 P) (nd (c3_150 P) (l1 (c6_278 P)) (l1 (c9_406 P))) (nd (c5_214 P) (l1 (c8_342 P)) (l1 (a12 P)))) (u130 P))) (nd (c0_30 P) (nd (c0_46 P) (nd (c2_78 P) (nd (a12 P) (l1 (a11 P)) (l1 (c9_398 P))) (nd (a11 P) (l1 (c7_334 P)) (l1 (a11 P)))) (u147 P)) (nd (c1_62 P) (u148 P) (u131 P)))))))
noncomputable def sc11_ (w : World) (os : OsState) : SharedT := SharedT.mk (tc11_ w.params) 495 (@Life.mk [] [] [] 0 [] [] Bool.false E [] 0 Bool.false Bool.false Bool.false 0 [2000, 10, 10] Bool.false 0 Bool.true [] [] 0 Bool.false) E (@Drawn.mk 0 0 0 0) 823 os
noncomputable def c12_3 (P : Params) : Obj := (Obj.mk y3 none (Data.dict (A [(de P q3 165 (vs q64 515)), (de P q5 166 vn), (de P q6 167 vn), (de P q7 168 y4), (de P q8 169 vn), (de P q9 170 (vr 6)), (de P q10 171 (vr 4)), (de P q11 173 (vs q1 172)), (de P q12 174 vn), (de P q13 193 (vr 21)), (de P q14 213 (vr 31)), (de P q15 229 (vr 44)), (de P q23 254 (vr 63)), (de P q28 317 (vr 110)), (de P q42 340 (vr 131)), (de P q43 363 (vr 150)), (de P q47 386 (vr 169)), (de P q48 390 (vi 400 389)), (de P q49 392 (vi 2000 391)), (de P q50 394 (vi 2000 393)), (de P q51 396 (vi 8 395)), (de P q52 398 (vi 100000 397)), (de P q53 400 (vi 32 399)), (de P q54 402 (vi 37 401)), (de P q55 404 (vi 126 403)), (de P q56 411 (vr 178)), (de P q57 417 (vr 183)), (de P q58 423 (vr 188)), (de P q59 431 (vr 195)), (de P q65 514 (vr 254)), (de P q66 518 (vi 40 517)), (de P q89 540 (vr 259)), (de P q90 605 (vr 311)), (de P q116 639 (vr 339)), (de P q121 678 (vr 372)), (de P q125 717 (vr 405)), (de P q129 776 (vr 452)), (de P q137 822 (vr 492)), (de P q142 880 (vr 539))]) 39) E)
noncomputable def c12_12 (P : Params) : Obj := (Obj.mk vn none (Data.fields (A [(vi 1 0), (vi 0 0), (vr 20), (vi 5 0), (vi 0 0), (vr 27), (vi 7 0), (vi 0 0), (vr 40), (vi 9 0), (vi 0 0), (vr 52), (vi 14 0), (vi 0 0), (vr 71), (vi 31 0), (vi 0 0), (vr 120), (vi 35 0), (vi 0 0), (vr 139), (vi 39 0), (vi 0 0), (vr 158), (vi 52 0), (vi 0 0), (vr 177), (vi 54 0), (vi 0 0), (vr 182), (vi 60 0), (vi 0 0), (vr 187), (vi 70 0), (vi 0 0), (vr 194), (vi 73 0), (vi 0 0), (vr 201), (vi 140 0), (vi 0 0), (vr 265), (vi 159 0), (vi 0 0), (vr 321), (vi 167 0), (vi 0 0), (vr 347), (vi 177 0), (vi 0 0), (vr 380), (vi 187 0), (vi 0 0), (vr 413), (vi 205 0), (vi 0 0), (vr 460), (vi 218 0), (vi 0 0), (vr 500)])) E)
noncomputable def c12_339 (P : Params) : Obj := (Obj.mk y9 none (Data.cls (ClassData.mk q116 [(vr 311)] [(vr 339), (vr 311), y12] 338 q116 Bool.true [] [(vr 372), (vr 405), (vr 492), (vr 539)] Bool.false none Bool.false)) (A [(sr 316), none, (some (vs q116 606)), (some (vs q116 614)), (some y18), (some vT)]))
noncomputable def c12_497 (P : Params) : Obj := (Obj.mk y3 none (Data.dict (A [(de P q17 830 (vs q64 515)), (de P q18 832 (vs q142 831)), (de P q19 834 (vi 218 833)), (de P q24 844 (vr 508)), (de P q103 851 (vr 515)), (de P q104 860 (vr 522)), (de P q105 868 (vr 529)), (de P q107 875 (vr 536)), (de P q20 877 (vr 537))]) 9) E)
noncomputable def c12_499 (P : Params) : Obj := m15 P 220 4 507 224 514 227 521 230 528 233 535
noncomputable def c12_500 (P : Params) : Obj := m0 P q142 825 826 827 218 498 499 828 829
noncomputable def c12_501 (P : Params) : Obj := m1 P 500 497 q64 515
noncomputable def c12_504 (P : Params) : Obj := m19 P q25 838 q117 839 q118 840 q143 841
noncomputable def c12_506 (P : Params) : Obj := m4 P q24 q144 (M 33 0)
noncomputable def c12_507 (P : Params) : Obj := m5 P q24 835 q144 836 837 220 4 502 503 504 505 506 842 843
noncomputable def c12_508 (P : Params) : Obj := m6 P q24 q144 (M 33 0) q64 515 507
noncomputable def c12_511 (P : Params) : Obj := m3 P q25 848
noncomputable def c12_513 (P : Params) : Obj := m4 P q103 q145 (M 33 1)
noncomputable def c12_514 (P : Params) : Obj := m5 P q103 845 q145 846 847 224 1 509 510 511 512 513 849 850
noncomputable def c12_515 (P : Params) : Obj := m6 P q103 q145 (M 33 1) q64 515 514
noncomputable def c12_518 (P : Params) : Obj := m16 P q25 855 q110 856 q111 857
noncomputable def c12_520 (P : Params) : Obj := m4 P q104 q146 (M 33 2)
noncomputable def c12_521 (P : Params) : Obj := m5 P q104 852 q146 853 854 227 3 516 517 518 519 520 858 859
noncomputable def c12_522 (P : Params) : Obj := m6 P q104 q146 (M 33 2) q64 515 521
noncomputable def c12_525 (P : Params) : Obj := m13 P q25 864 q111 865
noncomputable def c12_527 (P : Params) : Obj := m4 P q105 q147 (M 33 3)
noncomputable def c12_528 (P : Params) : Obj := m5 P q105 861 q147 862 863 230 2 523 524 525 526 527 866 867
noncomputable def c12_529 (P : Params) : Obj := m6 P q105 q147 (M 33 3) q64 515 528
noncomputable def c12_532 (P : Params) : Obj := m3 P q25 872
noncomputable def c12_534 (P : Params) : Obj := m4 P q107 q148 (M 33 4)
noncomputable def c12_535 (P : Params) : Obj := m5 P q107 869 q148 870 871 233 1 530 531 532 533 534 873 874
noncomputable def c12_536 (P : Params) : Obj := m6 P q107 q148 (M 33 4) q64 515 535
noncomputable def c12_537 (P : Params) : Obj := m3 P q143 876
noncomputable def c12_538 (P : Params) : Obj := (Obj.mk y3 none (Data.dict (A [(de P q17 830 (vs q64 515)), (de P q19 834 (vi 218 833)), (de P q24 844 (vr 508)), (de P q103 851 (vr 515)), (de P q104 860 (vr 522)), (de P q105 868 (vr 529)), (de P q107 875 (vr 536)), (de P q20 877 (vr 537)), (de P q5 878 vn)]) 2) E)
noncomputable def c12_539 (P : Params) : Obj := (Obj.mk y9 none (Data.cls (ClassData.mk q142 [(vr 339)] [(vr 539), (vr 339), (vr 311), y12] 538 q142 Bool.true [] [] Bool.false none Bool.false)) (A [(sr 495), none, (some (vs q142 823)), (some (vs q142 831)), (some y18), (some vT)]))
noncomputable def c12_540 (P : Params) : Obj := m8 P 539
noncomputable def c12_541 (P : Params) : Obj := m9 P 539
noncomputable def u149 (P : Params) : BT := (nd (c1_63 P) (nd (c3_127 P) (nd (c5_255 P) (l1 (c12_511 P)) .nil) (l1 (a12 P))) (nd (c4_191 P) (l1 (a11 P)) (l1 (c10_447 P))))
noncomputable def u150 (P : Params) : BT := (nd (c3_143 P) (nd (c6_271 P) (l1 (c12_527 P)) .nil) (l1 (a11 P)))
noncomputable def u151 (P : Params) : BT := (nd (c2_79 P) (u150 P) (nd (c5_207 P) (l1 (c7_335 P)) (l1 (a12 P))))
noncomputable def u152 (P : Params) : BT := (nd (c2_71 P) (nd (c0_23 P) (nd (a11 P) (l1 (a11 P)) .nil) (l1 (c9_391 P))) (nd (a11 P) (l1 (c7_327 P)) (l1 (c8_342 P))))
noncomputable def u153 (P : Params) : BT := (nd (c3_151 P) (nd (c6_279 P) (l1 (c12_535 P)) .nil) (l1 (c9_407 P)))
noncomputable def u154 (P : Params) : BT := (nd (a11 P) (u153 P) (nd (c5_215 P) (l1 (c0_23 P)) (l1 (c11_471 P))))
noncomputable def u155 (P : Params) : BT := (nd (c0_23 P) (nd (c3_131 P) (nd (c6_259 P) (l1 (c12_515 P)) .nil) (l1 (c9_387 P))) (nd (c4_195 P) (l1 (a11 P)) (l1 (c10_451 P))))
noncomputable def u156 (P : Params) : BT := (nd (a11 P) (nd (c3_147 P) (nd (a12 P) (l1 (a12 P)) .nil) (l1 (a11 P))) (nd (a12 P) (l1 (c12_339 P)) (l1 (c11_467 P))))
noncomputable def u157 (P : Params) : BT := (nd (c2_75 P) (nd (c3_139 P) (nd (a11 P) (l1 (a11 P)) .nil) (l1 (c9_395 P))) (nd (a11 P) (l1 (a12 P)) (l1 (c11_459 P))))
noncomputable def u158 (P : Params) : BT := (nd (c4_155 P) (nd (c6_283 P) (l1 (c12_539 P)) .nil) (l1 (a11 P)))
noncomputable def u159 (P : Params) : BT := (nd (c2_91 P) (u158 P) (nd (c5_219 P) (l1 (c8_347 P)) (l1 (c11_475 P))))
noncomputable def u160 (P : Params) : BT := (nd (c1_65 P) (nd (a11 P) (nd (c5_257 P) (l1 (c12_513 P)) .nil) (l1 (a11 P))) (nd (c4_193 P) (l1 (c7_321 P)) (l1 (c10_449 P))))
noncomputable def u161 (P : Params) : BT := (nd (c3_145 P) (nd (c6_273 P) (l1 (c12_529 P)) .nil) (l1 (c9_401 P)))
noncomputable def u162 (P : Params) : BT := (nd (a12 P) (u161 P) (nd (c5_209 P) (l1 (c7_337 P)) (l1 (a11 P))))
noncomputable def u163 (P : Params) : BT := (nd (a11 P) (nd (a11 P) (nd (c6_265 P) (l1 (c12_521 P)) .nil) (l1 (c9_393 P))) (nd (c5_201 P) (l1 (c7_329 P)) (l1 (c11_457 P))))
noncomputable def u164 (P : Params) : BT := (nd (c3_115 P) (nd (a11 P) (l1 (c12_537 P)) .nil) (l1 (c0_23 P)))
noncomputable def u165 (P : Params) : BT := (nd (c2_89 P) (u164 P) (nd (a11 P) (l1 (a11 P)) (l1 (c11_473 P))))
noncomputable def u166 (P : Params) : BT := (nd (a11 P) (nd (c3_133 P) (nd (c0_23 P) (l1 (a12 P)) .nil) (l1 (a11 P))) (nd (c0_23 P) (l1 (c7_325 P)) (l1 (c10_453 P))))
noncomputable def u167 (P : Params) : BT := (nd (c3_149 P) (nd (a11 P) (l1 (a11 P)) .nil) (l1 (c9_405 P)))
noncomputable def u168 (P : Params) : BT := (nd (c2_85 P) (u167 P) (nd (a11 P) (l1 (c7_341 P)) (l1 (a11 P))))
noncomputable def u169 (P : Params) : BT := (nd (a11 P) (nd (c6_269 P) (l1 (c12_525 P)) .nil) (l1 (a12 P)))
noncomputable def u170 (P : Params) : BT := (nd (c2_77 P) (u169 P) (nd (c5_205 P) (l1 (a11 P)) (l1 (c11_461 P))))
noncomputable def u171 (P : Params) : BT := (nd (c4_157 P) (nd (c6_285 P) (l1 (c12_541 P)) .nil) (l1 (c10_413 P)))
noncomputable def u172 (P : Params) : BT := (nd (c2_93 P) (u171 P) (nd (c5_221 P) (l1 (a11 P)) (l1 (a12 P))))
noncomputable def u173 (P : Params) : BT := (nd (c1_64 P) (nd (c3_128 P) (nd (c5_256 P) (l1 (a11 P)) .nil) (l1 (c9_384 P))) (nd (a11 P) (l1 (c7_320 P)) (l1 (c10_448 P))))
noncomputable def u174 (P : Params) : BT := (nd (a11 P) (nd (c6_272 P) (l1 (c12_528 P)) .nil) (l1 (c9_400 P)))
noncomputable def u175 (P : Params) : BT := (nd (a11 P) (u174 P) (nd (c5_208 P) (l1 (c7_336 P)) (l1 (c11_464 P))))
noncomputable def u176 (P : Params) : BT := (nd (c2_72 P) (nd (c3_136 P) (nd (c6_264 P) (l1 (c12_520 P)) .nil) (l1 (a11 P))) (nd (c5_200 P) (l1 (c7_328 P)) (l1 (c0_23 P))))
noncomputable def u177 (P : Params) : BT := (nd (c3_152 P) (nd (c6_280 P) (l1 (c12_536 P)) .nil) (l1 (c7_316 P)))
noncomputable def u178 (P : Params) : BT := (nd (a12 P) (u177 P) (nd (c5_216 P) (l1 (c8_344 P)) (l1 (a11 P))))
noncomputable def u179 (P : Params) : BT := (nd (c2_68 P) (nd (c3_132 P) (nd (a11 P) (l1 (a11 P)) .nil) (l1 (c9_388 P))) (nd (a11 P) (l1 (a12 P)) (l1 (c10_452 P))))
noncomputable def u180 (P : Params) : BT := (nd (a11 P) (nd (c6_276 P) (l1 (c12_532 P)) .nil) (l1 (c9_404 P)))
noncomputable def u181 (P : Params) : BT := (nd (c2_84 P) (u180 P) (nd (c5_212 P) (l1 (c7_340 P)) (l1 (c11_468 P))))
noncomputable def u182 (P : Params) : BT := (nd (a11 P) (nd (c3_140 P) (nd (a12 P) (l1 (a12 P)) .nil) (l1 (a11 P))) (nd (a12 P) (l1 (c7_332 P)) (l1 (c11_460 P))))
noncomputable def u183 (P : Params) : BT := (nd (a11 P) (nd (a11 P) (l1 (c12_540 P)) .nil) (l1 (c10_412 P)))
noncomputable def u184 (P : Params) : BT := (nd (c2_92 P) (u183 P) (nd (a11 P) (l1 (c8_348 P)) (l1 (a11 P))))
noncomputable def u185 (P : Params) : BT := (nd (a11 P) (nd (c3_130 P) (nd (c5_258 P) (l1 (c12_514 P)) .nil) (l1 (c9_386 P))) (nd (c4_194 P) (l1 (c7_322 P)) (l1 (c10_450 P))))
noncomputable def u186 (P : Params) : BT := (nd (c3_146 P) (nd (a11 P) (l1 (a11 P)) .nil) (l1 (c9_402 P)))
noncomputable def u187 (P : Params) : BT := (nd (c2_82 P) (u186 P) (nd (a11 P) (l1 (c7_338 P)) (l1 (c11_466 P))))
noncomputable def u188 (P : Params) : BT := (nd (a12 P) (nd (c3_138 P) (nd (c6_266 P) (l1 (c12_522 P)) .nil) (l1 (c9_394 P))) (nd (c5_202 P) (l1 (a11 P)) (l1 (a11 P))))
noncomputable def u189 (P : Params) : BT := (nd (c0_23 P) (nd (a12 P) (l1 (c12_538 P)) .nil) (l1 (c10_410 P)))
noncomputable def u190 (P : Params) : BT := (nd (a11 P) (u189 P) (nd (a12 P) (l1 (c8_346 P)) (l1 (c11_474 P))))
noncomputable def u191 (P : Params) : BT := (nd (c2_70 P) (nd (c3_115 P) (nd (c6_262 P) (l1 (c12_518 P)) .nil) (l1 (a12 P))) (nd (c5_198 P) (l1 (a11 P)) (l1 (c10_454 P))))
noncomputable def u192 (P : Params) : BT := (nd (c3_150 P) (nd (c6_278 P) (l1 (c12_534 P)) .nil) (l1 (c9_406 P)))
noncomputable def u193 (P : Params) : BT := (nd (c2_86 P) (u192 P) (nd (c5_214 P) (l1 (c8_342 P)) (l1 (a12 P))))
noncomputable def u194 (P : Params) : BT := (nd (c2_78 P) (nd (a12 P) (nd (a11 P) (l1 (a11 P)) .nil) (l1 (c9_398 P))) (nd (a11 P) (l1 (c7_334 P)) (l1 (a11 P))))
noncomputable def tc12_ (P : Params) : BT := (nd (boot_o_0 P) (nd (boot_o_1 P) (nd (c12_3 P) (nd (boot_o_7 P) (nd (a11 P) (nd (c1_31 P) (u149 P) (u132 P)) (nd (c0_35 P) (u151 P) (nd (c2_111 P) (nd (a11 P) (l1 (a12 P)) (l1 (c10_431 P))) (nd (a12 P) (l1 (c8_367 P)) (l1 (c8_342 P)))))) (nd (c0_23 P) (nd (a12 P) (u152 P) (u133 P)) (nd (a12 P) (u154 P) (nd (c3_119 P) (nd (c4_183 P) (l1 (c10_311 P)) (l1 (a11 P))) (nd (c5_247 P) (l1 (c8_342 P)) (l1 (a12 P))))))) (nd (a11 P) (nd (c0_19 P) (nd (c0_35 P) (u155 P) (u134 P)) (nd (c1_51 P) (u156 P) (nd (c3_115 P) (nd (a11 P) (l1 (c6_307 P)) (l1 (c10_435 P))) (nd (c5_243 P) (l1 (c8_371 P)) (l1 (c12_499 P)))))) (nd (c0_27 P) (nd (c0_43 P) (u157 P) (u135 P)) (nd (c1_59 P) (u159 P) (nd (a12 P) (nd (c4_187 P) (l1 (c6_315 P)) (l1 (a11 P))) (nd (c5_251 P) (l1 (c9_379 P)) (l1 (c12_507 P)))))))) (nd (boot_o_5 P) (nd (boot_o_9 P) (nd (c0_17 P) (nd (c0_33 P) (u160 P) (u136 P)) (nd (c1_49 P) (u162 P) (nd (c2_113 P) (nd (c4_177 P) (l1 (a11 P)) (l1 (c10_433 P))) (nd (a11 P) (l1 (c8_369 P)) (l1 (c12_497 P)))))) (nd (a11 P) (nd (c0_41 P) (u163 P) (u137 P)) (nd (a11 P) (u165 P) (nd (c3_121 P) (nd (a12 P) (l1 (c6_313 P)) (l1 (c10_441 P))) (nd (c5_249 P) (l1 (c9_377 P)) (l1 (a11 P))))))) (nd (a13 P) (nd (c0_21 P) (nd (c0_37 P) (u166 P) (u138 P)) (nd (c1_53 P) (u168 P) (nd (c3_117 P) (nd (c4_181 P) (l1 (a11 P)) (l1 (a12 P))) (nd (a11 P) (l1 (c8_373 P)) (l1 (c12_501 P)))))) (nd (a11 P) (nd (c0_45 P) (u170 P) (u139 P)) (nd (c1_61 P) (u172 P) (nd (a11 P) (nd (a11 P) (l1 (c0_23 P)) (l1 (c10_445 P))) (nd (c5_253 P) (l1 (c9_381 P)) (l1 (a11 P))))))))) (nd (boot_o_2 P) (nd (boot_o_4 P) (nd (boot_o_8 P) (nd (a12 P) (nd (c0_32 P) (u173 P) (u140 P)) (nd (c0_23 P) (u175 P) (nd (c2_112 P) (nd (c4_176 P) (l1 (c6_304 P)) (l1 (a11 P))) (nd (c5_240 P) (l1 (c8_368 P)) (l1 (c0_23 P)))))) (nd (c0_24 P) (nd (c0_40 P) (u176 P) (u141 P)) (nd (c1_56 P) (u178 P) (nd (c3_120 P) (nd (a11 P) (l1 (c6_312 P)) (l1 (c10_440 P))) (nd (a11 P) (l1 (c0_23 P)) (l1 (c12_504 P))))))) (nd (c12_12 P) (nd (c0_20 P) (nd (c0_23 P) (u179 P) (u142 P)) (nd (c1_52 P) (u181 P) (nd (c0_23 P) (nd (a12 P) (l1 (c6_308 P)) (l1 (a11 P))) (nd (c5_244 P) (l1 (c8_372 P)) (l1 (c12_500 P)))))) (nd (c0_28 P) (nd (c0_44 P) (u182 P) (u143 P)) (nd (c1_60 P) (u184 P) (nd (c3_124 P) (nd (c4_188 P) (l1 (c7_316 P)) (l1 (a12 P))) (nd (c5_252 P) (l1 (c9_380 P)) (l1 (c12_508 P)))))))) (nd (boot_o_6 P) (nd (boot_o_10 P) (nd (a11 P) (nd (c0_34 P) (u185 P) (u144 P)) (nd (a11 P) (u187 P) (nd (c2_114 P) (nd (c4_178 P) (l1 (c6_306 P)) (l1 (c10_434 P))) (nd (c5_242 P) (l1 (a11 P)) (l1 (a11 P)))))) (nd (a12 P) (nd (a11 P) (u188 P) (u145 P)) (nd (c1_58 P) (u190 P) (nd (a11 P) (nd (c4_186 P) (l1 (c6_314 P)) (l1 (c10_442 P))) (nd (c5_250 P) (l1 (a11 P)) (l1 (c12_506 P))))))) (nd (a14 P) (nd (c0_22 P) (nd (a11 P) (u191 P) (u146 P)) (nd (a11 P) (u193 P) (nd (a11 P) (nd (c4_182 P) (l1 (c6_310 P)) (l1 (c10_438 P))) (nd (a12 P) (l1 (c8_374 P)) (l1 (a11 P)))))) (nd (c0_30 P) (nd (c0_46 P) (u194 P) (u147 P)) (nd (c1_62 P) (u148 P) (nd (c3_126 P) (nd (a12 P) (l1 (c7_318 P)) (l1 (a11 P))) (nd (c5_254 P) (l1 (a11 P)) (l1 (a12 P))))))))))
noncomputable def sc12_ (w : World) (os : OsState) : SharedT := SharedT.mk (tc12_ w.params) 542 (@Life.mk [] [] [] 0 [] [] Bool.false E [] 0 Bool.false Bool.false Bool.false 0 [2000, 10, 10] Bool.false 0 Bool.true [] [] 0 Bool.false) E (@Drawn.mk 0 0 0 0) 881 os
noncomputable def c13_3 (P : Params) : Obj := (Obj.mk y3 none (Data.dict (A [(de P q3 165 (vs q64 515)), (de P q5 166 vn), (de P q6 167 vn), (de P q7 168 y4), (de P q8 169 vn), (de P q9 170 (vr 6)), (de P q10 171 (vr 4)), (de P q11 173 (vs q1 172)), (de P q12 174 vn), (de P q13 193 (vr 21)), (de P q14 213 (vr 31)), (de P q15 229 (vr 44)), (de P q23 254 (vr 63)), (de P q28 317 (vr 110)), (de P q42 340 (vr 131)), (de P q43 363 (vr 150)), (de P q47 386 (vr 169)), (de P q48 390 (vi 400 389)), (de P q49 392 (vi 2000 391)), (de P q50 394 (vi 2000 393)), (de P q51 396 (vi 8 395)), (de P q52 398 (vi 100000 397)), (de P q53 400 (vi 32 399)), (de P q54 402 (vi 37 401)), (de P q55 404 (vi 126 403)), (de P q56 411 (vr 178)), (de P q57 417 (vr 183)), (de P q58 423 (vr 188)), (de P q59 431 (vr 195)), (de P q65 514 (vr 254)), (de P q66 518 (vi 40 517)), (de P q89 540 (vr 259)), (de P q90 605 (vr 311)), (de P q116 639 (vr 339)), (de P q121 678 (vr 372)), (de P q125 717 (vr 405)), (de P q129 776 (vr 452)), (de P q137 822 (vr 492)), (de P q142 880 (vr 539)), (de P q149 921 (vr 572))]) 40) E)
noncomputable def c13_12 (P : Params) : Obj := (Obj.mk vn none (Data.fields (A [(vi 1 0), (vi 0 0), (vr 20), (vi 5 0), (vi 0 0), (vr 27), (vi 7 0), (vi 0 0), (vr 40), (vi 9 0), (vi 0 0), (vr 52), (vi 14 0), (vi 0 0), (vr 71), (vi 31 0), (vi 0 0), (vr 120), (vi 35 0), (vi 0 0), (vr 139), (vi 39 0), (vi 0 0), (vr 158), (vi 52 0), (vi 0 0), (vr 177), (vi 54 0), (vi 0 0), (vr 182), (vi 60 0), (vi 0 0), (vr 187), (vi 70 0), (vi 0 0), (vr 194), (vi 73 0), (vi 0 0), (vr 201), (vi 140 0), (vi 0 0), (vr 265), (vi 159 0), (vi 0 0), (vr 321), (vi 167 0), (vi 0 0), (vr 347), (vi 177 0), (vi 0 0), (vr 380), (vi 187 0), (vi 0 0), (vr 413), (vi 205 0), (vi 0 0), (vr 460), (vi 218 0), (vi 0 0), (vr 500), (vi 235 0), (vi 0 0), (vr 547)])) E)
noncomputable def c13_311 (P : Params) : Obj := (Obj.mk y9 none (Data.cls (ClassData.mk q90 [y12] [(vr 311), y12] 310 q90 Bool.true [] [(vr 339), (vr 452), (vr 572)] Bool.false none Bool.false)) (A [none, none, (some (vs q90 541)), (some (vs q90 549)), (some y18), (some vT)]))
noncomputable def c13_544 (P : Params) : Obj := m20 P 888 890 q149 889 892 235 891 q24 900 555 909 562 916 569 918 570
noncomputable def c13_546 (P : Params) : Obj := m2 P 237 4 554 240 561 243 568
noncomputable def c13_547 (P : Params) : Obj := m0 P q149 883 884 885 235 545 546 886 887
noncomputable def c13_548 (P : Params) : Obj := m1 P 547 544 q64 515
noncomputable def c13_551 (P : Params) : Obj := m13 P q25 896 q143 897
noncomputable def c13_553 (P : Params) : Obj := m4 P q24 q150 (M 34 0)
noncomputable def c13_554 (P : Params) : Obj := m5 P q24 893 q150 894 895 237 2 549 550 551 552 553 898 899
noncomputable def c13_555 (P : Params) : Obj := m6 P q24 q150 (M 34 0) q64 515 554
noncomputable def c13_558 (P : Params) : Obj := m16 P q25 904 q110 905 q111 906
noncomputable def c13_560 (P : Params) : Obj := m4 P q104 q151 (M 34 1)
noncomputable def c13_561 (P : Params) : Obj := m5 P q104 901 q151 902 903 240 3 556 557 558 559 560 907 908
noncomputable def c13_562 (P : Params) : Obj := m6 P q104 q151 (M 34 1) q64 515 561
noncomputable def c13_565 (P : Params) : Obj := m3 P q25 913
noncomputable def c13_567 (P : Params) : Obj := m4 P q107 q152 (M 34 2)
noncomputable def c13_568 (P : Params) : Obj := m5 P q107 910 q152 911 912 243 1 563 564 565 566 567 914 915
noncomputable def c13_569 (P : Params) : Obj := m6 P q107 q152 (M 34 2) q64 515 568
noncomputable def c13_570 (P : Params) : Obj := m3 P q143 917
noncomputable def c13_571 (P : Params) : Obj := m21 P 888 892 235 891 q24 900 555 909 562 916 569 918 570 919
noncomputable def c13_572 (P : Params) : Obj := (Obj.mk y9 none (Data.cls (ClassData.mk q149 [(vr 311)] [(vr 572), (vr 311), y12] 571 q149 Bool.true [] [] Bool.false none Bool.false)) (A [(sr 542), none, (some (vs q149 881)), (some (vs q149 889)), (some y18), (some vT)]))
noncomputable def c13_573 (P : Params) : Obj := m8 P 572
noncomputable def c13_574 (P : Params) : Obj := m9 P 572
noncomputable def u195 (P : Params) : BT := (nd (c4_159 P) (nd (c6_287 P) (l1 (c0_23 P)) .nil) (l1 (a11 P)))
noncomputable def u196 (P : Params) : BT := (nd (a11 P) (nd (a11 P) (l1 (c13_547 P)) .nil) (l1 (c10_419 P)))
noncomputable def u197 (P : Params) : BT := (nd (a11 P) (nd (c6_307 P) (l1 (a11 P)) .nil) (l1 (c10_435 P)))
noncomputable def u198 (P : Params) : BT := (nd (c4_171 P) (nd (c6_299 P) (l1 (c13_555 P)) .nil) (l1 (c10_427 P)))
noncomputable def u199 (P : Params) : BT := (nd (c4_187 P) (nd (c6_315 P) (l1 (c13_571 P)) .nil) (l1 (a11 P)))
noncomputable def u200 (P : Params) : BT := (nd (c4_177 P) (nd (a11 P) (l1 (c13_561 P)) .nil) (l1 (c10_433 P)))
noncomputable def u201 (P : Params) : BT := (nd (c4_169 P) (nd (c6_297 P) (l1 (c13_553 P)) .nil) (l1 (a11 P)))
noncomputable def u202 (P : Params) : BT := (nd (a12 P) (nd (c6_313 P) (l1 (c13_569 P)) .nil) (l1 (c10_441 P)))
noncomputable def u203 (P : Params) : BT := (nd (c4_165 P) (nd (c6_293 P) (l1 (a11 P)) .nil) (l1 (c10_421 P)))
noncomputable def u204 (P : Params) : BT := (nd (c4_181 P) (nd (a11 P) (l1 (c13_565 P)) .nil) (l1 (a12 P)))
noncomputable def u205 (P : Params) : BT := (nd (a11 P) (nd (c0_23 P) (l1 (c13_573 P)) .nil) (l1 (c10_445 P)))
noncomputable def u206 (P : Params) : BT := (nd (c4_176 P) (nd (c6_304 P) (l1 (c13_560 P)) .nil) (l1 (a11 P)))
noncomputable def u207 (P : Params) : BT := (nd (c4_168 P) (nd (a12 P) (l1 (a11 P)) .nil) (l1 (c10_424 P)))
noncomputable def u208 (P : Params) : BT := (nd (a11 P) (nd (c6_312 P) (l1 (c13_568 P)) .nil) (l1 (c10_440 P)))
noncomputable def u209 (P : Params) : BT := (nd (c4_164 P) (nd (c6_292 P) (l1 (c13_548 P)) .nil) (l1 (c10_420 P)))
noncomputable def u210 (P : Params) : BT := (nd (a11 P) (nd (c6_300 P) (l1 (a11 P)) .nil) (l1 (c10_428 P)))
noncomputable def u211 (P : Params) : BT := (nd (c4_188 P) (nd (c7_316 P) (l1 (c13_572 P)) .nil) (l1 (a12 P)))
noncomputable def u212 (P : Params) : BT := (nd (c4_162 P) (nd (c6_290 P) (l1 (c13_546 P)) .nil) (l1 (a11 P)))
noncomputable def u213 (P : Params) : BT := (nd (c4_178 P) (nd (c6_306 P) (l1 (c13_562 P)) .nil) (l1 (c10_434 P)))
noncomputable def u214 (P : Params) : BT := (nd (c4_170 P) (nd (a11 P) (l1 (c13_554 P)) .nil) (l1 (c10_426 P)))
noncomputable def u215 (P : Params) : BT := (nd (c4_186 P) (nd (c6_314 P) (l1 (c13_570 P)) .nil) (l1 (c10_442 P)))
noncomputable def u216 (P : Params) : BT := (nd (c4_166 P) (nd (c6_294 P) (l1 (a12 P)) .nil) (l1 (a11 P)))
noncomputable def u217 (P : Params) : BT := (nd (c4_182 P) (nd (c6_310 P) (l1 (a11 P)) .nil) (l1 (c10_438 P)))
noncomputable def u218 (P : Params) : BT := (nd (c4_174 P) (nd (a11 P) (l1 (c13_558 P)) .nil) (l1 (a12 P)))
noncomputable def u219 (P : Params) : BT := (nd (c4_158 P) (nd (c6_286 P) (l1 (c7_316 P)) .nil) (l1 (c10_414 P)))
noncomputable def u220 (P : Params) : BT := (nd (a12 P) (nd (c7_318 P) (l1 (c13_574 P)) .nil) (l1 (a11 P)))
noncomputable def tc13_ (P : Params) : BT := (nd (boot_o_0 P) (nd (boot_o_1 P) (nd (c13_3 P) (nd (boot_o_7 P) (nd (a11 P) (nd (c1_31 P) (u149 P) (nd (a12 P) (u195 P) (nd (c5_223 P) (l1 (c8_351 P)) (l1 (a11 P))))) (nd (c0_35 P) (u151 P) (nd (c2_111 P) (nd (a11 P) (nd (a12 P) (l1 (a11 P)) .nil) (l1 (c10_431 P))) (nd (a12 P) (l1 (c8_367 P)) (l1 (c8_342 P)))))) (nd (c0_23 P) (nd (a12 P) (u152 P) (nd (c2_103 P) (nd (a11 P) (nd (a11 P) (l1 (c13_551 P)) .nil) (l1 (a12 P))) (nd (a11 P) (l1 (a11 P)) (l1 (c11_487 P))))) (nd (a12 P) (u154 P) (nd (c3_119 P) (nd (c4_183 P) (nd (c13_311 P) (l1 (c13_567 P)) .nil) (l1 (a11 P))) (nd (c5_247 P) (l1 (c8_342 P)) (l1 (a12 P))))))) (nd (a11 P) (nd (c0_19 P) (nd (c0_35 P) (u155 P) (nd (c2_99 P) (u196 P) (nd (a11 P) (l1 (c8_355 P)) (l1 (a11 P))))) (nd (c1_51 P) (u156 P) (nd (c3_115 P) (u197 P) (nd (c5_243 P) (l1 (c8_371 P)) (l1 (c12_499 P)))))) (nd (c0_27 P) (nd (c0_43 P) (u157 P) (nd (c2_107 P) (u198 P) (nd (c5_235 P) (l1 (a11 P)) (l1 (c11_491 P))))) (nd (c1_59 P) (u159 P) (nd (a12 P) (u199 P) (nd (c5_251 P) (l1 (c9_379 P)) (l1 (c12_507 P)))))))) (nd (boot_o_5 P) (nd (boot_o_9 P) (nd (c0_17 P) (nd (c0_33 P) (u160 P) (nd (a11 P) (nd (a12 P) (nd (a12 P) (l1 (a11 P)) .nil) (l1 (c10_417 P))) (nd (a12 P) (l1 (c8_353 P)) (l1 (c11_481 P))))) (nd (c1_49 P) (u162 P) (nd (c2_113 P) (u200 P) (nd (a11 P) (l1 (c8_369 P)) (l1 (c12_497 P)))))) (nd (a11 P) (nd (c0_41 P) (u163 P) (nd (c2_105 P) (u201 P) (nd (c5_233 P) (l1 (c8_361 P)) (l1 (c11_489 P))))) (nd (a11 P) (u165 P) (nd (c3_121 P) (u202 P) (nd (c5_249 P) (l1 (c9_377 P)) (l1 (a11 P))))))) (nd (a13 P) (nd (c0_21 P) (nd (c0_37 P) (u166 P) (nd (a11 P) (u203 P) (nd (c5_229 P) (l1 (a12 P)) (l1 (c11_485 P))))) (nd (c1_53 P) (u168 P) (nd (c3_117 P) (u204 P) (nd (a11 P) (l1 (c8_373 P)) (l1 (c12_501 P)))))) (nd (a11 P) (nd (c0_45 P) (u170 P) (nd (c2_109 P) (nd (a12 P) (nd (c6_301 P) (l1 (a12 P)) .nil) (l1 (a11 P))) (nd (c5_237 P) (l1 (c8_365 P)) (l1 (c11_493 P))))) (nd (c1_61 P) (u172 P) (nd (a11 P) (u205 P) (nd (c5_253 P) (l1 (c9_381 P)) (l1 (a11 P))))))))) (nd (boot_o_2 P) (nd (boot_o_4 P) (nd (boot_o_8 P) (nd (a12 P) (nd (c0_32 P) (u173 P) (nd (c2_96 P) (nd (a11 P) (nd (a11 P) (l1 (c13_544 P)) .nil) (l1 (a12 P))) (nd (a11 P) (l1 (a11 P)) (l1 (c11_480 P))))) (nd (c0_23 P) (u175 P) (nd (c2_112 P) (u206 P) (nd (c5_240 P) (l1 (c8_368 P)) (l1 (c0_23 P)))))) (nd (c0_24 P) (nd (c0_40 P) (u176 P) (nd (a11 P) (u207 P) (nd (a12 P) (l1 (c8_360 P)) (l1 (c11_488 P))))) (nd (c1_56 P) (u178 P) (nd (c3_120 P) (u208 P) (nd (a11 P) (l1 (c0_23 P)) (l1 (c12_504 P))))))) (nd (c13_12 P) (nd (c0_20 P) (nd (c0_23 P) (u179 P) (nd (c2_100 P) (u209 P) (nd (c5_228 P) (l1 (a11 P)) (l1 (a12 P))))) (nd (c1_52 P) (u181 P) (nd (c0_23 P) (nd (a12 P) (nd (c6_308 P) (l1 (a12 P)) .nil) (l1 (a11 P))) (nd (c5_244 P) (l1 (c8_372 P)) (l1 (c12_500 P)))))) (nd (c0_28 P) (nd (c0_44 P) (u182 P) (nd (c2_108 P) (u210 P) (nd (c5_236 P) (l1 (a12 P)) (l1 (c11_492 P))))) (nd (c1_60 P) (u184 P) (nd (c3_124 P) (u211 P) (nd (c5_252 P) (l1 (c9_380 P)) (l1 (c12_508 P)))))))) (nd (boot_o_6 P) (nd (boot_o_10 P) (nd (a11 P) (nd (c0_34 P) (u185 P) (nd (c2_98 P) (u212 P) (nd (c5_226 P) (l1 (c8_354 P)) (l1 (c11_482 P))))) (nd (a11 P) (u187 P) (nd (c2_114 P) (u213 P) (nd (c5_242 P) (l1 (a11 P)) (l1 (a11 P)))))) (nd (a12 P) (nd (a11 P) (u188 P) (nd (c2_106 P) (u214 P) (nd (a11 P) (l1 (c8_362 P)) (l1 (a11 P))))) (nd (c1_58 P) (u190 P) (nd (a11 P) (u215 P) (nd (c5_250 P) (l1 (a11 P)) (l1 (c12_506 P))))))) (nd (a14 P) (nd (c0_22 P) (nd (a11 P) (u191 P) (nd (a12 P) (u216 P) (nd (c5_230 P) (l1 (c8_358 P)) (l1 (a11 P))))) (nd (a11 P) (u193 P) (nd (a11 P) (u217 P) (nd (a12 P) (l1 (c8_374 P)) (l1 (a11 P)))))) (nd (c0_30 P) (nd (c0_46 P) (u194 P) (nd (c4_110 P) (u218 P) (nd (a11 P) (l1 (a11 P)) (l1 (c11_494 P))))) (nd (c1_62 P) (nd (a11 P) (u219 P) (nd (c5_222 P) (l1 (a12 P)) (l1 (c11_478 P)))) (nd (c3_126 P) (u220 P) (nd (c5_254 P) (l1 (a11 P)) (l1 (a12 P))))))))))
noncomputable def sc13_ (w : World) (os : OsState) : SharedT := SharedT.mk (tc13_ w.params) 575 (@Life.mk [] [] [] 0 [] [] Bool.false E [] 0 Bool.false Bool.false Bool.false 0 [2000, 10, 10] Bool.false 0 Bool.true [] [] 0 Bool.false) E (@Drawn.mk 0 0 0 0) 922 os
noncomputable def c14_3 (P : Params) : Obj := (Obj.mk y3 none (Data.dict (A [(de P q3 165 (vs q153 1001)), (de P q5 166 vn), (de P q6 167 vn), (de P q7 168 y4), (de P q8 169 vn), (de P q9 170 (vr 6)), (de P q10 171 (vr 4)), (de P q11 173 (vs q1 172)), (de P q12 174 vn), (de P q13 193 (vr 21)), (de P q14 213 (vr 31)), (de P q15 229 (vr 44)), (de P q23 254 (vr 63)), (de P q28 317 (vr 110)), (de P q42 340 (vr 131)), (de P q43 363 (vr 150)), (de P q47 386 (vr 169)), (de P q48 390 (vi 400 389)), (de P q49 392 (vi 2000 391)), (de P q50 394 (vi 2000 393)), (de P q51 396 (vi 8 395)), (de P q52 398 (vi 100000 397)), (de P q53 400 (vi 32 399)), (de P q54 402 (vi 37 401)), (de P q55 404 (vi 126 403)), (de P q56 411 (vr 178)), (de P q57 417 (vr 183)), (de P q58 423 (vr 188)), (de P q59 431 (vr 195)), (de P q65 514 (vr 254)), (de P q66 518 (vi 40 517)), (de P q89 540 (vr 259)), (de P q90 605 (vr 311)), (de P q116 639 (vr 339)), (de P q121 678 (vr 372)), (de P q125 717 (vr 405)), (de P q129 776 (vr 452)), (de P q137 822 (vr 492)), (de P q142 880 (vr 539)), (de P q149 921 (vr 572)), (de P q154 962 (vr 605)), (de P q155 968 (vr 612)), (de P q156 974 (vr 617)), (de P q71 983 (vr 624)), (de P q157 991 (vr 631)), (de P q158 1000 (vr 638)), (de P q159 1009 (vr 645)), (de P q160 1018 (vr 652))]) 48) E)
noncomputable def c14_12 (P : Params) : Obj := (Obj.mk vn none (Data.fields (A [(vi 1 0), (vi 0 0), (vr 20), (vi 5 0), (vi 0 0), (vr 27), (vi 7 0), (vi 0 0), (vr 40), (vi 9 0), (vi 0 0), (vr 52), (vi 14 0), (vi 0 0), (vr 71), (vi 31 0), (vi 0 0), (vr 120), (vi 35 0), (vi 0 0), (vr 139), (vi 39 0), (vi 0 0), (vr 158), (vi 52 0), (vi 0 0), (vr 177), (vi 54 0), (vi 0 0), (vr 182), (vi 60 0), (vi 0 0), (vr 187), (vi 70 0), (vi 0 0), (vr 194), (vi 73 0), (vi 0 0), (vr 201), (vi 140 0), (vi 0 0), (vr 265), (vi 159 0), (vi 0 0), (vr 321), (vi 167 0), (vi 0 0), (vr 347), (vi 177 0), (vi 0 0), (vr 380), (vi 187 0), (vi 0 0), (vr 413), (vi 205 0), (vi 0 0), (vr 460), (vi 218 0), (vi 0 0), (vr 500), (vi 235 0), (vi 0 0), (vr 547), (vi 245 0), (vi 0 0), (vr 580), (vi 255 0), (vi 0 0), (vr 611), (vi 257 0), (vi 0 0), (vr 616), (vi 263 0), (vi 0 0), (vr 623), (vi 273 0), (vi 0 0), (vr 630), (vi 287 0), (vi 0 0), (vr 637), (vi 292 0), (vi 0 0), (vr 644), (vi 294 0), (vi 0 0), (vr 651)])) E)
noncomputable def c14_311 (P : Params) : Obj := (Obj.mk y9 none (Data.cls (ClassData.mk q90 [y12] [(vr 311), y12] 310 q90 Bool.true [] [(vr 339), (vr 452), (vr 572), (vr 605)] Bool.false none Bool.false)) (A [none, none, (some (vs q90 541)), (some (vs q90 549)), (some y18), (some vT)]))
noncomputable def c14_577 (P : Params) : Obj := m20 P 929 931 q154 930 933 245 932 q24 941 588 950 595 957 602 959 603
noncomputable def c14_579 (P : Params) : Obj := m2 P 247 4 587 250 594 253 601
noncomputable def c14_580 (P : Params) : Obj := m0 P q154 924 925 926 245 578 579 927 928
noncomputable def c14_581 (P : Params) : Obj := m1 P 580 577 q64 515
noncomputable def c14_584 (P : Params) : Obj := m13 P q25 937 q143 938
noncomputable def c14_586 (P : Params) : Obj := m4 P q24 q161 (M 35 0)
noncomputable def c14_587 (P : Params) : Obj := m5 P q24 934 q161 935 936 247 2 582 583 584 585 586 939 940
noncomputable def c14_588 (P : Params) : Obj := m6 P q24 q161 (M 35 0) q64 515 587
noncomputable def c14_591 (P : Params) : Obj := m16 P q25 945 q110 946 q111 947
noncomputable def c14_593 (P : Params) : Obj := m4 P q104 q162 (M 35 1)
noncomputable def c14_594 (P : Params) : Obj := m5 P q104 942 q162 943 944 250 3 589 590 591 592 593 948 949
noncomputable def c14_595 (P : Params) : Obj := m6 P q104 q162 (M 35 1) q64 515 594
noncomputable def c14_598 (P : Params) : Obj := m3 P q25 954
noncomputable def c14_600 (P : Params) : Obj := m4 P q107 q163 (M 35 2)
noncomputable def c14_601 (P : Params) : Obj := m5 P q107 951 q163 952 953 253 1 596 597 598 599 600 955 956
noncomputable def c14_602 (P : Params) : Obj := m6 P q107 q163 (M 35 2) q64 515 601
noncomputable def c14_603 (P : Params) : Obj := m3 P q143 958
noncomputable def c14_604 (P : Params) : Obj := m21 P 929 933 245 932 q24 941 588 950 595 957 602 959 603 960
noncomputable def c14_605 (P : Params) : Obj := (Obj.mk y9 none (Data.cls (ClassData.mk q154 [(vr 311)] [(vr 605), (vr 311), y12] 604 q154 Bool.true [] [] Bool.false none Bool.false)) (A [(sr 575), none, (some (vs q154 922)), (some (vs q154 930)), (some y18), (some vT)]))
noncomputable def c14_606 (P : Params) : Obj := m8 P 605
noncomputable def c14_607 (P : Params) : Obj := m9 P 605
noncomputable def c14_610 (P : Params) : Obj := m4 P q155 q155 (B 36)
noncomputable def c14_611 (P : Params) : Obj := m18 P q155 963 964 965 255 2 608 609 610 966 967
noncomputable def c14_612 (P : Params) : Obj := m6 P q155 q155 (B 36) q64 515 611
noncomputable def c14_615 (P : Params) : Obj := m4 P q156 q156 (B 37)
noncomputable def c14_616 (P : Params) : Obj := m18 P q156 969 970 971 257 1 613 614 615 972 973
noncomputable def c14_617 (P : Params) : Obj := m6 P q156 q156 (B 37) q64 515 616
noncomputable def c14_620 (P : Params) : Obj := m16 P q164 978 q165 979 q63 980
noncomputable def c14_622 (P : Params) : Obj := m4 P q71 q71 (B 38)
noncomputable def c14_623 (P : Params) : Obj := m5 P q71 975 q71 976 977 263 2 618 619 620 621 622 981 982
noncomputable def c14_624 (P : Params) : Obj := m6 P q71 q71 (B 38) q64 515 623
noncomputable def c14_627 (P : Params) : Obj := m13 P q164 987 q166 988
noncomputable def c14_629 (P : Params) : Obj := m4 P q157 q157 (B 39)
noncomputable def c14_630 (P : Params) : Obj := m5 P q157 984 q157 985 986 273 2 625 626 627 628 629 989 990
noncomputable def c14_631 (P : Params) : Obj := m6 P q157 q157 (B 39) q64 515 630
noncomputable def c14_634 (P : Params) : Obj := m16 P q117 995 q130 996 q131 997
noncomputable def c14_636 (P : Params) : Obj := m4 P q158 q158 (B 40)
noncomputable def c14_637 (P : Params) : Obj := m5 P q158 992 q158 993 994 287 3 632 633 634 635 636 998 999
noncomputable def c14_638 (P : Params) : Obj := m6 P q158 q158 (B 40) q64 515 637
noncomputable def c14_641 (P : Params) : Obj := m3 P q167 1006
noncomputable def c14_643 (P : Params) : Obj := m4 P q159 q159 (B 42)
noncomputable def c14_644 (P : Params) : Obj := m5 P q159 1003 q159 1004 1005 292 1 639 640 641 642 643 1007 1008
noncomputable def c14_645 (P : Params) : Obj := m6 P q159 q159 (B 42) q153 1001 644
noncomputable def c14_648 (P : Params) : Obj := m16 P q168 1013 q169 1014 q170 1015
noncomputable def c14_650 (P : Params) : Obj := m4 P q160 q160 (B 43)
noncomputable def c14_651 (P : Params) : Obj := m5 P q160 1010 q160 1011 1012 294 2 646 647 648 649 650 1016 1017
noncomputable def c14_652 (P : Params) : Obj := m6 P q160 q160 (B 43) q153 1001 651
noncomputable def u221 (P : Params) : BT := (nd (c3_127 P) (nd (c5_255 P) (l1 (c12_511 P)) .nil) (nd (a12 P) (l1 (a11 P)) .nil))
noncomputable def u222 (P : Params) : BT := (nd (c5_223 P) (nd (c8_351 P) (l1 (c14_607 P)) .nil) (l1 (a11 P)))
noncomputable def u223 (P : Params) : BT := (nd (c5_207 P) (nd (c7_335 P) (l1 (c14_591 P)) .nil) (l1 (a12 P)))
noncomputable def u224 (P : Params) : BT := (nd (a12 P) (nd (c8_367 P) (l1 (c14_623 P)) .nil) (l1 (c8_342 P)))
noncomputable def u225 (P : Params) : BT := (nd (c2_71 P) (nd (c0_23 P) (nd (a11 P) (l1 (a11 P)) .nil) (nd (c9_391 P) (l1 (a12 P)) .nil)) (nd (a11 P) (nd (c7_327 P) (l1 (a12 P)) .nil) (l1 (c8_342 P))))
noncomputable def u226 (P : Params) : BT := (nd (a11 P) (nd (a11 P) (l1 (c14_615 P)) .nil) (l1 (c11_487 P)))
noncomputable def u227 (P : Params) : BT := (nd (c5_215 P) (nd (c0_23 P) (l1 (a11 P)) .nil) (l1 (c11_471 P)))
noncomputable def u228 (P : Params) : BT := (nd (c5_247 P) (nd (c8_342 P) (l1 (c14_631 P)) .nil) (l1 (a12 P)))
noncomputable def u229 (P : Params) : BT := (nd (c0_23 P) (nd (c3_131 P) (nd (c6_259 P) (l1 (c12_515 P)) .nil) (nd (c9_387 P) (l1 (c14_643 P)) .nil)) (nd (c4_195 P) (nd (a11 P) (l1 (c14_579 P)) .nil) (l1 (c10_451 P))))
noncomputable def u230 (P : Params) : BT := (nd (a11 P) (nd (c8_355 P) (l1 (c14_611 P)) .nil) (l1 (a11 P)))
noncomputable def u231 (P : Params) : BT := (nd (a12 P) (nd (c12_339 P) (l1 (c14_595 P)) .nil) (l1 (c11_467 P)))
noncomputable def u232 (P : Params) : BT := (nd (c5_243 P) (nd (c8_371 P) (l1 (c14_627 P)) .nil) (l1 (c12_499 P)))
noncomputable def u233 (P : Params) : BT := (nd (c2_75 P) (nd (c3_139 P) (nd (a11 P) (l1 (a11 P)) .nil) (nd (c9_395 P) (l1 (c14_651 P)) .nil)) (nd (a11 P) (nd (a12 P) (l1 (c14_587 P)) .nil) (l1 (c11_459 P))))
noncomputable def u234 (P : Params) : BT := (nd (c5_235 P) (nd (a11 P) (l1 (a12 P)) .nil) (l1 (c11_491 P)))
noncomputable def u235 (P : Params) : BT := (nd (c5_219 P) (nd (c8_347 P) (l1 (c14_603 P)) .nil) (l1 (c11_475 P)))
noncomputable def u236 (P : Params) : BT := (nd (c5_251 P) (nd (c9_379 P) (l1 (a11 P)) .nil) (l1 (c12_507 P)))
noncomputable def u237 (P : Params) : BT := (nd (a11 P) (nd (c5_257 P) (l1 (c12_513 P)) .nil) (nd (a11 P) (l1 (c14_641 P)) .nil))
noncomputable def u238 (P : Params) : BT := (nd (a12 P) (nd (c8_353 P) (l1 (a12 P)) .nil) (l1 (c11_481 P)))
noncomputable def u239 (P : Params) : BT := (nd (c5_209 P) (nd (c7_337 P) (l1 (c14_593 P)) .nil) (l1 (a11 P)))
noncomputable def u240 (P : Params) : BT := (nd (a11 P) (nd (c8_369 P) (l1 (a11 P)) .nil) (l1 (c12_497 P)))
noncomputable def u241 (P : Params) : BT := (nd (a11 P) (nd (a11 P) (nd (c6_265 P) (l1 (c12_521 P)) .nil) (nd (c9_393 P) (l1 (a11 P)) .nil)) (nd (c5_201 P) (nd (c7_329 P) (l1 (a11 P)) .nil) (l1 (c11_457 P))))
noncomputable def u242 (P : Params) : BT := (nd (c5_233 P) (nd (c8_361 P) (l1 (c14_617 P)) .nil) (l1 (c11_489 P)))
noncomputable def u243 (P : Params) : BT := (nd (a11 P) (nd (a11 P) (l1 (c14_601 P)) .nil) (l1 (c11_473 P)))
noncomputable def u244 (P : Params) : BT := (nd (c5_249 P) (nd (c9_377 P) (l1 (a12 P)) .nil) (l1 (a11 P)))
noncomputable def u245 (P : Params) : BT := (nd (a11 P) (nd (c3_133 P) (nd (c0_23 P) (l1 (a12 P)) .nil) (nd (a11 P) (l1 (c14_645 P)) .nil)) (nd (c0_23 P) (nd (c7_325 P) (l1 (c14_581 P)) .nil) (l1 (c10_453 P))))
noncomputable def u246 (P : Params) : BT := (nd (c5_229 P) (nd (a12 P) (l1 (a11 P)) .nil) (l1 (c11_485 P)))
noncomputable def u247 (P : Params) : BT := (nd (a11 P) (nd (c8_373 P) (l1 (c14_629 P)) .nil) (l1 (c12_501 P)))
noncomputable def u248 (P : Params) : BT := (nd (c5_205 P) (nd (a11 P) (l1 (a11 P)) .nil) (l1 (c11_461 P)))
noncomputable def u249 (P : Params) : BT := (nd (c5_237 P) (nd (c8_365 P) (l1 (a11 P)) .nil) (l1 (c11_493 P)))
noncomputable def u250 (P : Params) : BT := (nd (c5_221 P) (nd (a11 P) (l1 (c14_605 P)) .nil) (l1 (a12 P)))
noncomputable def u251 (P : Params) : BT := (nd (c5_253 P) (nd (c9_381 P) (l1 (c14_637 P)) .nil) (l1 (a11 P)))
noncomputable def u252 (P : Params) : BT := (nd (c3_128 P) (nd (c5_256 P) (l1 (a11 P)) .nil) (nd (c9_384 P) (l1 (a12 P)) .nil))
noncomputable def u253 (P : Params) : BT := (nd (c5_208 P) (nd (c7_336 P) (l1 (a11 P)) .nil) (l1 (c11_464 P)))
noncomputable def u254 (P : Params) : BT := (nd (c5_240 P) (nd (c8_368 P) (l1 (c14_624 P)) .nil) (l1 (c0_23 P)))
noncomputable def u255 (P : Params) : BT := (nd (c2_72 P) (nd (c3_136 P) (nd (c6_264 P) (l1 (c12_520 P)) .nil) (nd (a11 P) (l1 (c14_648 P)) .nil)) (nd (c5_200 P) (nd (c7_328 P) (l1 (c14_584 P)) .nil) (l1 (c0_23 P))))
noncomputable def u256 (P : Params) : BT := (nd (a12 P) (nd (c8_360 P) (l1 (c14_616 P)) .nil) (l1 (c11_488 P)))
noncomputable def u257 (P : Params) : BT := (nd (c5_216 P) (nd (c8_344 P) (l1 (c14_600 P)) .nil) (l1 (a11 P)))
noncomputable def u258 (P : Params) : BT := (nd (a11 P) (nd (c0_23 P) (l1 (a11 P)) .nil) (l1 (c12_504 P)))
noncomputable def u259 (P : Params) : BT := (nd (c2_68 P) (nd (c3_132 P) (nd (a11 P) (l1 (a11 P)) .nil) (nd (c9_388 P) (l1 (c14_644 P)) .nil)) (nd (a11 P) (nd (a12 P) (l1 (c14_580 P)) .nil) (l1 (c10_452 P))))
noncomputable def u260 (P : Params) : BT := (nd (c5_228 P) (nd (a11 P) (l1 (c14_612 P)) .nil) (l1 (a12 P)))
noncomputable def u261 (P : Params) : BT := (nd (c5_212 P) (nd (c7_340 P) (l1 (a11 P)) .nil) (l1 (c11_468 P)))
noncomputable def u262 (P : Params) : BT := (nd (c5_244 P) (nd (c8_372 P) (l1 (a11 P)) .nil) (l1 (c12_500 P)))
noncomputable def u263 (P : Params) : BT := (nd (a11 P) (nd (c3_140 P) (nd (a12 P) (l1 (a12 P)) .nil) (nd (a11 P) (l1 (c14_652 P)) .nil)) (nd (a12 P) (nd (c7_332 P) (l1 (c14_588 P)) .nil) (l1 (c11_460 P))))
noncomputable def u264 (P : Params) : BT := (nd (c5_236 P) (nd (a12 P) (l1 (c14_620 P)) .nil) (l1 (c11_492 P)))
noncomputable def u265 (P : Params) : BT := (nd (a11 P) (nd (c8_348 P) (l1 (c14_604 P)) .nil) (l1 (a11 P)))
noncomputable def u266 (P : Params) : BT := (nd (c5_252 P) (nd (c9_380 P) (l1 (c14_636 P)) .nil) (l1 (c12_508 P)))
noncomputable def u267 (P : Params) : BT := (nd (c3_130 P) (nd (c5_258 P) (l1 (c12_514 P)) .nil) (nd (c9_386 P) (l1 (a11 P)) .nil))
noncomputable def u268 (P : Params) : BT := (nd (c5_226 P) (nd (c8_354 P) (l1 (c14_610 P)) .nil) (l1 (c11_482 P)))
noncomputable def u269 (P : Params) : BT := (nd (a11 P) (nd (c7_338 P) (l1 (c14_594 P)) .nil) (l1 (c11_466 P)))
noncomputable def u270 (P : Params) : BT := (nd (a12 P) (nd (c3_138 P) (nd (c6_266 P) (l1 (c12_522 P)) .nil) (nd (c9_394 P) (l1 (c14_650 P)) .nil)) (nd (c5_202 P) (nd (a11 P) (l1 (c14_586 P)) .nil) (l1 (a11 P))))
noncomputable def u271 (P : Params) : BT := (nd (a12 P) (nd (c8_346 P) (l1 (c14_602 P)) .nil) (l1 (c11_474 P)))
noncomputable def u272 (P : Params) : BT := (nd (c5_250 P) (nd (a11 P) (l1 (c14_634 P)) .nil) (l1 (c12_506 P)))
noncomputable def u273 (P : Params) : BT := (nd (c2_70 P) (nd (c3_115 P) (nd (c6_262 P) (l1 (c12_518 P)) .nil) (nd (a12 P) (l1 (a11 P)) .nil)) (nd (c5_198 P) (nd (a11 P) (l1 (a11 P)) .nil) (l1 (c10_454 P))))
noncomputable def u274 (P : Params) : BT := (nd (c5_230 P) (nd (c8_358 P) (l1 (a12 P)) .nil) (l1 (a11 P)))
noncomputable def u275 (P : Params) : BT := (nd (c5_214 P) (nd (c8_342 P) (l1 (c14_598 P)) .nil) (l1 (a12 P)))
noncomputable def u276 (P : Params) : BT := (nd (a12 P) (nd (c8_374 P) (l1 (c14_630 P)) .nil) (l1 (a11 P)))
noncomputable def u277 (P : Params) : BT := (nd (a11 P) (nd (a11 P) (l1 (c14_622 P)) .nil) (l1 (c11_494 P)))
noncomputable def u278 (P : Params) : BT := (nd (c5_222 P) (nd (a12 P) (l1 (c14_606 P)) .nil) (l1 (c11_478 P)))
noncomputable def u279 (P : Params) : BT := (nd (c5_254 P) (nd (a11 P) (l1 (c14_638 P)) .nil) (l1 (a12 P)))
noncomputable def tc14_ (P : Params) : BT := (nd (boot_o_0 P) (nd (boot_o_1 P) (nd (c14_3 P) (nd (boot_o_7 P) (nd (a11 P) (nd (c1_31 P) (nd (c1_63 P) (u221 P) (nd (c4_191 P) (nd (a11 P) (l1 (c7_316 P)) .nil) (l1 (c10_447 P)))) (nd (a12 P) (u195 P) (u222 P))) (nd (c0_35 P) (nd (c2_79 P) (u150 P) (u223 P)) (nd (c2_111 P) (nd (a11 P) (nd (a12 P) (l1 (a11 P)) .nil) (l1 (c10_431 P))) (u224 P)))) (nd (c0_23 P) (nd (a12 P) (u225 P) (nd (c2_103 P) (nd (a11 P) (nd (a11 P) (l1 (c13_551 P)) .nil) (l1 (a12 P))) (u226 P))) (nd (a12 P) (nd (a11 P) (u153 P) (u227 P)) (nd (c3_119 P) (nd (c4_183 P) (nd (c14_311 P) (l1 (c13_567 P)) .nil) (l1 (a11 P))) (u228 P))))) (nd (a11 P) (nd (c0_19 P) (nd (c0_35 P) (u229 P) (nd (c2_99 P) (u196 P) (u230 P))) (nd (c1_51 P) (nd (a11 P) (nd (c3_147 P) (nd (a12 P) (l1 (a12 P)) .nil) (l1 (a11 P))) (u231 P)) (nd (c3_115 P) (u197 P) (u232 P)))) (nd (c0_27 P) (nd (c0_43 P) (u233 P) (nd (c2_107 P) (u198 P) (u234 P))) (nd (c1_59 P) (nd (c2_91 P) (u158 P) (u235 P)) (nd (a12 P) (u199 P) (u236 P)))))) (nd (boot_o_5 P) (nd (boot_o_9 P) (nd (c0_17 P) (nd (c0_33 P) (nd (c1_65 P) (u237 P) (nd (c4_193 P) (nd (c7_321 P) (l1 (c14_577 P)) .nil) (l1 (c10_449 P)))) (nd (a11 P) (nd (a12 P) (nd (a12 P) (l1 (a11 P)) .nil) (l1 (c10_417 P))) (u238 P))) (nd (c1_49 P) (nd (a12 P) (u161 P) (u239 P)) (nd (c2_113 P) (u200 P) (u240 P)))) (nd (a11 P) (nd (c0_41 P) (u241 P) (nd (c2_105 P) (u201 P) (u242 P))) (nd (a11 P) (nd (c2_89 P) (u164 P) (u243 P)) (nd (c3_121 P) (u202 P) (u244 P))))) (nd (a13 P) (nd (c0_21 P) (nd (c0_37 P) (u245 P) (nd (a11 P) (u203 P) (u246 P))) (nd (c1_53 P) (nd (c2_85 P) (u167 P) (nd (a11 P) (nd (c7_341 P) (l1 (a12 P)) .nil) (l1 (a11 P)))) (nd (c3_117 P) (u204 P) (u247 P)))) (nd (a11 P) (nd (c0_45 P) (nd (c2_77 P) (u169 P) (u248 P)) (nd (c2_109 P) (nd (a12 P) (nd (c6_301 P) (l1 (a12 P)) .nil) (l1 (a11 P))) (u249 P))) (nd (c1_61 P) (nd (c2_93 P) (u171 P) (u250 P)) (nd (a11 P) (u205 P) (u251 P))))))) (nd (boot_o_2 P) (nd (boot_o_4 P) (nd (boot_o_8 P) (nd (a12 P) (nd (c0_32 P) (nd (c1_64 P) (u252 P) (nd (a11 P) (nd (c7_320 P) (l1 (c0_23 P)) .nil) (l1 (c10_448 P)))) (nd (c2_96 P) (nd (a11 P) (nd (a11 P) (l1 (c13_544 P)) .nil) (l1 (a12 P))) (nd (a11 P) (nd (a11 P) (l1 (a11 P)) .nil) (l1 (c11_480 P))))) (nd (c0_23 P) (nd (a11 P) (u174 P) (u253 P)) (nd (c2_112 P) (u206 P) (u254 P)))) (nd (c0_24 P) (nd (c0_40 P) (u255 P) (nd (a11 P) (u207 P) (u256 P))) (nd (c1_56 P) (nd (a12 P) (u177 P) (u257 P)) (nd (c3_120 P) (u208 P) (u258 P))))) (nd (c14_12 P) (nd (c0_20 P) (nd (c0_23 P) (u259 P) (nd (c2_100 P) (u209 P) (u260 P))) (nd (c1_52 P) (nd (c2_84 P) (u180 P) (u261 P)) (nd (c0_23 P) (nd (a12 P) (nd (c6_308 P) (l1 (a12 P)) .nil) (l1 (a11 P))) (u262 P)))) (nd (c0_28 P) (nd (c0_44 P) (u263 P) (nd (c2_108 P) (u210 P) (u264 P))) (nd (c1_60 P) (nd (c2_92 P) (u183 P) (u265 P)) (nd (c3_124 P) (u211 P) (u266 P)))))) (nd (boot_o_6 P) (nd (boot_o_10 P) (nd (a11 P) (nd (c0_34 P) (nd (a11 P) (u267 P) (nd (c4_194 P) (nd (c7_322 P) (l1 (a11 P)) .nil) (l1 (c10_450 P)))) (nd (c2_98 P) (u212 P) (u268 P))) (nd (a11 P) (nd (c2_82 P) (u186 P) (u269 P)) (nd (c2_114 P) (u213 P) (nd (c5_242 P) (nd (a11 P) (l1 (a12 P)) .nil) (l1 (a11 P)))))) (nd (a12 P) (nd (a11 P) (u270 P) (nd (c2_106 P) (u214 P) (nd (a11 P) (nd (c8_362 P) (l1 (a11 P)) .nil) (l1 (a11 P))))) (nd (c1_58 P) (nd (a11 P) (u189 P) (u271 P)) (nd (a11 P) (u215 P) (u272 P))))) (nd (a14 P) (nd (c0_22 P) (nd (a11 P) (u273 P) (nd (a12 P) (u216 P) (u274 P))) (nd (a11 P) (nd (c2_86 P) (u192 P) (u275 P)) (nd (a11 P) (u217 P) (u276 P)))) (nd (c0_30 P) (nd (c0_46 P) (nd (c2_78 P) (nd (a12 P) (nd (a11 P) (l1 (a11 P)) .nil) (l1 (c9_398 P))) (nd (a11 P) (nd (c7_334 P) (l1 (a12 P)) .nil) (l1 (a11 P)))) (nd (c4_110 P) (u218 P) (u277 P))) (nd (c1_62 P) (nd (a11 P) (u219 P) (u278 P)) (nd (c3_126 P) (u220 P) (u279 P))))))))
noncomputable def sc14_ (w : World) (os : OsState) : SharedT := SharedT.mk (tc14_ w.params) 653 (@Life.mk [] [] [] 0 [] [] Bool.false E [] 0 Bool.false Bool.false Bool.false 0 [2000, 10, 10] Bool.false 0 Bool.true [] [] 0 Bool.false) E (@Drawn.mk 0 0 0 0) 1019 os
noncomputable def c15_3 (P : Params) : Obj := (Obj.mk y3 none (Data.dict (A [(de P q3 165 (vs q153 1001)), (de P q5 166 vn), (de P q6 167 vn), (de P q7 168 y4), (de P q8 169 vn), (de P q9 170 (vr 6)), (de P q10 171 (vr 4)), (de P q11 173 (vs q1 172)), (de P q12 174 vn), (de P q13 193 (vr 21)), (de P q14 213 (vr 31)), (de P q15 229 (vr 44)), (de P q23 254 (vr 63)), (de P q28 317 (vr 110)), (de P q42 340 (vr 131)), (de P q43 363 (vr 150)), (de P q47 386 (vr 169)), (de P q48 390 (vi 400 389)), (de P q49 392 (vi 2000 391)), (de P q50 394 (vi 2000 393)), (de P q51 396 (vi 8 395)), (de P q52 398 (vi 100000 397)), (de P q53 400 (vi 32 399)), (de P q54 402 (vi 37 401)), (de P q55 404 (vi 126 403)), (de P q56 411 (vr 178)), (de P q57 417 (vr 183)), (de P q58 423 (vr 188)), (de P q59 431 (vr 195)), (de P q65 514 (vr 254)), (de P q66 518 (vi 40 517)), (de P q89 540 (vr 259)), (de P q90 605 (vr 311)), (de P q116 639 (vr 339)), (de P q121 678 (vr 372)), (de P q125 717 (vr 405)), (de P q129 776 (vr 452)), (de P q137 822 (vr 492)), (de P q142 880 (vr 539)), (de P q149 921 (vr 572)), (de P q154 962 (vr 605)), (de P q155 968 (vr 612)), (de P q156 974 (vr 617)), (de P q71 983 (vr 624)), (de P q157 991 (vr 631)), (de P q158 1000 (vr 638)), (de P q159 1009 (vr 645)), (de P q160 1018 (vr 652)), (de P q171 1028 (vr 659)), (de P q172 1036 (vr 666)), (de P q173 1047 (vr 673)), (de P q174 1053 (vr 678)), (de P q175 1060 (vr 685)), (de P q176 1069 (vr 692)), (de P q177 1077 (vr 699)), (de P q178 1087 (vr 706))]) 56) E)
noncomputable def c15_12 (P : Params) : Obj := (Obj.mk vn none (Data.fields (A [(vi 1 0), (vi 0 0), (vr 20), (vi 5 0), (vi 0 0), (vr 27), (vi 7 0), (vi 0 0), (vr 40), (vi 9 0), (vi 0 0), (vr 52), (vi 14 0), (vi 0 0), (vr 71), (vi 31 0), (vi 0 0), (vr 120), (vi 35 0), (vi 0 0), (vr 139), (vi 39 0), (vi 0 0), (vr 158), (vi 52 0), (vi 0 0), (vr 177), (vi 54 0), (vi 0 0), (vr 182), (vi 60 0), (vi 0 0), (vr 187), (vi 70 0), (vi 0 0), (vr 194), (vi 73 0), (vi 0 0), (vr 201), (vi 140 0), (vi 0 0), (vr 265), (vi 159 0), (vi 0 0), (vr 321), (vi 167 0), (vi 0 0), (vr 347), (vi 177 0), (vi 0 0), (vr 380), (vi 187 0), (vi 0 0), (vr 413), (vi 205 0), (vi 0 0), (vr 460), (vi 218 0), (vi 0 0), (vr 500), (vi 235 0), (vi 0 0), (vr 547), (vi 245 0), (vi 0 0), (vr 580), (vi 255 0), (vi 0 0), (vr 611), (vi 257 0), (vi 0 0), (vr 616), (vi 263 0), (vi 0 0), (vr 623), (vi 273 0), (vi 0 0), (vr 630), (vi 287 0), (vi 0 0), (vr 637), (vi 292 0), (vi 0 0), (vr 644), (vi 294 0), (vi 0 0), (vr 651), (vi 297 0), (vi 0 0), (vr 658), (vi 308 0), (vi 0 0), (vr 665), (vi 312 0), (vi 0 0), (vr 672), (vi 324 0), (vi 0 0), (vr 677), (vi 326 0), (vi 0 0), (vr 684), (vi 340 0), (vi 0 0), (vr 691), (vi 351 0), (vi 0 0), (vr 698), (vi 361 0), (vi 0 0), (vr 705)])) E)
noncomputable def c15_655 (P : Params) : Obj := m19 P q168 1022 q169 1023 q170 1024 q179 1025
noncomputable def c15_657 (P : Params) : Obj := m4 P q171 q171 (B 44)
noncomputable def c15_658 (P : Params) : Obj := m5 P q171 1019 q171 1020 1021 297 2 653 654 655 656 657 1026 1027
noncomputable def c15_659 (P : Params) : Obj := m6 P q171 q171 (B 44) q153 1001 658
noncomputable def c15_662 (P : Params) : Obj := m13 P q168 1032 q169 1033
noncomputable def c15_664 (P : Params) : Obj := m4 P q172 q172 (B 45)
noncomputable def c15_665 (P : Params) : Obj := m5 P q172 1029 q172 1030 1031 308 2 660 661 662 663 664 1034 1035
noncomputable def c15_666 (P : Params) : Obj := m6 P q172 q172 (B 45) q153 1001 665
noncomputable def c15_669 (P : Params) : Obj := (Obj.mk y0 none (Data.seq (A [(vs q168 1040), (vs q180 1041), (vs q181 1042), (vs q182 1043), (vs q183 1044)]) 0) E)
noncomputable def c15_671 (P : Params) : Obj := m4 P q173 q173 (B 46)
noncomputable def c15_672 (P : Params) : Obj := m5 P q173 1037 q173 1038 1039 312 1 667 668 669 670 671 1045 1046
noncomputable def c15_673 (P : Params) : Obj := m6 P q173 q173 (B 46) q153 1001 672
noncomputable def c15_676 (P : Params) : Obj := m4 P q174 q174 (B 47)
noncomputable def c15_677 (P : Params) : Obj := m18 P q174 1048 1049 1050 324 1 674 675 676 1051 1052
noncomputable def c15_678 (P : Params) : Obj := m6 P q174 q174 (B 47) q153 1001 677
noncomputable def c15_681 (P : Params) : Obj := m3 P q184 1057
noncomputable def c15_683 (P : Params) : Obj := m4 P q175 q175 (B 48)
noncomputable def c15_684 (P : Params) : Obj := m5 P q175 1054 q175 1055 1056 326 1 679 680 681 682 683 1058 1059
noncomputable def c15_685 (P : Params) : Obj := m6 P q175 q175 (B 48) q153 1001 684
noncomputable def c15_688 (P : Params) : Obj := m16 P q167 1064 q184 1065 q185 1066
noncomputable def c15_690 (P : Params) : Obj := m4 P q176 q176 (B 49)
noncomputable def c15_691 (P : Params) : Obj := m5 P q176 1061 q176 1062 1063 340 2 686 687 688 689 690 1067 1068
noncomputable def c15_692 (P : Params) : Obj := m6 P q176 q176 (B 49) q153 1001 691
noncomputable def c15_695 (P : Params) : Obj := m13 P q167 1073 q184 1074
noncomputable def c15_697 (P : Params) : Obj := m4 P q177 q177 (B 50)
noncomputable def c15_698 (P : Params) : Obj := m5 P q177 1070 q177 1071 1072 351 2 693 694 695 696 697 1075 1076
noncomputable def c15_699 (P : Params) : Obj := m6 P q177 q177 (B 50) q153 1001 698
noncomputable def c15_702 (P : Params) : Obj := m19 P q186 1081 q187 1082 q168 1083 q184 1084
noncomputable def c15_704 (P : Params) : Obj := m4 P q178 q178 (B 51)
noncomputable def c15_705 (P : Params) : Obj := m5 P q178 1078 q178 1079 1080 361 1 700 701 702 703 704 1085 1086
noncomputable def c15_706 (P : Params) : Obj := m6 P q178 q178 (B 51) q153 1001 705
noncomputable def u280 (P : Params) : BT := (nd (boot_o_0 P) (nd (boot_o_1 P) (nd (c15_3 P) (nd (boot_o_7 P) (nd (a11 P) (nd (c1_31 P) (nd (c1_63 P) (u221 P) (nd (c4_191 P) (nd (a11 P) (l1 (c7_316 P)) .nil) (nd (c10_447 P) (l1 (a11 P)) .nil))) (nd (a12 P) (nd (c4_159 P) (nd (c6_287 P) (l1 (c0_23 P)) .nil) (nd (a11 P) (l1 (c15_671 P)) .nil)) (u222 P))) (nd (c0_35 P) (nd (c2_79 P) (nd (c3_143 P) (nd (c6_271 P) (l1 (c12_527 P)) .nil) (nd (a11 P) (l1 (c15_655 P)) .nil)) (u223 P)) (nd (c2_111 P) (nd (a11 P) (nd (a12 P) (l1 (a11 P)) .nil) (nd (c10_431 P) (l1 (a12 P)) .nil)) (u224 P)))) (nd (c0_23 P) (nd (a12 P) (u225 P) (nd (c2_103 P) (nd (a11 P) (nd (a11 P) (l1 (c13_551 P)) .nil) (nd (a12 P) (l1 (a11 P)) .nil)) (u226 P))) (nd (a12 P) (nd (a11 P) (nd (c3_151 P) (nd (c6_279 P) (l1 (c12_535 P)) .nil) (nd (c9_407 P) (l1 (a11 P)) .nil)) (u227 P)) (nd (c3_119 P) (nd (c4_183 P) (nd (c14_311 P) (l1 (c13_567 P)) .nil) (nd (a11 P) (l1 (c15_695 P)) .nil)) (u228 P))))) (nd (a11 P) (nd (c0_19 P) (nd (c0_35 P) (u229 P) (nd (c2_99 P) (nd (a11 P) (nd (a11 P) (l1 (c13_547 P)) .nil) (nd (c10_419 P) (l1 (a12 P)) .nil)) (u230 P))) (nd (c1_51 P) (nd (a11 P) (nd (c3_147 P) (nd (a12 P) (l1 (a12 P)) .nil) (nd (a11 P) (l1 (c15_659 P)) .nil)) (u231 P)) (nd (c3_115 P) (nd (a11 P) (nd (c6_307 P) (l1 (a11 P)) .nil) (nd (c10_435 P) (l1 (c15_691 P)) .nil)) (u232 P)))) (nd (c0_27 P) (nd (c0_43 P) (u233 P) (nd (c2_107 P) (nd (c4_171 P) (nd (c6_299 P) (l1 (c13_555 P)) .nil) (nd (c10_427 P) (l1 (c15_683 P)) .nil)) (u234 P))) (nd (c1_59 P) (nd (c2_91 P) (nd (c4_155 P) (nd (c6_283 P) (l1 (c12_539 P)) .nil) (nd (a11 P) (l1 (a11 P)) .nil)) (u235 P)) (nd (a12 P) (nd (c4_187 P) (nd (c6_315 P) (l1 (c13_571 P)) .nil) (nd (a11 P) (l1 (c15_699 P)) .nil)) (u236 P)))))) (nd (boot_o_5 P) (nd (boot_o_9 P) (nd (c0_17 P) (nd (c0_33 P) (nd (c1_65 P) (u237 P) (nd (c4_193 P) (nd (c7_321 P) (l1 (c14_577 P)) .nil) (nd (c10_449 P) (l1 (c15_705 P)) .nil))) (nd (a11 P) (nd (a12 P) (nd (a12 P) (l1 (a11 P)) .nil) (nd (c10_417 P) (l1 (c15_673 P)) .nil)) (u238 P))) (nd (c1_49 P) (nd (a12 P) (nd (c3_145 P) (nd (c6_273 P) (l1 (c12_529 P)) .nil) (nd (c9_401 P) (l1 (c15_657 P)) .nil)) (u239 P)) (nd (c2_113 P) (nd (c4_177 P) (nd (a11 P) (l1 (c13_561 P)) .nil) (nd (c10_433 P) (l1 (a11 P)) .nil)) (u240 P)))) (nd (a11 P) (nd (c0_41 P) (u241 P) (nd (c2_105 P) (nd (c4_169 P) (nd (c6_297 P) (l1 (c13_553 P)) .nil) (nd (a11 P) (l1 (c15_681 P)) .nil)) (u242 P))) (nd (a11 P) (nd (c2_89 P) (nd (c3_115 P) (nd (a11 P) (l1 (c12_537 P)) .nil) (nd (c0_23 P) (l1 (c15_665 P)) .nil)) (u243 P)) (nd (c3_121 P) (nd (a12 P) (nd (c6_313 P) (l1 (c13_569 P)) .nil) (nd (c10_441 P) (l1 (c15_697 P)) .nil)) (u244 P))))) (nd (a13 P) (nd (c0_21 P) (nd (c0_37 P) (u245 P) (nd (a11 P) (nd (c4_165 P) (nd (c6_293 P) (l1 (a11 P)) .nil) (nd (c10_421 P) (l1 (c15_677 P)) .nil)) (u246 P))) (nd (c1_53 P) (nd (c2_85 P) (nd (c3_149 P) (nd (a11 P) (l1 (a11 P)) .nil) (nd (c9_405 P) (l1 (a12 P)) .nil)) (nd (a11 P) (nd (c7_341 P) (l1 (a12 P)) .nil) (l1 (a11 P)))) (nd (c3_117 P) (nd (c4_181 P) (nd (a11 P) (l1 (c13_565 P)) .nil) (nd (a12 P) (l1 (a11 P)) .nil)) (u247 P)))) (nd (a11 P) (nd (c0_45 P) (nd (c2_77 P) (nd (a11 P) (nd (c6_269 P) (l1 (c12_525 P)) .nil) (nd (a12 P) (l1 (a11 P)) .nil)) (u248 P)) (nd (c2_109 P) (nd (a12 P) (nd (c6_301 P) (l1 (a12 P)) .nil) (nd (a11 P) (l1 (c15_685 P)) .nil)) (u249 P))) (nd (c1_61 P) (nd (c2_93 P) (nd (c4_157 P) (nd (c6_285 P) (l1 (c12_541 P)) .nil) (nd (c10_413 P) (l1 (c15_669 P)) .nil)) (u250 P)) (nd (a11 P) (nd (a11 P) (nd (c0_23 P) (l1 (c13_573 P)) .nil) (nd (c10_445 P) (l1 (a12 P)) .nil)) (u251 P))))))) (nd (boot_o_2 P) (nd (boot_o_4 P) (nd (boot_o_8 P) (nd (a12 P) (nd (c0_32 P) (nd (c1_64 P) (u252 P) (nd (a11 P) (nd (c7_320 P) (l1 (c0_23 P)) .nil) (nd (c10_448 P) (l1 (c15_704 P)) .nil))) (nd (c2_96 P) (nd (a11 P) (nd (a11 P) (l1 (c13_544 P)) .nil) (nd (a12 P) (l1 (c15_672 P)) .nil)) (nd (a11 P) (nd (a11 P) (l1 (a11 P)) .nil) (l1 (c11_480 P))))) (nd (c0_23 P) (nd (a11 P) (nd (a11 P) (nd (c6_272 P) (l1 (c12_528 P)) .nil) (nd (c9_400 P) (l1 (a11 P)) .nil)) (u253 P)) (nd (c2_112 P) (nd (c4_176 P) (nd (c6_304 P) (l1 (c13_560 P)) .nil) (nd (a11 P) (l1 (c15_688 P)) .nil)) (u254 P)))) (nd (c0_24 P) (nd (c0_40 P) (u255 P) (nd (a11 P) (nd (c4_168 P) (nd (a12 P) (l1 (a11 P)) .nil) (nd (c10_424 P) (l1 (a12 P)) .nil)) (u256 P))) (nd (c1_56 P) (nd (a12 P) (nd (c3_152 P) (nd (c6_280 P) (l1 (c12_536 P)) .nil) (nd (c7_316 P) (l1 (c15_664 P)) .nil)) (u257 P)) (nd (c3_120 P) (nd (a11 P) (nd (c6_312 P) (l1 (c13_568 P)) .nil) (nd (c10_440 P) (l1 (a11 P)) .nil)) (u258 P))))) (nd (c15_12 P) (nd (c0_20 P) (nd (c0_23 P) (u259 P) (nd (c2_100 P) (nd (c4_164 P) (nd (c6_292 P) (l1 (c13_548 P)) .nil) (nd (c10_420 P) (l1 (c15_676 P)) .nil)) (u260 P))) (nd (c1_52 P) (nd (c2_84 P) (nd (a11 P) (nd (c6_276 P) (l1 (c12_532 P)) .nil) (nd (c9_404 P) (l1 (a11 P)) .nil)) (u261 P)) (nd (c0_23 P) (nd (a12 P) (nd (c6_308 P) (l1 (a12 P)) .nil) (nd (a11 P) (l1 (c15_692 P)) .nil)) (u262 P)))) (nd (c0_28 P) (nd (c0_44 P) (u263 P) (nd (c2_108 P) (nd (a11 P) (nd (c6_300 P) (l1 (a11 P)) .nil) (nd (c10_428 P) (l1 (c15_684 P)) .nil)) (u264 P))) (nd (c1_60 P) (nd (c2_92 P) (nd (a11 P) (nd (a11 P) (l1 (c12_540 P)) .nil) (nd (c10_412 P) (l1 (a12 P)) .nil)) (u265 P)) (nd (c3_124 P) (nd (c4_188 P) (nd (c7_316 P) (l1 (c13_572 P)) .nil) (nd (a12 P) (l1 (a11 P)) .nil)) (u266 P)))))) (nd (boot_o_6 P) (nd (boot_o_10 P) (nd (a11 P) (nd (c0_34 P) (nd (a11 P) (u267 P) (nd (c4_194 P) (nd (c7_322 P) (l1 (a11 P)) .nil) (nd (c10_450 P) (l1 (c15_706 P)) .nil))) (nd (c2_98 P) (nd (c4_162 P) (nd (c6_290 P) (l1 (c13_546 P)) .nil) (nd (a11 P) (l1 (a11 P)) .nil)) (u268 P))) (nd (a11 P) (nd (c2_82 P) (nd (c3_146 P) (nd (a11 P) (l1 (a11 P)) .nil) (nd (c9_402 P) (l1 (c15_658 P)) .nil)) (u269 P)) (nd (c2_114 P) (nd (c4_178 P) (nd (c6_306 P) (l1 (c13_562 P)) .nil) (nd (c10_434 P) (l1 (c15_690 P)) .nil)) (nd (c5_242 P) (nd (a11 P) (l1 (a12 P)) .nil) (l1 (a11 P)))))) (nd (a12 P) (nd (a11 P) (u270 P) (nd (c2_106 P) (nd (c4_170 P) (nd (a11 P) (l1 (c13_554 P)) .nil) (nd (c10_426 P) (l1 (a11 P)) .nil)) (nd (a11 P) (nd (c8_362 P) (l1 (a11 P)) .nil) (l1 (a11 P))))) (nd (c1_58 P) (nd (a11 P) (nd (c0_23 P) (nd (a12 P) (l1 (c12_538 P)) .nil) (nd (c10_410 P) (l1 (c15_666 P)) .nil)) (u271 P)) (nd (a11 P) (nd (c4_186 P) (nd (c6_314 P) (l1 (c13_570 P)) .nil) (nd (c10_442 P) (l1 (c15_698 P)) .nil)) (u272 P))))) (nd (a14 P) (nd (c0_22 P) (nd (a11 P) (u273 P) (nd (a12 P) (nd (c4_166 P) (nd (c6_294 P) (l1 (a12 P)) .nil) (nd (a11 P) (l1 (c15_678 P)) .nil)) (u274 P))) (nd (a11 P) (nd (c2_86 P) (nd (c3_150 P) (nd (c6_278 P) (l1 (c12_534 P)) .nil) (nd (c9_406 P) (l1 (c15_662 P)) .nil)) (u275 P)) (nd (a11 P) (nd (c4_182 P) (nd (c6_310 P) (l1 (a11 P)) .nil) (nd (c10_438 P) (l1 (a12 P)) .nil)) (u276 P)))) (nd (c0_30 P) (nd (c0_46 P) (nd (c2_78 P) (nd (a12 P) (nd (a11 P) (l1 (a11 P)) .nil) (nd (c9_398 P) (l1 (a12 P)) .nil)) (nd (a11 P) (nd (c7_334 P) (l1 (a12 P)) .nil) (l1 (a11 P)))) (nd (c4_110 P) (nd (c4_174 P) (nd (a11 P) (l1 (c13_558 P)) .nil) (nd (a12 P) (l1 (a11 P)) .nil)) (u277 P))) (nd (c1_62 P) (nd (a11 P) (nd (c4_158 P) (nd (c6_286 P) (l1 (c7_316 P)) .nil) (nd (c10_414 P) (l1 (a11 P)) .nil)) (u278 P)) (nd (c3_126 P) (nd (a12 P) (nd (c7_318 P) (l1 (c13_574 P)) .nil) (nd (a11 P) (l1 (c15_702 P)) .nil)) (u279 P))))))))
noncomputable def tc15_ (P : Params) : BT := (u280 P)
noncomputable def sc15_ (w : World) (os : OsState) : SharedT := SharedT.mk (tc15_ w.params) 707 (@Life.mk [] [] [] 0 [] [] Bool.false E [] 0 Bool.false Bool.false Bool.false 0 [2000, 10, 10] Bool.false 0 Bool.true [] [] 0 Bool.false) E (@Drawn.mk 0 0 0 0) 1088 os
noncomputable def tz (P : Params) : BT := (u280 P)
noncomputable def sz (w : World) (os : OsState) : SharedT := SharedT.mk (tz w.params) 707 (@Life.mk [] [] [] 0 [] [] Bool.false E [] 0 Bool.false Bool.false Bool.false 0 [2000, 10, 10] Bool.false 0 Bool.true [] [] 0 Bool.false) E (@Drawn.mk 0 0 0 0) 1088 os
noncomputable abbrev e0 : Env := { scope := p0.main.scope, locals := mainNs, globals := mainNs, cells := [], code := (vr 13), frame := some 14 }
noncomputable abbrev en : Env := { scope := pq.main.scope, locals := mainNs, globals := mainNs, cells := [], code := (vr 13), frame := some 14 }
theorem bs : behindTheImports p0 = ((p0.main.body.drop 0).take 4 ++ ((p0.main.body.drop 4).take 2 ++ ((p0.main.body.drop 6).take 1 ++ ((p0.main.body.drop 7).take 2 ++ ((p0.main.body.drop 9).take 14 ++ ((p0.main.body.drop 23).take 3 ++ ((p0.main.body.drop 26).take 2 ++ ((p0.main.body.drop 28).take 1 ++ ((p0.main.body.drop 29).take 1 ++ ((p0.main.body.drop 30).take 1 ++ ((p0.main.body.drop 31).take 1 ++ ((p0.main.body.drop 32).take 1 ++ ((p0.main.body.drop 33).take 1 ++ ((p0.main.body.drop 34).take 1 ++ ((p0.main.body.drop 35).take 9 ++ ((p0.main.body.drop 44).take 8 ++ [])))))))))))))))) := by kernel_rfl
theorem pre_l (w : World) (os : OsState) : topGo treeTable p0 w 11 (sr 6) 12 ⟨boot_heap w.params, Array.mk [], boot_drawn, boot_toks, os⟩ (topStub p0) = some ((sa w os).abs, ⟨denote treeTable (Code.body (behindTheImports p0) e0), Code.body (behindTheImports p0) e0, (@Pos.mk 0 0 0 0), [topFrame (@Pos.mk 0 0 0 0)]⟩) := by
  rw [PySem.W.Fast.te15667345088766844465, PySem.W.Fast.te14364793385576792824, PySem.W.Fast.te11892475500146522536, pe]
  kernel_rfl
theorem blk_l (w : World) (os : OsState) : segRun treeTable p0 w 11 (sr 6) 1 1 (sa w os).abs (blockOf (behindTheImports p0) e0 (Code.body (behindTheImports p0) e0) (@Pos.mk 0 0 0 0) [topFrame (@Pos.mk 0 0 0 0)]) = some (Flow.next, (sb w os).abs, Code.body (behindTheImports p0) e0, (@Pos.mk 0 0 0 0)) := by
  refine segRun_of ?_
  rw [PySem.W.Fast.te10110043849684766642, PySem.W.Fast.te14364793385576792824, pe]
  kernel_rfl
theorem g0 (p : Program) (b : List Stmt) : ∀ w : World, (fun os => PySem.W.Fast.tw10110043849684766642 PySem.W.Fast.tw14364793385576792824 p w 11 (sr 6) 1 438 (sb w os) (piecesOf ((pq.main.body.drop 0).take 4) en (Code.body b en) (@Pos.mk 0 0 0 0) [topFrame (@Pos.mk 0 0 0 0)])) = (fun os => some (Flow.next, sc0_ w os, Code.body b en, (@Pos.mk 7 0 8 8))) := fun w => by kernel_rfl
theorem h0 (b : List Stmt) (w : World) (os : OsState) : segRun treeTable p0 w 11 (sr 6) 1 438 (sb w os).abs (piecesOf ((p0.main.body.drop 0).take 4) e0 (Code.body b e0) (@Pos.mk 0 0 0 0) [topFrame (@Pos.mk 0 0 0 0)]) = some (Flow.next, (sc0_ w os).abs, Code.body b e0, (@Pos.mk 7 0 8 8)) := by
  refine segRun_of ?_
  rw [PySem.W.Fast.te10110043849684766642, PySem.W.Fast.te14364793385576792824, pe]
  exact congrFun (g0 pq b w) os
theorem g1 (p : Program) (b : List Stmt) : ∀ w : World, (fun os => PySem.W.Fast.tw10110043849684766642 PySem.W.Fast.tw14364793385576792824 p w 11 (sr 6) 1 255 (sc0_ w os) (piecesOf ((pq.main.body.drop 4).take 2) en (Code.body b en) (@Pos.mk 7 0 8 8) [topFrame (@Pos.mk 0 0 0 0)])) = (fun os => some (Flow.next, sc1_ w os, Code.body b en, (@Pos.mk 13 0 13 8))) := fun w => by kernel_rfl
theorem h1 (b : List Stmt) (w : World) (os : OsState) : segRun treeTable p0 w 11 (sr 6) 1 255 (sc0_ w os).abs (piecesOf ((p0.main.body.drop 4).take 2) e0 (Code.body b e0) (@Pos.mk 7 0 8 8) [topFrame (@Pos.mk 0 0 0 0)]) = some (Flow.next, (sc1_ w os).abs, Code.body b e0, (@Pos.mk 13 0 13 8)) := by
  refine segRun_of ?_
  rw [PySem.W.Fast.te10110043849684766642, PySem.W.Fast.te14364793385576792824, pe]
  exact congrFun (g1 pq b w) os
theorem g2 (p : Program) (b : List Stmt) : ∀ w : World, (fun os => PySem.W.Fast.tw10110043849684766642 PySem.W.Fast.tw14364793385576792824 p w 11 (sr 6) 1 351 (sc1_ w os) (piecesOf ((pq.main.body.drop 6).take 1) en (Code.body b en) (@Pos.mk 13 0 13 8) [topFrame (@Pos.mk 0 0 0 0)])) = (fun os => some (Flow.next, sc2_ w os, Code.body b en, (@Pos.mk 14 0 30 51))) := fun w => by kernel_rfl
theorem h2 (b : List Stmt) (w : World) (os : OsState) : segRun treeTable p0 w 11 (sr 6) 1 351 (sc1_ w os).abs (piecesOf ((p0.main.body.drop 6).take 1) e0 (Code.body b e0) (@Pos.mk 13 0 13 8) [topFrame (@Pos.mk 0 0 0 0)]) = some (Flow.next, (sc2_ w os).abs, Code.body b e0, (@Pos.mk 14 0 30 51)) := by
  refine segRun_of ?_
  rw [PySem.W.Fast.te10110043849684766642, PySem.W.Fast.te14364793385576792824, pe]
  exact congrFun (g2 pq b w) os
theorem g3 (p : Program) (b : List Stmt) : ∀ w : World, (fun os => PySem.W.Fast.tw10110043849684766642 PySem.W.Fast.tw14364793385576792824 p w 11 (sr 6) 1 487 (sc2_ w os) (piecesOf ((pq.main.body.drop 7).take 2) en (Code.body b en) (@Pos.mk 14 0 30 51) [topFrame (@Pos.mk 0 0 0 0)])) = (fun os => some (Flow.next, sc3_ w os, Code.body b en, (@Pos.mk 35 0 38 21))) := fun w => by kernel_rfl
theorem h3 (b : List Stmt) (w : World) (os : OsState) : segRun treeTable p0 w 11 (sr 6) 1 487 (sc2_ w os).abs (piecesOf ((p0.main.body.drop 7).take 2) e0 (Code.body b e0) (@Pos.mk 14 0 30 51) [topFrame (@Pos.mk 0 0 0 0)]) = some (Flow.next, (sc3_ w os).abs, Code.body b e0, (@Pos.mk 35 0 38 21)) := by
  refine segRun_of ?_
  rw [PySem.W.Fast.te10110043849684766642, PySem.W.Fast.te14364793385576792824, pe]
  exact congrFun (g3 pq b w) os
theorem g4 (p : Program) (b : List Stmt) : ∀ w : World, (fun os => PySem.W.Fast.tw10110043849684766642 PySem.W.Fast.tw14364793385576792824 p w 11 (sr 6) 1 436 (sc3_ w os) (piecesOf ((pq.main.body.drop 9).take 14) en (Code.body b en) (@Pos.mk 35 0 38 21) [topFrame (@Pos.mk 0 0 0 0)])) = (fun os => some (Flow.next, sc4_ w os, Code.body b en, (@Pos.mk 70 0 72 57))) := fun w => by kernel_rfl
theorem h4 (b : List Stmt) (w : World) (os : OsState) : segRun treeTable p0 w 11 (sr 6) 1 436 (sc3_ w os).abs (piecesOf ((p0.main.body.drop 9).take 14) e0 (Code.body b e0) (@Pos.mk 35 0 38 21) [topFrame (@Pos.mk 0 0 0 0)]) = some (Flow.next, (sc4_ w os).abs, Code.body b e0, (@Pos.mk 70 0 72 57)) := by
  refine segRun_of ?_
  rw [PySem.W.Fast.te10110043849684766642, PySem.W.Fast.te14364793385576792824, pe]
  exact congrFun (g4 pq b w) os
theorem g5 (p : Program) (b : List Stmt) : ∀ w : World, (fun os => PySem.W.Fast.tw10110043849684766642 PySem.W.Fast.tw14364793385576792824 p w 11 (sr 6) 1 439 (sc4_ w os) (piecesOf ((pq.main.body.drop 23).take 3) en (Code.body b en) (@Pos.mk 70 0 72 57) [topFrame (@Pos.mk 0 0 0 0)])) = (fun os => some (Flow.next, sc5_ w os, Code.body b en, (@Pos.mk 138 0 138 18))) := fun w => by kernel_rfl
theorem h5 (b : List Stmt) (w : World) (os : OsState) : segRun treeTable p0 w 11 (sr 6) 1 439 (sc4_ w os).abs (piecesOf ((p0.main.body.drop 23).take 3) e0 (Code.body b e0) (@Pos.mk 70 0 72 57) [topFrame (@Pos.mk 0 0 0 0)]) = some (Flow.next, (sc5_ w os).abs, Code.body b e0, (@Pos.mk 138 0 138 18)) := by
  refine segRun_of ?_
  rw [PySem.W.Fast.te10110043849684766642, PySem.W.Fast.te14364793385576792824, pe]
  exact congrFun (g5 pq b w) os
theorem g6 (p : Program) (b : List Stmt) : ∀ w : World, (fun os => PySem.W.Fast.tw10110043849684766642 PySem.W.Fast.tw14364793385576792824 p w 11 (sr 6) 1 494 (sc5_ w os) (piecesOf ((pq.main.body.drop 26).take 2) en (Code.body b en) (@Pos.mk 138 0 138 18) [topFrame (@Pos.mk 0 0 0 0)])) = (fun os => some (Flow.next, sc6_ w os, Code.body b en, (@Pos.mk 140 0 158 63))) := byRow2 "special-get-raises" (P := fun w => (fun os => PySem.W.Fast.tw10110043849684766642 PySem.W.Fast.tw14364793385576792824 p w 11 (sr 6) 1 494 (sc5_ w os) (piecesOf ((pq.main.body.drop 26).take 2) en (Code.body b en) (@Pos.mk 138 0 138 18) [topFrame (@Pos.mk 0 0 0 0)])) = (fun os => some (Flow.next, sc6_ w os, Code.body b en, (@Pos.mk 140 0 158 63)))) (fun w => by kernel_rfl) (fun w => by kernel_rfl)
theorem h6 (b : List Stmt) (w : World) (os : OsState) : segRun treeTable p0 w 11 (sr 6) 1 494 (sc5_ w os).abs (piecesOf ((p0.main.body.drop 26).take 2) e0 (Code.body b e0) (@Pos.mk 138 0 138 18) [topFrame (@Pos.mk 0 0 0 0)]) = some (Flow.next, (sc6_ w os).abs, Code.body b e0, (@Pos.mk 140 0 158 63)) := by
  refine segRun_of ?_
  rw [PySem.W.Fast.te10110043849684766642, PySem.W.Fast.te14364793385576792824, pe]
  exact congrFun (g6 pq b w) os
theorem g7 (p : Program) (b : List Stmt) : ∀ w : World, (fun os => PySem.W.Fast.tw10110043849684766642 PySem.W.Fast.tw14364793385576792824 p w 11 (sr 6) 1 279 (sc6_ w os) (piecesOf ((pq.main.body.drop 28).take 1) en (Code.body b en) (@Pos.mk 140 0 158 63) [topFrame (@Pos.mk 0 0 0 0)])) = (fun os => some (Flow.next, sc7_ w os, Code.body b en, (@Pos.mk 159 0 166 25))) := fun w => by kernel_rfl
theorem h7 (b : List Stmt) (w : World) (os : OsState) : segRun treeTable p0 w 11 (sr 6) 1 279 (sc6_ w os).abs (piecesOf ((p0.main.body.drop 28).take 1) e0 (Code.body b e0) (@Pos.mk 140 0 158 63) [topFrame (@Pos.mk 0 0 0 0)]) = some (Flow.next, (sc7_ w os).abs, Code.body b e0, (@Pos.mk 159 0 166 25)) := by
  refine segRun_of ?_
  rw [PySem.W.Fast.te10110043849684766642, PySem.W.Fast.te14364793385576792824, pe]
  exact congrFun (g7 pq b w) os
theorem g8 (p : Program) (b : List Stmt) : ∀ w : World, (fun os => PySem.W.Fast.tw10110043849684766642 PySem.W.Fast.tw14364793385576792824 p w 11 (sr 6) 1 322 (sc7_ w os) (piecesOf ((pq.main.body.drop 29).take 1) en (Code.body b en) (@Pos.mk 159 0 166 25) [topFrame (@Pos.mk 0 0 0 0)])) = (fun os => some (Flow.next, sc8_ w os, Code.body b en, (@Pos.mk 167 0 176 53))) := fun w => by kernel_rfl
theorem h8 (b : List Stmt) (w : World) (os : OsState) : segRun treeTable p0 w 11 (sr 6) 1 322 (sc7_ w os).abs (piecesOf ((p0.main.body.drop 29).take 1) e0 (Code.body b e0) (@Pos.mk 159 0 166 25) [topFrame (@Pos.mk 0 0 0 0)]) = some (Flow.next, (sc8_ w os).abs, Code.body b e0, (@Pos.mk 167 0 176 53)) := by
  refine segRun_of ?_
  rw [PySem.W.Fast.te10110043849684766642, PySem.W.Fast.te14364793385576792824, pe]
  exact congrFun (g8 pq b w) os
theorem g9 (p : Program) (b : List Stmt) : ∀ w : World, (fun os => PySem.W.Fast.tw10110043849684766642 PySem.W.Fast.tw14364793385576792824 p w 11 (sr 6) 1 322 (sc8_ w os) (piecesOf ((pq.main.body.drop 30).take 1) en (Code.body b en) (@Pos.mk 167 0 176 53) [topFrame (@Pos.mk 0 0 0 0)])) = (fun os => some (Flow.next, sc9_ w os, Code.body b en, (@Pos.mk 177 0 186 53))) := fun w => by kernel_rfl
theorem h9 (b : List Stmt) (w : World) (os : OsState) : segRun treeTable p0 w 11 (sr 6) 1 322 (sc8_ w os).abs (piecesOf ((p0.main.body.drop 30).take 1) e0 (Code.body b e0) (@Pos.mk 167 0 176 53) [topFrame (@Pos.mk 0 0 0 0)]) = some (Flow.next, (sc9_ w os).abs, Code.body b e0, (@Pos.mk 177 0 186 53)) := by
  refine segRun_of ?_
  rw [PySem.W.Fast.te10110043849684766642, PySem.W.Fast.te14364793385576792824, pe]
  exact congrFun (g9 pq b w) os
theorem g10 (p : Program) (b : List Stmt) : ∀ w : World, (fun os => PySem.W.Fast.tw10110043849684766642 PySem.W.Fast.tw14364793385576792824 p w 11 (sr 6) 1 376 (sc9_ w os) (piecesOf ((pq.main.body.drop 31).take 1) en (Code.body b en) (@Pos.mk 177 0 186 53) [topFrame (@Pos.mk 0 0 0 0)])) = (fun os => some (Flow.next, sc10_ w os, Code.body b en, (@Pos.mk 187 0 204 62))) := fun w => by kernel_rfl
theorem h10 (b : List Stmt) (w : World) (os : OsState) : segRun treeTable p0 w 11 (sr 6) 1 376 (sc9_ w os).abs (piecesOf ((p0.main.body.drop 31).take 1) e0 (Code.body b e0) (@Pos.mk 177 0 186 53) [topFrame (@Pos.mk 0 0 0 0)]) = some (Flow.next, (sc10_ w os).abs, Code.body b e0, (@Pos.mk 187 0 204 62)) := by
  refine segRun_of ?_
  rw [PySem.W.Fast.te10110043849684766642, PySem.W.Fast.te14364793385576792824, pe]
  exact congrFun (g10 pq b w) os
theorem g11 (p : Program) (b : List Stmt) : ∀ w : World, (fun os => PySem.W.Fast.tw10110043849684766642 PySem.W.Fast.tw14364793385576792824 p w 11 (sr 6) 1 353 (sc10_ w os) (piecesOf ((pq.main.body.drop 32).take 1) en (Code.body b en) (@Pos.mk 187 0 204 62) [topFrame (@Pos.mk 0 0 0 0)])) = (fun os => some (Flow.next, sc11_ w os, Code.body b en, (@Pos.mk 205 0 217 53))) := fun w => by kernel_rfl
theorem h11 (b : List Stmt) (w : World) (os : OsState) : segRun treeTable p0 w 11 (sr 6) 1 353 (sc10_ w os).abs (piecesOf ((p0.main.body.drop 32).take 1) e0 (Code.body b e0) (@Pos.mk 187 0 204 62) [topFrame (@Pos.mk 0 0 0 0)]) = some (Flow.next, (sc11_ w os).abs, Code.body b e0, (@Pos.mk 205 0 217 53)) := by
  refine segRun_of ?_
  rw [PySem.W.Fast.te10110043849684766642, PySem.W.Fast.te14364793385576792824, pe]
  exact congrFun (g11 pq b w) os
theorem g12 (p : Program) (b : List Stmt) : ∀ w : World, (fun os => PySem.W.Fast.tw10110043849684766642 PySem.W.Fast.tw14364793385576792824 p w 11 (sr 6) 1 389 (sc11_ w os) (piecesOf ((pq.main.body.drop 33).take 1) en (Code.body b en) (@Pos.mk 205 0 217 53) [topFrame (@Pos.mk 0 0 0 0)])) = (fun os => some (Flow.next, sc12_ w os, Code.body b en, (@Pos.mk 218 0 234 65))) := fun w => by kernel_rfl
theorem h12 (b : List Stmt) (w : World) (os : OsState) : segRun treeTable p0 w 11 (sr 6) 1 389 (sc11_ w os).abs (piecesOf ((p0.main.body.drop 33).take 1) e0 (Code.body b e0) (@Pos.mk 205 0 217 53) [topFrame (@Pos.mk 0 0 0 0)]) = some (Flow.next, (sc12_ w os).abs, Code.body b e0, (@Pos.mk 218 0 234 65)) := by
  refine segRun_of ?_
  rw [PySem.W.Fast.te10110043849684766642, PySem.W.Fast.te14364793385576792824, pe]
  exact congrFun (g12 pq b w) os
theorem g13 (p : Program) (b : List Stmt) : ∀ w : World, (fun os => PySem.W.Fast.tw10110043849684766642 PySem.W.Fast.tw14364793385576792824 p w 11 (sr 6) 1 310 (sc12_ w os) (piecesOf ((pq.main.body.drop 34).take 1) en (Code.body b en) (@Pos.mk 218 0 234 65) [topFrame (@Pos.mk 0 0 0 0)])) = (fun os => some (Flow.next, sc13_ w os, Code.body b en, (@Pos.mk 235 0 244 43))) := fun w => by kernel_rfl
theorem h13 (b : List Stmt) (w : World) (os : OsState) : segRun treeTable p0 w 11 (sr 6) 1 310 (sc12_ w os).abs (piecesOf ((p0.main.body.drop 34).take 1) e0 (Code.body b e0) (@Pos.mk 218 0 234 65) [topFrame (@Pos.mk 0 0 0 0)]) = some (Flow.next, (sc13_ w os).abs, Code.body b e0, (@Pos.mk 235 0 244 43)) := by
  refine segRun_of ?_
  rw [PySem.W.Fast.te10110043849684766642, PySem.W.Fast.te14364793385576792824, pe]
  exact congrFun (g13 pq b w) os
theorem g14 (p : Program) (b : List Stmt) : ∀ w : World, (fun os => PySem.W.Fast.tw10110043849684766642 PySem.W.Fast.tw14364793385576792824 p w 11 (sr 6) 1 523 (sc13_ w os) (piecesOf ((pq.main.body.drop 35).take 9) en (Code.body b en) (@Pos.mk 235 0 244 43) [topFrame (@Pos.mk 0 0 0 0)])) = (fun os => some (Flow.next, sc14_ w os, Code.body b en, (@Pos.mk 294 0 296 77))) := fun w => by kernel_rfl
theorem h14 (b : List Stmt) (w : World) (os : OsState) : segRun treeTable p0 w 11 (sr 6) 1 523 (sc13_ w os).abs (piecesOf ((p0.main.body.drop 35).take 9) e0 (Code.body b e0) (@Pos.mk 235 0 244 43) [topFrame (@Pos.mk 0 0 0 0)]) = some (Flow.next, (sc14_ w os).abs, Code.body b e0, (@Pos.mk 294 0 296 77)) := by
  refine segRun_of ?_
  rw [PySem.W.Fast.te10110043849684766642, PySem.W.Fast.te14364793385576792824, pe]
  exact congrFun (g14 pq b w) os
theorem g15 (p : Program) (b : List Stmt) : ∀ w : World, (fun os => PySem.W.Fast.tw10110043849684766642 PySem.W.Fast.tw14364793385576792824 p w 11 (sr 6) 1 244 (sc14_ w os) (piecesOf ((pq.main.body.drop 44).take 8) en (Code.body b en) (@Pos.mk 294 0 296 77) [topFrame (@Pos.mk 0 0 0 0)])) = (fun os => some (Flow.next, sc15_ w os, Code.body b en, (@Pos.mk 361 0 369 15))) := fun w => by kernel_rfl
theorem h15 (b : List Stmt) (w : World) (os : OsState) : segRun treeTable p0 w 11 (sr 6) 1 244 (sc14_ w os).abs (piecesOf ((p0.main.body.drop 44).take 8) e0 (Code.body b e0) (@Pos.mk 294 0 296 77) [topFrame (@Pos.mk 0 0 0 0)]) = some (Flow.next, (sc15_ w os).abs, Code.body b e0, (@Pos.mk 361 0 369 15)) := by
  refine segRun_of ?_
  rw [PySem.W.Fast.te10110043849684766642, PySem.W.Fast.te14364793385576792824, pe]
  exact congrFun (g15 pq b w) os
noncomputable abbrev H1 : Params → Heap := fun P => absHeap (tz P) 707 (@Life.mk [] [] [] 0 [] [] Bool.false E [] 0 Bool.false Bool.false Bool.false 0 [2000, 10, 10] Bool.false 0 Bool.true [] [] 0 Bool.false)
theorem fin_l (b : List Stmt) (w : World) (os : OsState) : topRun treeTable p0 w 11 (sr 6) 2 (sc15_ w os).abs ⟨doneF .next, Code.body b e0, (@Pos.mk 361 0 369 15), [topFrame (@Pos.mk 0 0 0 0)]⟩ = some ⟨H1 w.params, Array.mk [], (@Drawn.mk 0 0 0 0), 1088, os⟩ := by
  rw [PySem.W.Fast.te14082659384304107361, PySem.W.Fast.te14364793385576792824, pe]
  kernel_rfl
theorem run_l (w : World) (os : OsState) : topRun treeTable p0 w 11 (sr 6) (12 + (1 + (438 + (255 + (351 + (487 + (436 + (439 + (494 + (279 + (322 + (322 + (376 + (353 + (389 + (310 + (523 + (244 + 2)))))))))))))))))) ⟨boot_heap w.params, Array.mk [], boot_drawn, boot_toks, os⟩ (topStub p0) = some ⟨H1 w.params, Array.mk [], (@Drawn.mk 0 0 0 0), 1088, os⟩ := by
  refine go_top (pre_l w os) (piece_block (blk_l w os) ?k)
  rw [bs]
  exact piece_app (h0 _ w os) (piece_app (h1 _ w os) (piece_app (h2 _ w os) (piece_app (h3 _ w os) (piece_app (h4 _ w os) (piece_app (h5 _ w os) (piece_app (h6 _ w os) (piece_app (h7 _ w os) (piece_app (h8 _ w os) (piece_app (h9 _ w os) (piece_app (h10 _ w os) (piece_app (h11 _ w os) (piece_app (h12 _ w os) (piece_app (h13 _ w os) (piece_app (h14 _ w os) (piece_app (h15 _ w os) (piece_nil (fin_l _ w os)))))))))))))))))
noncomputable abbrev k21 : Params → Obj := fun P => (Obj.mk (@Value.type "function") none (Data.func (fk (@Str.ofString "_wall") (@Str.ofString "_wall") (T 0) 3 [] vn vn vn (@Value.str (@Str.ofString "__main__") 164) none (vr 20) vn 0)) E)
noncomputable abbrev k60 : Params → Obj := fun P => (Obj.mk (@Value.type "function") none (Data.func (fk (@Str.ofString "__init__") (@Str.ofString "NoText.__init__") (N 4 0) 3 [] vn vn vn (@Value.str (@Str.ofString "pactroom.errors") 194) none (vr 59) vn 0)) E)
noncomputable abbrev k79 : Params → Obj := fun P => (Obj.mk (@Value.type "function") none (Data.func (fk (@Str.ofString "__init__") (@Str.ofString "Lock.__init__") (N 6 0) 3 [] vn vn vn (@Value.str (@Str.ofString "pactroom.kinds") 255) none (vr 78) vn 0)) E)
noncomputable abbrev k86 : Params → Obj := fun P => (Obj.mk (@Value.type "function") none (Data.func (fk (@Str.ofString "kind") (@Str.ofString "Lock.kind") (N 6 1) 3 [] vn vn vn (@Value.str (@Str.ofString "pactroom.kinds") 255) none (vr 85) vn 0)) E)
noncomputable abbrev k93 : Params → Obj := fun P => (Obj.mk (@Value.type "function") none (Data.func (fk (@Str.ofString "beside") (@Str.ofString "Lock.beside") (N 6 2) 3 [] vn vn vn (@Value.str (@Str.ofString "pactroom.kinds") 255) none (vr 92) vn 0)) E)
noncomputable abbrev k100 : Params → Obj := fun P => (Obj.mk (@Value.type "function") none (Data.func (fk (@Str.ofString "covers") (@Str.ofString "Lock.covers") (N 6 3) 3 [] vn vn vn (@Value.str (@Str.ofString "pactroom.kinds") 255) none (vr 99) vn 0)) E)
noncomputable abbrev k107 : Params → Obj := fun P => (Obj.mk (@Value.type "function") none (Data.func (fk (@Str.ofString "told") (@Str.ofString "Lock.told") (N 6 4) 3 [] vn vn vn (@Value.str (@Str.ofString "pactroom.kinds") 255) none (vr 106) vn 0)) E)
noncomputable abbrev k128 : Params → Obj := fun P => (Obj.mk (@Value.type "function") none (Data.func (fk (@Str.ofString "kind") (@Str.ofString "Read.kind") (N 7 0) 3 [] vn vn vn (@Value.str (@Str.ofString "pactroom.kinds") 255) none (vr 127) vn 0)) E)
noncomputable abbrev k147 : Params → Obj := fun P => (Obj.mk (@Value.type "function") none (Data.func (fk (@Str.ofString "kind") (@Str.ofString "Mean.kind") (N 8 0) 3 [] vn vn vn (@Value.str (@Str.ofString "pactroom.kinds") 255) none (vr 146) vn 0)) E)
noncomputable abbrev k166 : Params → Obj := fun P => (Obj.mk (@Value.type "function") none (Data.func (fk (@Str.ofString "kind") (@Str.ofString "Change.kind") (N 9 0) 3 [] vn vn vn (@Value.str (@Str.ofString "pactroom.kinds") 255) none (vr 165) vn 0)) E)
noncomputable abbrev k178 : Params → Obj := fun P => (Obj.mk (@Value.type "function") none (Data.func (fk (@Str.ofString "is_whole") (@Str.ofString "is_whole") (T 19) 3 [] vn vn vn (@Value.str (@Str.ofString "pactroom.things") 387) none (vr 177) vn 0)) E)
noncomputable abbrev k183 : Params → Obj := fun P => (Obj.mk (@Value.type "function") none (Data.func (fk (@Str.ofString "shown") (@Str.ofString "shown") (T 20) 3 [] vn vn vn (@Value.str (@Str.ofString "pactroom.things") 387) none (vr 182) vn 0)) E)
noncomputable abbrev k188 : Params → Obj := fun P => (Obj.mk (@Value.type "function") none (Data.func (fk (@Str.ofString "read_thing") (@Str.ofString "read_thing") (T 21) 3 [] vn vn vn (@Value.str (@Str.ofString "pactroom.things") 387) none (vr 187) vn 0)) E)
noncomputable abbrev k195 : Params → Obj := fun P => (Obj.mk (@Value.type "function") none (Data.func (fk (@Str.ofString "is_sign") (@Str.ofString "is_sign") (T 22) 3 [] vn vn vn (@Value.str (@Str.ofString "pactroom.things") 387) none (vr 194) vn 0)) E)
noncomputable abbrev k209 : Params → Obj := fun P => (Obj.mk (@Value.type "function") none (Data.func (fk (@Str.ofString "__init__") (@Str.ofString "Reader.__init__") (N 23 0) 3 [] vn vn vn (@Value.str (@Str.ofString "pactroom.things") 387) none (vr 208) vn 0)) E)
noncomputable abbrev k216 : Params → Obj := fun P => (Obj.mk (@Value.type "function") none (Data.func (fk (@Str.ofString "passes") (@Str.ofString "Reader.passes") (N 23 1) 3 [] vn vn vn (@Value.str (@Str.ofString "pactroom.things") 387) none (vr 215) vn 0)) E)
noncomputable abbrev k223 : Params → Obj := fun P => (Obj.mk (@Value.type "function") none (Data.func (fk (@Str.ofString "read_any") (@Str.ofString "Reader.read_any") (N 23 2) 3 [] vn vn vn (@Value.str (@Str.ofString "pactroom.things") 387) none (vr 222) vn 0)) E)
noncomputable abbrev k230 : Params → Obj := fun P => (Obj.mk (@Value.type "function") none (Data.func (fk (@Str.ofString "read_parts") (@Str.ofString "Reader.read_parts") (N 23 3) 3 [] vn vn vn (@Value.str (@Str.ofString "pactroom.things") 387) none (vr 229) vn 0)) E)
noncomputable abbrev k237 : Params → Obj := fun P => (Obj.mk (@Value.type "function") none (Data.func (fk (@Str.ofString "read_below") (@Str.ofString "Reader.read_below") (N 23 4) 3 [] vn vn vn (@Value.str (@Str.ofString "pactroom.things") 387) none (vr 236) vn 0)) E)
noncomputable abbrev k244 : Params → Obj := fun P => (Obj.mk (@Value.type "function") none (Data.func (fk (@Str.ofString "read_number") (@Str.ofString "Reader.read_number") (N 23 5) 3 [] vn vn vn (@Value.str (@Str.ofString "pactroom.things") 387) none (vr 243) vn 0)) E)
noncomputable abbrev k251 : Params → Obj := fun P => (Obj.mk (@Value.type "function") none (Data.func (fk (@Str.ofString "read_signs") (@Str.ofString "Reader.read_signs") (N 23 6) 3 [] vn vn vn (@Value.str (@Str.ofString "pactroom.things") 387) none (vr 250) vn 0)) E)
noncomputable abbrev k273 : Params → Obj := fun P => (Obj.mk (@Value.type "function") none (Data.func (fk (@Str.ofString "house") (@Str.ofString "Step.house") (N 27 0) 3 [] vn vn vn (@Value.str (@Str.ofString "pactroom.steps") 515) none (vr 272) vn 0)) E)
noncomputable abbrev k280 : Params → Obj := fun P => (Obj.mk (@Value.type "function") none (Data.func (fk (@Str.ofString "lock") (@Str.ofString "Step.lock") (N 27 1) 3 [] vn vn vn (@Value.str (@Str.ofString "pactroom.steps") 515) none (vr 279) vn 0)) E)
noncomputable abbrev k287 : Params → Obj := fun P => (Obj.mk (@Value.type "function") none (Data.func (fk (@Str.ofString "step_done") (@Str.ofString "Step.step_done") (N 27 2) 3 [] vn vn vn (@Value.str (@Str.ofString "pactroom.steps") 515) none (vr 286) vn 0)) E)
noncomputable abbrev k294 : Params → Obj := fun P => (Obj.mk (@Value.type "function") none (Data.func (fk (@Str.ofString "back") (@Str.ofString "Step.back") (N 27 3) 3 [] vn vn vn (@Value.str (@Str.ofString "pactroom.steps") 515) none (vr 293) vn 0)) E)
noncomputable abbrev k301 : Params → Obj := fun P => (Obj.mk (@Value.type "function") none (Data.func (fk (@Str.ofString "sure") (@Str.ofString "Step.sure") (N 27 4) 3 [] vn vn vn (@Value.str (@Str.ofString "pactroom.steps") 515) none (vr 300) vn 0)) E)
noncomputable abbrev k308 : Params → Obj := fun P => (Obj.mk (@Value.type "function") none (Data.func (fk (@Str.ofString "spelled") (@Str.ofString "Step.spelled") (N 27 5) 3 [] vn vn vn (@Value.str (@Str.ofString "pactroom.steps") 515) none (vr 307) vn 0)) E)
noncomputable abbrev k329 : Params → Obj := fun P => (Obj.mk (@Value.type "function") none (Data.func (fk (@Str.ofString "__init__") (@Str.ofString "CellStep.__init__") (N 28 0) 3 [] vn vn vn (@Value.str (@Str.ofString "pactroom.steps") 515) none (vr 328) vn 0)) E)
noncomputable abbrev k336 : Params → Obj := fun P => (Obj.mk (@Value.type "function") none (Data.func (fk (@Str.ofString "house") (@Str.ofString "CellStep.house") (N 28 1) 3 [] vn vn vn (@Value.str (@Str.ofString "pactroom.steps") 515) none (vr 335) vn 0)) E)
noncomputable abbrev k355 : Params → Obj := fun P => (Obj.mk (@Value.type "function") none (Data.func (fk (@Str.ofString "lock") (@Str.ofString "TakeStep.lock") (N 29 0) 3 [] vn vn vn (@Value.str (@Str.ofString "pactroom.steps") 515) none (vr 354) vn 0)) E)
noncomputable abbrev k362 : Params → Obj := fun P => (Obj.mk (@Value.type "function") none (Data.func (fk (@Str.ofString "step_done") (@Str.ofString "TakeStep.step_done") (N 29 1) 3 [] vn vn vn (@Value.str (@Str.ofString "pactroom.steps") 515) none (vr 361) vn 0)) E)
noncomputable abbrev k369 : Params → Obj := fun P => (Obj.mk (@Value.type "function") none (Data.func (fk (@Str.ofString "spelled") (@Str.ofString "TakeStep.spelled") (N 29 2) 3 [] vn vn vn (@Value.str (@Str.ofString "pactroom.steps") 515) none (vr 368) vn 0)) E)
noncomputable abbrev k388 : Params → Obj := fun P => (Obj.mk (@Value.type "function") none (Data.func (fk (@Str.ofString "lock") (@Str.ofString "MeanStep.lock") (N 30 0) 3 [] vn vn vn (@Value.str (@Str.ofString "pactroom.steps") 515) none (vr 387) vn 0)) E)
noncomputable abbrev k395 : Params → Obj := fun P => (Obj.mk (@Value.type "function") none (Data.func (fk (@Str.ofString "step_done") (@Str.ofString "MeanStep.step_done") (N 30 1) 3 [] vn vn vn (@Value.str (@Str.ofString "pactroom.steps") 515) none (vr 394) vn 0)) E)
noncomputable abbrev k402 : Params → Obj := fun P => (Obj.mk (@Value.type "function") none (Data.func (fk (@Str.ofString "spelled") (@Str.ofString "MeanStep.spelled") (N 30 2) 3 [] vn vn vn (@Value.str (@Str.ofString "pactroom.steps") 515) none (vr 401) vn 0)) E)
noncomputable abbrev k421 : Params → Obj := fun P => (Obj.mk (@Value.type "function") none (Data.func (fk (@Str.ofString "__init__") (@Str.ofString "SumStep.__init__") (N 31 0) 3 [] vn vn vn (@Value.str (@Str.ofString "pactroom.steps") 515) none (vr 420) vn 0)) E)
noncomputable abbrev k428 : Params → Obj := fun P => (Obj.mk (@Value.type "function") none (Data.func (fk (@Str.ofString "house") (@Str.ofString "SumStep.house") (N 31 1) 3 [] vn vn vn (@Value.str (@Str.ofString "pactroom.steps") 515) none (vr 427) vn 0)) E)
noncomputable abbrev k435 : Params → Obj := fun P => (Obj.mk (@Value.type "function") none (Data.func (fk (@Str.ofString "lock") (@Str.ofString "SumStep.lock") (N 31 2) 3 [] vn vn vn (@Value.str (@Str.ofString "pactroom.steps") 515) none (vr 434) vn 0)) E)
noncomputable abbrev k442 : Params → Obj := fun P => (Obj.mk (@Value.type "function") none (Data.func (fk (@Str.ofString "step_done") (@Str.ofString "SumStep.step_done") (N 31 3) 3 [] vn vn vn (@Value.str (@Str.ofString "pactroom.steps") 515) none (vr 441) vn 0)) E)
noncomputable abbrev k449 : Params → Obj := fun P => (Obj.mk (@Value.type "function") none (Data.func (fk (@Str.ofString "spelled") (@Str.ofString "SumStep.spelled") (N 31 4) 3 [] vn vn vn (@Value.str (@Str.ofString "pactroom.steps") 515) none (vr 448) vn 0)) E)
noncomputable abbrev k468 : Params → Obj := fun P => (Obj.mk (@Value.type "function") none (Data.func (fk (@Str.ofString "lock") (@Str.ofString "GiveStep.lock") (N 32 0) 3 [] vn vn vn (@Value.str (@Str.ofString "pactroom.steps") 515) none (vr 467) vn 0)) E)
noncomputable abbrev k475 : Params → Obj := fun P => (Obj.mk (@Value.type "function") none (Data.func (fk (@Str.ofString "step_done") (@Str.ofString "GiveStep.step_done") (N 32 1) 3 [] vn vn vn (@Value.str (@Str.ofString "pactroom.steps") 515) none (vr 474) vn 0)) E)
noncomputable abbrev k482 : Params → Obj := fun P => (Obj.mk (@Value.type "function") none (Data.func (fk (@Str.ofString "sure") (@Str.ofString "GiveStep.sure") (N 32 2) 3 [] vn vn vn (@Value.str (@Str.ofString "pactroom.steps") 515) none (vr 481) vn 0)) E)
noncomputable abbrev k489 : Params → Obj := fun P => (Obj.mk (@Value.type "function") none (Data.func (fk (@Str.ofString "spelled") (@Str.ofString "GiveStep.spelled") (N 32 3) 3 [] vn vn vn (@Value.str (@Str.ofString "pactroom.steps") 515) none (vr 488) vn 0)) E)
noncomputable abbrev k508 : Params → Obj := fun P => (Obj.mk (@Value.type "function") none (Data.func (fk (@Str.ofString "__init__") (@Str.ofString "AddStep.__init__") (N 33 0) 3 [] vn vn vn (@Value.str (@Str.ofString "pactroom.steps") 515) none (vr 507) vn 0)) E)
noncomputable abbrev k515 : Params → Obj := fun P => (Obj.mk (@Value.type "function") none (Data.func (fk (@Str.ofString "lock") (@Str.ofString "AddStep.lock") (N 33 1) 3 [] vn vn vn (@Value.str (@Str.ofString "pactroom.steps") 515) none (vr 514) vn 0)) E)
noncomputable abbrev k522 : Params → Obj := fun P => (Obj.mk (@Value.type "function") none (Data.func (fk (@Str.ofString "step_done") (@Str.ofString "AddStep.step_done") (N 33 2) 3 [] vn vn vn (@Value.str (@Str.ofString "pactroom.steps") 515) none (vr 521) vn 0)) E)
noncomputable abbrev k529 : Params → Obj := fun P => (Obj.mk (@Value.type "function") none (Data.func (fk (@Str.ofString "back") (@Str.ofString "AddStep.back") (N 33 3) 3 [] vn vn vn (@Value.str (@Str.ofString "pactroom.steps") 515) none (vr 528) vn 0)) E)
noncomputable abbrev k536 : Params → Obj := fun P => (Obj.mk (@Value.type "function") none (Data.func (fk (@Str.ofString "spelled") (@Str.ofString "AddStep.spelled") (N 33 4) 3 [] vn vn vn (@Value.str (@Str.ofString "pactroom.steps") 515) none (vr 535) vn 0)) E)
noncomputable abbrev k555 : Params → Obj := fun P => (Obj.mk (@Value.type "function") none (Data.func (fk (@Str.ofString "__init__") (@Str.ofString "PlusStep.__init__") (N 34 0) 3 [] vn vn vn (@Value.str (@Str.ofString "pactroom.steps") 515) none (vr 554) vn 0)) E)
noncomputable abbrev k562 : Params → Obj := fun P => (Obj.mk (@Value.type "function") none (Data.func (fk (@Str.ofString "step_done") (@Str.ofString "PlusStep.step_done") (N 34 1) 3 [] vn vn vn (@Value.str (@Str.ofString "pactroom.steps") 515) none (vr 561) vn 0)) E)
noncomputable abbrev k569 : Params → Obj := fun P => (Obj.mk (@Value.type "function") none (Data.func (fk (@Str.ofString "spelled") (@Str.ofString "PlusStep.spelled") (N 34 2) 3 [] vn vn vn (@Value.str (@Str.ofString "pactroom.steps") 515) none (vr 568) vn 0)) E)
noncomputable abbrev k588 : Params → Obj := fun P => (Obj.mk (@Value.type "function") none (Data.func (fk (@Str.ofString "__init__") (@Str.ofString "NeedStep.__init__") (N 35 0) 3 [] vn vn vn (@Value.str (@Str.ofString "pactroom.steps") 515) none (vr 587) vn 0)) E)
noncomputable abbrev k595 : Params → Obj := fun P => (Obj.mk (@Value.type "function") none (Data.func (fk (@Str.ofString "step_done") (@Str.ofString "NeedStep.step_done") (N 35 1) 3 [] vn vn vn (@Value.str (@Str.ofString "pactroom.steps") 515) none (vr 594) vn 0)) E)
noncomputable abbrev k602 : Params → Obj := fun P => (Obj.mk (@Value.type "function") none (Data.func (fk (@Str.ofString "spelled") (@Str.ofString "NeedStep.spelled") (N 35 2) 3 [] vn vn vn (@Value.str (@Str.ofString "pactroom.steps") 515) none (vr 601) vn 0)) E)
noncomputable abbrev k612 : Params → Obj := fun P => (Obj.mk (@Value.type "function") none (Data.func (fk (@Str.ofString "spell") (@Str.ofString "spell") (T 36) 3 [] vn vn vn (@Value.str (@Str.ofString "pactroom.steps") 515) none (vr 611) vn 0)) E)
noncomputable abbrev k617 : Params → Obj := fun P => (Obj.mk (@Value.type "function") none (Data.func (fk (@Str.ofString "read_step") (@Str.ofString "read_step") (T 37) 3 [] vn vn vn (@Value.str (@Str.ofString "pactroom.steps") 515) none (vr 616) vn 0)) E)
noncomputable abbrev k624 : Params → Obj := fun P => (Obj.mk (@Value.type "function") none (Data.func (fk (@Str.ofString "read_number") (@Str.ofString "read_number") (T 38) 3 [] vn vn vn (@Value.str (@Str.ofString "pactroom.steps") 515) none (vr 623) vn 0)) E)
noncomputable abbrev k631 : Params → Obj := fun P => (Obj.mk (@Value.type "function") none (Data.func (fk (@Str.ofString "made_step") (@Str.ofString "made_step") (T 39) 3 [] vn vn vn (@Value.str (@Str.ofString "pactroom.steps") 515) none (vr 630) vn 0)) E)
noncomputable abbrev k638 : Params → Obj := fun P => (Obj.mk (@Value.type "function") none (Data.func (fk (@Str.ofString "made_sum") (@Str.ofString "made_sum") (T 40) 3 [] vn vn vn (@Value.str (@Str.ofString "pactroom.steps") 515) none (vr 637) vn 0)) E)
noncomputable abbrev k645 : Params → Obj := fun P => (Obj.mk (@Value.type "function") none (Data.func (fk (@Str.ofString "_law_whole") (@Str.ofString "_law_whole") (T 42) 3 [] vn vn vn (@Value.str (@Str.ofString "law_pactroom_k21_steps_there_and_back") 1001) none (vr 644) vn 0)) E)
noncomputable abbrev k652 : Params → Obj := fun P => (Obj.mk (@Value.type "function") none (Data.func (fk (@Str.ofString "_law_mixed") (@Str.ofString "_law_mixed") (T 43) 3 [] vn vn vn (@Value.str (@Str.ofString "law_pactroom_k21_steps_there_and_back") 1001) none (vr 651) vn 0)) E)
noncomputable abbrev k659 : Params → Obj := fun P => (Obj.mk (@Value.type "function") none (Data.func (fk (@Str.ofString "_law_number") (@Str.ofString "_law_number") (T 44) 3 [] vn vn vn (@Value.str (@Str.ofString "law_pactroom_k21_steps_there_and_back") 1001) none (vr 658) vn 0)) E)
noncomputable abbrev k666 : Params → Obj := fun P => (Obj.mk (@Value.type "function") none (Data.func (fk (@Str.ofString "_law_either") (@Str.ofString "_law_either") (T 45) 3 [] vn vn vn (@Value.str (@Str.ofString "law_pactroom_k21_steps_there_and_back") 1001) none (vr 665) vn 0)) E)
noncomputable abbrev k673 : Params → Obj := fun P => (Obj.mk (@Value.type "function") none (Data.func (fk (@Str.ofString "_law_step") (@Str.ofString "_law_step") (T 46) 3 [] vn vn vn (@Value.str (@Str.ofString "law_pactroom_k21_steps_there_and_back") 1001) none (vr 672) vn 0)) E)
noncomputable abbrev k678 : Params → Obj := fun P => (Obj.mk (@Value.type "function") none (Data.func (fk (@Str.ofString "_law_text") (@Str.ofString "_law_text") (T 47) 3 [] vn vn vn (@Value.str (@Str.ofString "law_pactroom_k21_steps_there_and_back") 1001) none (vr 677) vn 0)) E)
noncomputable abbrev k685 : Params → Obj := fun P => (Obj.mk (@Value.type "function") none (Data.func (fk (@Str.ofString "_law_made") (@Str.ofString "_law_made") (T 48) 3 [] vn vn vn (@Value.str (@Str.ofString "law_pactroom_k21_steps_there_and_back") 1001) none (vr 684) vn 0)) E)
noncomputable abbrev k692 : Params → Obj := fun P => (Obj.mk (@Value.type "function") none (Data.func (fk (@Str.ofString "_law_lock_right") (@Str.ofString "_law_lock_right") (T 49) 3 [] vn vn vn (@Value.str (@Str.ofString "law_pactroom_k21_steps_there_and_back") 1001) none (vr 691) vn 0)) E)
noncomputable abbrev k699 : Params → Obj := fun P => (Obj.mk (@Value.type "function") none (Data.func (fk (@Str.ofString "_law_right") (@Str.ofString "_law_right") (T 50) 3 [] vn vn vn (@Value.str (@Str.ofString "law_pactroom_k21_steps_there_and_back") 1001) none (vr 698) vn 0)) E)
noncomputable abbrev k706 : Params → Obj := fun P => (Obj.mk (@Value.type "function") none (Data.func (fk (@Str.ofString "law") (@Str.ofString "law") (T 51) 3 [] vn vn vn (@Value.str (@Str.ofString "law_pactroom_k21_steps_there_and_back") 1001) none (vr 705) vn 0)) E)
noncomputable def Kf : Params → Frag := fun P => (nat_lit 2, boot_o_2 P) :: (nat_lit 3, c15_3 P) :: (nat_lit 15, a11 P) :: (nat_lit 17, c0_17 P) :: (nat_lit 18, a11 P) :: (nat_lit 20, c0_20 P) :: (nat_lit 21, k21 P) :: (nat_lit 22, c0_22 P) :: (nat_lit 29, a11 P) :: (nat_lit 30, c0_30 P) :: (nat_lit 31, c1_31 P) :: (nat_lit 32, c0_32 P) :: (nat_lit 35, c0_35 P) :: (nat_lit 42, a11 P) :: (nat_lit 43, c0_43 P) :: (nat_lit 44, c0_44 P) :: (nat_lit 47, c0_35 P) :: (nat_lit 54, a11 P) :: (nat_lit 56, c1_56 P) :: (nat_lit 57, a11 P) :: (nat_lit 59, c1_59 P) :: (nat_lit 60, k60 P) :: (nat_lit 61, c1_61 P) :: (nat_lit 62, c1_62 P) :: (nat_lit 63, c1_63 P) :: (nat_lit 73, a11 P) :: (nat_lit 75, c2_75 P) :: (nat_lit 76, a11 P) :: (nat_lit 78, c2_78 P) :: (nat_lit 79, k79 P) :: (nat_lit 80, a11 P) :: (nat_lit 82, c2_82 P) :: (nat_lit 83, a11 P) :: (nat_lit 85, c2_85 P) :: (nat_lit 86, k86 P) :: (nat_lit 87, a11 P) :: (nat_lit 89, c2_89 P) :: (nat_lit 90, a11 P) :: (nat_lit 92, c2_92 P) :: (nat_lit 93, k93 P) :: (nat_lit 94, a11 P) :: (nat_lit 96, c2_96 P) :: (nat_lit 97, a11 P) :: (nat_lit 99, c2_99 P) :: (nat_lit 100, k100 P) :: (nat_lit 101, a11 P) :: (nat_lit 103, c2_103 P) :: (nat_lit 104, a11 P) :: (nat_lit 106, c2_106 P) :: (nat_lit 107, k107 P) :: (nat_lit 108, c2_108 P) :: (nat_lit 109, c2_109 P) :: (nat_lit 110, c4_110 P) :: (nat_lit 111, c2_111 P) :: (nat_lit 112, c2_112 P) :: (nat_lit 115, c3_115 P) :: (nat_lit 122, a11 P) :: (nat_lit 124, c3_124 P) :: (nat_lit 125, a11 P) :: (nat_lit 127, c3_127 P) :: (nat_lit 128, k128 P) :: (nat_lit 129, a11 P) :: (nat_lit 130, c3_130 P) :: (nat_lit 131, c3_131 P) :: (nat_lit 134, c3_115 P) :: (nat_lit 141, a11 P) :: (nat_lit 143, c3_143 P) :: (nat_lit 144, a11 P) :: (nat_lit 146, c3_146 P) :: (nat_lit 147, k147 P) :: (nat_lit 148, a11 P) :: (nat_lit 149, c3_149 P) :: (nat_lit 150, c3_150 P) :: (nat_lit 153, c3_115 P) :: (nat_lit 160, a11 P) :: (nat_lit 162, c4_162 P) :: (nat_lit 163, a11 P) :: (nat_lit 165, c4_165 P) :: (nat_lit 166, k166 P) :: (nat_lit 167, a11 P) :: (nat_lit 168, c4_168 P) :: (nat_lit 169, c4_169 P) :: (nat_lit 172, a11 P) :: (nat_lit 174, c4_174 P) :: (nat_lit 175, a11 P) :: (nat_lit 177, c4_177 P) :: (nat_lit 178, k178 P) :: (nat_lit 179, a11 P) :: (nat_lit 182, c4_182 P) :: (nat_lit 183, k183 P) :: (nat_lit 184, a11 P) :: (nat_lit 187, c4_187 P) :: (nat_lit 188, k188 P) :: (nat_lit 189, a11 P) :: (nat_lit 191, c4_191 P) :: (nat_lit 192, a11 P) :: (nat_lit 194, c4_194 P) :: (nat_lit 195, k195 P) :: (nat_lit 203, a11 P) :: (nat_lit 205, c5_205 P) :: (nat_lit 206, a11 P) :: (nat_lit 208, c5_208 P) :: (nat_lit 209, k209 P) :: (nat_lit 210, a11 P) :: (nat_lit 212, c5_212 P) :: (nat_lit 213, a11 P) :: (nat_lit 215, c5_215 P) :: (nat_lit 216, k216 P) :: (nat_lit 217, a11 P) :: (nat_lit 219, c5_219 P) :: (nat_lit 220, a11 P) :: (nat_lit 222, c5_222 P) :: (nat_lit 223, k223 P) :: (nat_lit 224, a11 P) :: (nat_lit 226, c5_226 P) :: (nat_lit 227, a11 P) :: (nat_lit 229, c5_229 P) :: (nat_lit 230, k230 P) :: (nat_lit 231, a11 P) :: (nat_lit 233, c5_233 P) :: (nat_lit 234, a11 P) :: (nat_lit 236, c5_236 P) :: (nat_lit 237, k237 P) :: (nat_lit 238, a11 P) :: (nat_lit 240, c5_240 P) :: (nat_lit 241, a11 P) :: (nat_lit 243, c5_243 P) :: (nat_lit 244, k244 P) :: (nat_lit 245, a11 P) :: (nat_lit 247, c5_247 P) :: (nat_lit 248, a11 P) :: (nat_lit 250, c5_250 P) :: (nat_lit 251, k251 P) :: (nat_lit 252, c5_252 P) :: (nat_lit 253, c5_253 P) :: (nat_lit 254, c5_254 P) :: (nat_lit 255, c5_255 P) :: (nat_lit 256, c5_256 P) :: (nat_lit 259, c6_259 P) :: (nat_lit 267, a11 P) :: (nat_lit 269, c6_269 P) :: (nat_lit 270, a11 P) :: (nat_lit 272, c6_272 P) :: (nat_lit 273, k273 P) :: (nat_lit 274, a11 P) :: (nat_lit 276, c6_276 P) :: (nat_lit 277, a11 P) :: (nat_lit 279, c6_279 P) :: (nat_lit 280, k280 P) :: (nat_lit 281, a11 P) :: (nat_lit 283, c6_283 P) :: (nat_lit 284, a11 P) :: (nat_lit 286, c6_286 P) :: (nat_lit 287, k287 P) :: (nat_lit 288, a11 P) :: (nat_lit 290, c6_290 P) :: (nat_lit 291, a11 P) :: (nat_lit 293, c6_293 P) :: (nat_lit 294, k294 P) :: (nat_lit 295, a11 P) :: (nat_lit 297, c6_297 P) :: (nat_lit 298, a11 P) :: (nat_lit 300, c6_300 P) :: (nat_lit 301, k301 P) :: (nat_lit 302, a11 P) :: (nat_lit 304, c6_304 P) :: (nat_lit 305, a11 P) :: (nat_lit 307, c6_307 P) :: (nat_lit 308, k308 P) :: (nat_lit 309, a11 P) :: (nat_lit 310, c6_310 P) :: (nat_lit 311, c14_311 P) :: (nat_lit 312, c6_312 P) :: (nat_lit 313, c6_313 P) :: (nat_lit 316, c7_316 P) :: (nat_lit 323, a11 P) :: (nat_lit 325, c7_325 P) :: (nat_lit 326, a11 P) :: (nat_lit 328, c7_328 P) :: (nat_lit 329, k329 P) :: (nat_lit 330, a11 P) :: (nat_lit 332, c7_332 P) :: (nat_lit 333, a11 P) :: (nat_lit 335, c7_335 P) :: (nat_lit 336, k336 P) :: (nat_lit 337, c7_337 P) :: (nat_lit 338, c7_338 P) :: (nat_lit 339, c12_339 P) :: (nat_lit 342, c8_342 P) :: (nat_lit 349, a11 P) :: (nat_lit 351, c8_351 P) :: (nat_lit 352, a11 P) :: (nat_lit 354, c8_354 P) :: (nat_lit 355, k355 P) :: (nat_lit 356, a11 P) :: (nat_lit 358, c8_358 P) :: (nat_lit 359, a11 P) :: (nat_lit 361, c8_361 P) :: (nat_lit 362, k362 P) :: (nat_lit 363, a11 P) :: (nat_lit 365, c8_365 P) :: (nat_lit 366, a11 P) :: (nat_lit 368, c8_368 P) :: (nat_lit 369, k369 P) :: (nat_lit 370, a11 P) :: (nat_lit 371, c8_371 P) :: (nat_lit 372, c8_372 P) :: (nat_lit 375, c8_342 P) :: (nat_lit 382, a11 P) :: (nat_lit 384, c9_384 P) :: (nat_lit 385, a11 P) :: (nat_lit 387, c9_387 P) :: (nat_lit 388, k388 P) :: (nat_lit 389, a11 P) :: (nat_lit 391, c9_391 P) :: (nat_lit 392, a11 P) :: (nat_lit 394, c9_394 P) :: (nat_lit 395, k395 P) :: (nat_lit 396, a11 P) :: (nat_lit 398, c9_398 P) :: (nat_lit 399, a11 P) :: (nat_lit 401, c9_401 P) :: (nat_lit 402, k402 P) :: (nat_lit 403, a11 P) :: (nat_lit 404, c9_404 P) :: (nat_lit 405, c9_405 P) :: (nat_lit 408, c7_316 P) :: (nat_lit 415, a11 P) :: (nat_lit 417, c10_417 P) :: (nat_lit 418, a11 P) :: (nat_lit 420, c10_420 P) :: (nat_lit 421, k421 P) :: (nat_lit 422, a11 P) :: (nat_lit 424, c10_424 P) :: (nat_lit 425, a11 P) :: (nat_lit 427, c10_427 P) :: (nat_lit 428, k428 P) :: (nat_lit 429, a11 P) :: (nat_lit 431, c10_431 P) :: (nat_lit 432, a11 P) :: (nat_lit 434, c10_434 P) :: (nat_lit 435, k435 P) :: (nat_lit 436, a11 P) :: (nat_lit 438, c10_438 P) :: (nat_lit 439, a11 P) :: (nat_lit 441, c10_441 P) :: (nat_lit 442, k442 P) :: (nat_lit 443, a11 P) :: (nat_lit 445, c10_445 P) :: (nat_lit 446, a11 P) :: (nat_lit 448, c10_448 P) :: (nat_lit 449, k449 P) :: (nat_lit 450, c10_450 P) :: (nat_lit 451, c10_451 P) :: (nat_lit 452, c10_452 P) :: (nat_lit 455, c8_342 P) :: (nat_lit 462, a11 P) :: (nat_lit 464, c11_464 P) :: (nat_lit 465, a11 P) :: (nat_lit 467, c11_467 P) :: (nat_lit 468, k468 P) :: (nat_lit 469, a11 P) :: (nat_lit 471, c11_471 P) :: (nat_lit 472, a11 P) :: (nat_lit 474, c11_474 P) :: (nat_lit 475, k475 P) :: (nat_lit 476, a11 P) :: (nat_lit 478, c11_478 P) :: (nat_lit 479, a11 P) :: (nat_lit 481, c11_481 P) :: (nat_lit 482, k482 P) :: (nat_lit 483, a11 P) :: (nat_lit 485, c11_485 P) :: (nat_lit 486, a11 P) :: (nat_lit 488, c11_488 P) :: (nat_lit 489, k489 P) :: (nat_lit 490, a11 P) :: (nat_lit 491, c11_491 P) :: (nat_lit 492, c11_492 P) :: (nat_lit 495, c8_342 P) :: (nat_lit 502, a11 P) :: (nat_lit 504, c12_504 P) :: (nat_lit 505, a11 P) :: (nat_lit 507, c12_507 P) :: (nat_lit 508, k508 P) :: (nat_lit 509, a11 P) :: (nat_lit 511, c12_511 P) :: (nat_lit 512, a11 P) :: (nat_lit 514, c12_514 P) :: (nat_lit 515, k515 P) :: (nat_lit 516, a11 P) :: (nat_lit 518, c12_518 P) :: (nat_lit 519, a11 P) :: (nat_lit 521, c12_521 P) :: (nat_lit 522, k522 P) :: (nat_lit 523, a11 P) :: (nat_lit 525, c12_525 P) :: (nat_lit 526, a11 P) :: (nat_lit 528, c12_528 P) :: (nat_lit 529, k529 P) :: (nat_lit 530, a11 P) :: (nat_lit 532, c12_532 P) :: (nat_lit 533, a11 P) :: (nat_lit 535, c12_535 P) :: (nat_lit 536, k536 P) :: (nat_lit 537, c12_537 P) :: (nat_lit 538, c12_538 P) :: (nat_lit 539, c12_539 P) :: (nat_lit 542, c7_316 P) :: (nat_lit 549, a11 P) :: (nat_lit 551, c13_551 P) :: (nat_lit 552, a11 P) :: (nat_lit 554, c13_554 P) :: (nat_lit 555, k555 P) :: (nat_lit 556, a11 P) :: (nat_lit 558, c13_558 P) :: (nat_lit 559, a11 P) :: (nat_lit 561, c13_561 P) :: (nat_lit 562, k562 P) :: (nat_lit 563, a11 P) :: (nat_lit 565, c13_565 P) :: (nat_lit 566, a11 P) :: (nat_lit 568, c13_568 P) :: (nat_lit 569, k569 P) :: (nat_lit 570, c13_570 P) :: (nat_lit 571, c13_571 P) :: (nat_lit 572, c13_572 P) :: (nat_lit 575, c7_316 P) :: (nat_lit 582, a11 P) :: (nat_lit 584, c14_584 P) :: (nat_lit 585, a11 P) :: (nat_lit 587, c14_587 P) :: (nat_lit 588, k588 P) :: (nat_lit 589, a11 P) :: (nat_lit 591, c14_591 P) :: (nat_lit 592, a11 P) :: (nat_lit 594, c14_594 P) :: (nat_lit 595, k595 P) :: (nat_lit 596, a11 P) :: (nat_lit 598, c14_598 P) :: (nat_lit 599, a11 P) :: (nat_lit 601, c14_601 P) :: (nat_lit 602, k602 P) :: (nat_lit 603, c14_603 P) :: (nat_lit 604, c14_604 P) :: (nat_lit 605, c14_605 P) :: (nat_lit 608, a11 P) :: (nat_lit 611, c14_611 P) :: (nat_lit 612, k612 P) :: (nat_lit 613, a11 P) :: (nat_lit 616, c14_616 P) :: (nat_lit 617, k617 P) :: (nat_lit 618, a11 P) :: (nat_lit 620, c14_620 P) :: (nat_lit 621, a11 P) :: (nat_lit 623, c14_623 P) :: (nat_lit 624, k624 P) :: (nat_lit 625, a11 P) :: (nat_lit 627, c14_627 P) :: (nat_lit 628, a11 P) :: (nat_lit 630, c14_630 P) :: (nat_lit 631, k631 P) :: (nat_lit 632, a11 P) :: (nat_lit 634, c14_634 P) :: (nat_lit 635, a11 P) :: (nat_lit 637, c14_637 P) :: (nat_lit 638, k638 P) :: (nat_lit 639, a11 P) :: (nat_lit 641, c14_641 P) :: (nat_lit 642, a11 P) :: (nat_lit 644, c14_644 P) :: (nat_lit 645, k645 P) :: (nat_lit 646, a11 P) :: (nat_lit 648, c14_648 P) :: (nat_lit 649, a11 P) :: (nat_lit 651, c14_651 P) :: (nat_lit 652, k652 P) :: (nat_lit 653, a11 P) :: (nat_lit 655, c15_655 P) :: (nat_lit 656, a11 P) :: (nat_lit 658, c15_658 P) :: (nat_lit 659, k659 P) :: (nat_lit 660, a11 P) :: (nat_lit 662, c15_662 P) :: (nat_lit 663, a11 P) :: (nat_lit 665, c15_665 P) :: (nat_lit 666, k666 P) :: (nat_lit 667, a11 P) :: (nat_lit 669, c15_669 P) :: (nat_lit 670, a11 P) :: (nat_lit 672, c15_672 P) :: (nat_lit 673, k673 P) :: (nat_lit 674, a11 P) :: (nat_lit 677, c15_677 P) :: (nat_lit 678, k678 P) :: (nat_lit 679, a11 P) :: (nat_lit 681, c15_681 P) :: (nat_lit 682, a11 P) :: (nat_lit 684, c15_684 P) :: (nat_lit 685, k685 P) :: (nat_lit 686, a11 P) :: (nat_lit 688, c15_688 P) :: (nat_lit 689, a11 P) :: (nat_lit 691, c15_691 P) :: (nat_lit 692, k692 P) :: (nat_lit 693, a11 P) :: (nat_lit 695, c15_695 P) :: (nat_lit 696, a11 P) :: (nat_lit 698, c15_698 P) :: (nat_lit 699, k699 P) :: (nat_lit 700, a11 P) :: (nat_lit 702, c15_702 P) :: (nat_lit 703, a11 P) :: (nat_lit 705, c15_705 P) :: (nat_lit 706, k706 P) :: []
noncomputable def Ka : List Addr := [2, 3, 15, 17, 18, 20, 21, 22, 29, 30, 31, 32, 35, 42, 43, 44, 47, 54, 56, 57, 59, 60, 61, 62, 63, 73, 75, 76, 78, 79, 80, 82, 83, 85, 86, 87, 89, 90, 92, 93, 94, 96, 97, 99, 100, 101, 103, 104, 106, 107, 108, 109, 110, 111, 112, 115, 122, 124, 125, 127, 128, 129, 130, 131, 134, 141, 143, 144, 146, 147, 148, 149, 150, 153, 160, 162, 163, 165, 166, 167, 168, 169, 172, 174, 175, 177, 178, 179, 182, 183, 184, 187, 188, 189, 191, 192, 194, 195, 203, 205, 206, 208, 209, 210, 212, 213, 215, 216, 217, 219, 220, 222, 223, 224, 226, 227, 229, 230, 231, 233, 234, 236, 237, 238, 240, 241, 243, 244, 245, 247, 248, 250, 251, 252, 253, 254, 255, 256, 259, 267, 269, 270, 272, 273, 274, 276, 277, 279, 280, 281, 283, 284, 286, 287, 288, 290, 291, 293, 294, 295, 297, 298, 300, 301, 302, 304, 305, 307, 308, 309, 310, 311, 312, 313, 316, 323, 325, 326, 328, 329, 330, 332, 333, 335, 336, 337, 338, 339, 342, 349, 351, 352, 354, 355, 356, 358, 359, 361, 362, 363, 365, 366, 368, 369, 370, 371, 372, 375, 382, 384, 385, 387, 388, 389, 391, 392, 394, 395, 396, 398, 399, 401, 402, 403, 404, 405, 408, 415, 417, 418, 420, 421, 422, 424, 425, 427, 428, 429, 431, 432, 434, 435, 436, 438, 439, 441, 442, 443, 445, 446, 448, 449, 450, 451, 452, 455, 462, 464, 465, 467, 468, 469, 471, 472, 474, 475, 476, 478, 479, 481, 482, 483, 485, 486, 488, 489, 490, 491, 492, 495, 502, 504, 505, 507, 508, 509, 511, 512, 514, 515, 516, 518, 519, 521, 522, 523, 525, 526, 528, 529, 530, 532, 533, 535, 536, 537, 538, 539, 542, 549, 551, 552, 554, 555, 556, 558, 559, 561, 562, 563, 565, 566, 568, 569, 570, 571, 572, 575, 582, 584, 585, 587, 588, 589, 591, 592, 594, 595, 596, 598, 599, 601, 602, 603, 604, 605, 608, 611, 612, 613, 616, 617, 618, 620, 621, 623, 624, 625, 627, 628, 630, 631, 632, 634, 635, 637, 638, 639, 641, 642, 644, 645, 646, 648, 649, 651, 652, 653, 655, 656, 658, 659, 660, 662, 663, 665, 666, 667, 669, 670, 672, 673, 674, 677, 678, 679, 681, 682, 684, 685, 686, 688, 689, 691, 692, 693, 695, 696, 698, 699, 700, 702, 703, 705, 706]
theorem ke (P : Params) : Ka = (Kf P).map (·.1) := by kernel_rfl
noncomputable abbrev HK : Hook := kHook Kf Ka ke
noncomputable abbrev R : RowW := PySem.Challenge.rw_pactroom_k21_steps_there_and_back.row.toRowW
noncomputable abbrev lo : List Str := [Str.ofString "SHAPES"]
noncomputable abbrev lvv : List (Str × WData) := []
noncomputable def qv : Program := { p0 with main := { p0.main with body := [T 0, T 2, T 3, T 4, T 6, T 7, T 8, T 9, T 11, T 12, T 13, T 14, T 15, T 16, T 17, T 18, T 19, T 20, T 21, T 22, T 23, T 25, T 26, T 27, T 28, T 29, T 30, T 31, T 32, T 33, T 34, T 35, T 36, T 37, T 38, T 39, T 40, T 42, T 43, T 44, T 45, T 46, T 47, T 48, T 49, T 50, T 51] } }
noncomputable abbrev Xt : Shared → Bool := fun s => xlAt qv lvv s && recOk (RowW.records R) s
theorem size_l (w : World) : ((boot_heap w.params).isNs mainGlobals && (A [] : Array GenState).size == 0, (boot_heap w.params).objs.size, (boot_heap w.params).nsMap mainGlobals "__annotations__") = (true, 11, (sr 6)) := by kernel_rfl
theorem look1 (w : World) (os : OsState) : (staticsOk (importedModules p0.main.body) (boot_heap w.params) (H1 w.params) && namesBound p0 (H1 w.params) && gensDone ⟨H1 w.params, Array.mk [], (@Drawn.mk 0 0 0 0), 1088, os⟩ && laidKept (boot_heap w.params) (H1 w.params)) = true := by kernel_rfl
theorem look2 (w : World) (os : OsState) : openSeen qv lo (importedModules p0.main.body) Xt true ⟨H1 w.params, Array.mk [], (@Drawn.mk 0 0 0 0), 1088, os⟩ = openGood qv lo := by kernel_rfl
theorem look3 (w : World) (os : OsState) : Hook.obs HK ⟨H1 w.params, Array.mk [], (@Drawn.mk 0 0 0 0), 1088, os⟩ = Hook.val HK w := by kernel_rfl
theorem left : LeftO p0 qv lo Xt (Hook.obs HK) (Hook.val HK) 12130 := LeftO.of_pieces (boot_open (by kernel_rfl) (by kernel_rfl) (fun s => by kernel_rfl)) size_l run_l (by decide) fun w => funext fun os => looks_pair (look1 w os) (looks_pair (look2 w os) (look3 w os))
end
end Q
end

set_option maxHeartbeats 4000000
namespace K21
open PySem L2 Lo St
def kmk (a b c : Addr) : Kd → Addr
  | .read => a
  | .mean => b
  | .change => c
def wmk (a b c d e f g : Addr) : Wd → Addr
  | .take => a
  | .mean => b
  | .sum => c
  | .give => d
  | .add => e
  | .plus => f
  | .need => g
abbrev bmV : List Value := [.type "ValueError", .type "Exception", .type "BaseException", .type "object"]
theorem all_mk {l : PySem.W.OpenLaw} {w : World} {K : PySem.W.Frag} {h : Heap} {mg : Str → Option Value} {fa CR fkR CM fkM CC fkC fi ft CRd fri frp fra frb frn frx WA fxiY fxhY fxlA fxsZ fxpA WB fxlB fxpB WD fxiD fxhD fxlD fxpD WE fxlE fxsE fxpE WF fxiF fxlF fxpF WG fxiG fxhZ fxlZ fxpG WN fxiN fxpN CB CY fW1 fH1 fR1 fG1 fP1 fS1 fN1 fM1 fU1 fW2 fX2 fN2 fE2 fS2 fT2 fM2 fL2 fR2 fZ aSh CNo : Addr} (X : K.In h) (G : h.Ns mainGlobals mg) (hfa : mg "law" = some (.ref fa))
    {odkR ankR odkM ankM odkC ankC odi ani odt ant odri anri odrp anrp odra anra odrb anrb odrn anrn odrx anrx odxiY anxiY odxhY anxhY odxlA anxlA odxsZ anxsZ odxpA anxpA odxlB anxlB odxpB anxpB odxiD anxiD odxhD anxhD odxlD anxlD odxpD anxpD odxlE anxlE odxsE anxsE odxpE anxpE odxiF anxiF odxlF anxlF odxpF anxpF odxiG anxiG odxhZ anxhZ odxlZ anxlZ odxpG anxpG odxiN anxiN odxpN anxpN odW1 anW1 odH1 anH1 odR1 anR1 odG1 anG1 odP1 anP1 odS1 anS1 odN1 anN1 odM1 anM1 odU1 anU1 odW2 anW2 odX2 anX2 odN2 anN2 odE2 anE2 odS2 anS2 odT2 anT2 odM2 anM2 odL2 anL2 odR2 anR2 odZ anZ : Option Addr} {slkR slkM slkC sli slt slri slrp slra slrb slrn slrx slxiY slxhY slxlA slxsZ slxpA slxlB slxpB slxiD slxhD slxlD slxpD slxlE slxsE slxpE slxiF slxlF slxpF slxiG slxhZ slxlZ slxpG slxiN slxpN slW1 slH1 slR1 slG1 slP1 slS1 slN1 slM1 slU1 slW2 slX2 slN2 slE2 slS2 slT2 slM2 slL2 slR2 slZ : Array (Option Value)} {ockR kVkR dckR pmkR cdkR ctkR ockM kVkM dckM pmkM cdkM ctkM ockC kVkC dckC pmkC cdkC ctkC oci kVi dci pmi cdi cti oct kVt dct pmt cdt ctt ocri kVri dcri pmri cdri ctri ocrp kVrp dcrp pmrp cdrp ctrp ocra kVra dcra pmra cdra ctra ocrb kVrb dcrb pmrb cdrb ctrb ocrn kVrn dcrn pmrn cdrn ctrn ocrx kVrx dcrx pmrx cdrx ctrx ocxiY kVxiY dcxiY pmxiY cdxiY ctxiY ocxhY kVxhY dcxhY pmxhY cdxhY ctxhY ocxlA kVxlA dcxlA pmxlA cdxlA ctxlA ocxsZ kVxsZ dcxsZ pmxsZ cdxsZ ctxsZ ocxpA kVxpA dcxpA pmxpA cdxpA ctxpA ocxlB kVxlB dcxlB pmxlB cdxlB ctxlB ocxpB kVxpB dcxpB pmxpB cdxpB ctxpB ocxiD kVxiD dcxiD pmxiD cdxiD ctxiD ocxhD kVxhD dcxhD pmxhD cdxhD ctxhD ocxlD kVxlD dcxlD pmxlD cdxlD ctxlD ocxpD kVxpD dcxpD pmxpD cdxpD ctxpD ocxlE kVxlE dcxlE pmxlE cdxlE ctxlE ocxsE kVxsE dcxsE pmxsE cdxsE ctxsE ocxpE kVxpE dcxpE pmxpE cdxpE ctxpE ocxiF kVxiF dcxiF pmxiF cdxiF ctxiF ocxlF kVxlF dcxlF pmxlF cdxlF ctxlF ocxpF kVxpF dcxpF pmxpF cdxpF ctxpF ocxiG kVxiG dcxiG pmxiG cdxiG ctxiG ocxhZ kVxhZ dcxhZ pmxhZ cdxhZ ctxhZ ocxlZ kVxlZ dcxlZ pmxlZ cdxlZ ctxlZ ocxpG kVxpG dcxpG pmxpG cdxpG ctxpG ocxiN kVxiN dcxiN pmxiN cdxiN ctxiN ocxpN kVxpN dcxpN pmxpN cdxpN ctxpN ocW1 kVW1 dcW1 pmW1 cdW1 ctW1 ocH1 kVH1 dcH1 pmH1 cdH1 ctH1 ocR1 kVR1 dcR1 pmR1 cdR1 ctR1 ocG1 kVG1 dcG1 pmG1 cdG1 ctG1 ocP1 kVP1 dcP1 pmP1 cdP1 ctP1 ocS1 kVS1 dcS1 pmS1 cdS1 ctS1 ocN1 kVN1 dcN1 pmN1 cdN1 ctN1 ocM1 kVM1 dcM1 pmM1 cdM1 ctM1 ocU1 kVU1 dcU1 pmU1 cdU1 ctU1 ocW2 kVW2 dcW2 pmW2 cdW2 ctW2 ocX2 kVX2 dcX2 pmX2 cdX2 ctX2 ocN2 kVN2 dcN2 pmN2 cdN2 ctN2 ocE2 kVE2 dcE2 pmE2 cdE2 ctE2 ocS2 kVS2 dcS2 pmS2 cdS2 ctS2 ocT2 kVT2 dcT2 pmT2 cdT2 ctT2 ocM2 kVM2 dcM2 pmM2 cdM2 ctM2 ocL2 kVL2 dcL2 pmL2 cdL2 ctL2 ocR2 kVR2 dcR2 pmR2 cdR2 ctR2 ocZ kVZ dcZ pmZ cdZ ctZ : Value} {t_MOST_FIGURES_things t_MOST_SIGNS t_MOST_PARTS t_MOST_DEEP t_LONGEST t_BLANK t_PERCENT t_TILDE t_MOST_FIGURES_steps : Tok} {esR : Array DictEntry} {epR : Nat}
    (nR : PySem.W.nsIn K mainGlobals "Read" = some (some (.ref CR)))
    (pgR : PySem.W.plainGet K CR Str.empty = true)
    (hdR : PySem.W.hasDictIn K CR = true)
    (poR : PySem.W.plainOver K CR = true)
    (saR : PySem.W.findIn K (.ref CR) "__setattr__" = some (some (.builtin "object.__setattr__")))
    (mkR : PySem.W.makesIn K CR = true)
    (kcR : PySem.W.keepIn K (.ref CR) = true)
    (nFR : PySem.W.findIn K (.ref CR) "first" = some none)
    (nLR : PySem.W.findIn K (.ref CR) "last" = some none)
    (akR : PySem.W.findIn K (.ref CR) "kind" = some (some (.ref fkR)))
    (jkR : PySem.W.isFn K (.ref fkR) = true)
    (lkR : K.lookup fkR = some ⟨ockR, odkR, .func (PySem.W.fnOf "kind" "Read.kind" (defArgs m_Read_kind) (defBody m_Read_kind) (defScope m_Read_kind) .none kVkR dckR pmkR ankR cdkR ctkR), slkR⟩)
    (ckR : PySem.W.codeIn K cdkR "Read.kind" = true)
    (ekR : PySem.W.keepIn K (.ref fkR) = true)
    (nM : PySem.W.nsIn K mainGlobals "Mean" = some (some (.ref CM)))
    (pgM : PySem.W.plainGet K CM Str.empty = true)
    (hdM : PySem.W.hasDictIn K CM = true)
    (poM : PySem.W.plainOver K CM = true)
    (saM : PySem.W.findIn K (.ref CM) "__setattr__" = some (some (.builtin "object.__setattr__")))
    (mkM : PySem.W.makesIn K CM = true)
    (kcM : PySem.W.keepIn K (.ref CM) = true)
    (nFM : PySem.W.findIn K (.ref CM) "first" = some none)
    (nLM : PySem.W.findIn K (.ref CM) "last" = some none)
    (akM : PySem.W.findIn K (.ref CM) "kind" = some (some (.ref fkM)))
    (jkM : PySem.W.isFn K (.ref fkM) = true)
    (lkM : K.lookup fkM = some ⟨ockM, odkM, .func (PySem.W.fnOf "kind" "Mean.kind" (defArgs m_Mean_kind) (defBody m_Mean_kind) (defScope m_Mean_kind) .none kVkM dckM pmkM ankM cdkM ctkM), slkM⟩)
    (ckM : PySem.W.codeIn K cdkM "Mean.kind" = true)
    (ekM : PySem.W.keepIn K (.ref fkM) = true)
    (nC : PySem.W.nsIn K mainGlobals "Change" = some (some (.ref CC)))
    (pgC : PySem.W.plainGet K CC Str.empty = true)
    (hdC : PySem.W.hasDictIn K CC = true)
    (poC : PySem.W.plainOver K CC = true)
    (saC : PySem.W.findIn K (.ref CC) "__setattr__" = some (some (.builtin "object.__setattr__")))
    (mkC : PySem.W.makesIn K CC = true)
    (kcC : PySem.W.keepIn K (.ref CC) = true)
    (nFC : PySem.W.findIn K (.ref CC) "first" = some none)
    (nLC : PySem.W.findIn K (.ref CC) "last" = some none)
    (akC : PySem.W.findIn K (.ref CC) "kind" = some (some (.ref fkC)))
    (jkC : PySem.W.isFn K (.ref fkC) = true)
    (lkC : K.lookup fkC = some ⟨ockC, odkC, .func (PySem.W.fnOf "kind" "Change.kind" (defArgs m_Change_kind) (defBody m_Change_kind) (defScope m_Change_kind) .none kVkC dckC pmkC ankC cdkC ctkC), slkC⟩)
    (ckC : PySem.W.codeIn K cdkC "Change.kind" = true)
    (ekC : PySem.W.keepIn K (.ref fkC) = true)
    (aiR : PySem.W.findIn K (.ref CR) "__init__" = some (some (.ref fi)))
    (aiM : PySem.W.findIn K (.ref CM) "__init__" = some (some (.ref fi)))
    (aiC : PySem.W.findIn K (.ref CC) "__init__" = some (some (.ref fi)))
    (ji : PySem.W.isFn K (.ref fi) = true)
    (li : K.lookup fi = some ⟨oci, odi, .func (PySem.W.fnOf "__init__" "Lock.__init__" (defArgs m_Lock_init) (defBody m_Lock_init) (defScope m_Lock_init) .none kVi dci pmi ani cdi cti), sli⟩)
    (ci : PySem.W.codeIn K cdi "Lock.__init__" = true)
    (ei : PySem.W.keepIn K (.ref fi) = true)
    (atR : PySem.W.findIn K (.ref CR) "told" = some (some (.ref ft)))
    (atM : PySem.W.findIn K (.ref CM) "told" = some (some (.ref ft)))
    (atC : PySem.W.findIn K (.ref CC) "told" = some (some (.ref ft)))
    (jt : PySem.W.isFn K (.ref ft) = true)
    (lt : K.lookup ft = some ⟨oct, odt, .func (PySem.W.fnOf "told" "Lock.told" (defArgs m_Lock_told) (defBody m_Lock_told) (defScope m_Lock_told) .none kVt dct pmt ant cdt ctt), slt⟩)
    (ct : PySem.W.codeIn K cdt "Lock.told" = true)
    (et : PySem.W.keepIn K (.ref ft) = true)
    (nrd : PySem.W.nsIn K mainGlobals "Reader" = some (some (.ref CRd)))
    (pgrd : PySem.W.plainGet K CRd Str.empty = true)
    (hdrd : PySem.W.hasDictIn K CRd = true)
    (pord : PySem.W.plainOver K CRd = true)
    (sard : PySem.W.findIn K (.ref CRd) "__setattr__" = some (some (.builtin "object.__setattr__")))
    (mkrd : PySem.W.makesIn K CRd = true)
    (kcrd : PySem.W.keepIn K (.ref CRd) = true)
    (nTx : PySem.W.findIn K (.ref CRd) "text" = some none)
    (nPl : PySem.W.findIn K (.ref CRd) "place" = some none)
    (ari : PySem.W.findIn K (.ref CRd) "__init__" = some (some (.ref fri)))
    (jri : PySem.W.isFn K (.ref fri) = true)
    (lri : K.lookup fri = some ⟨ocri, odri, .func (PySem.W.fnOf "__init__" "Reader.__init__" (defArgs m_Reader_init) (defBody m_Reader_init) (defScope m_Reader_init) .none kVri dcri pmri anri cdri ctri), slri⟩)
    (cri : PySem.W.codeIn K cdri "Reader.__init__" = true)
    (eri : PySem.W.keepIn K (.ref fri) = true)
    (arp : PySem.W.findIn K (.ref CRd) "passes" = some (some (.ref frp)))
    (jrp : PySem.W.isFn K (.ref frp) = true)
    (lrp : K.lookup frp = some ⟨ocrp, odrp, .func (PySem.W.fnOf "passes" "Reader.passes" (defArgs m_Reader_passes) (defBody m_Reader_passes) (defScope m_Reader_passes) .none kVrp dcrp pmrp anrp cdrp ctrp), slrp⟩)
    (crp : PySem.W.codeIn K cdrp "Reader.passes" = true)
    (erp : PySem.W.keepIn K (.ref frp) = true)
    (ara : PySem.W.findIn K (.ref CRd) "read_any" = some (some (.ref fra)))
    (jra : PySem.W.isFn K (.ref fra) = true)
    (lra : K.lookup fra = some ⟨ocra, odra, .func (PySem.W.fnOf "read_any" "Reader.read_any" (defArgs m_Reader_read_any) (defBody m_Reader_read_any) (defScope m_Reader_read_any) .none kVra dcra pmra anra cdra ctra), slra⟩)
    (cra : PySem.W.codeIn K cdra "Reader.read_any" = true)
    (era : PySem.W.keepIn K (.ref fra) = true)
    (arb : PySem.W.findIn K (.ref CRd) "read_below" = some (some (.ref frb)))
    (jrb : PySem.W.isFn K (.ref frb) = true)
    (lrb : K.lookup frb = some ⟨ocrb, odrb, .func (PySem.W.fnOf "read_below" "Reader.read_below" (defArgs m_Reader_read_below) (defBody m_Reader_read_below) (defScope m_Reader_read_below) .none kVrb dcrb pmrb anrb cdrb ctrb), slrb⟩)
    (crb : PySem.W.codeIn K cdrb "Reader.read_below" = true)
    (erb : PySem.W.keepIn K (.ref frb) = true)
    (arn : PySem.W.findIn K (.ref CRd) "read_number" = some (some (.ref frn)))
    (jrn : PySem.W.isFn K (.ref frn) = true)
    (lrn : K.lookup frn = some ⟨ocrn, odrn, .func (PySem.W.fnOf "read_number" "Reader.read_number" (defArgs m_Reader_read_number) (defBody m_Reader_read_number) (defScope m_Reader_read_number) .none kVrn dcrn pmrn anrn cdrn ctrn), slrn⟩)
    (crn : PySem.W.codeIn K cdrn "Reader.read_number" = true)
    (ern : PySem.W.keepIn K (.ref frn) = true)
    (arx : PySem.W.findIn K (.ref CRd) "read_signs" = some (some (.ref frx)))
    (jrx : PySem.W.isFn K (.ref frx) = true)
    (lrx : K.lookup frx = some ⟨ocrx, odrx, .func (PySem.W.fnOf "read_signs" "Reader.read_signs" (defArgs m_Reader_read_signs) (defBody m_Reader_read_signs) (defScope m_Reader_read_signs) .none kVrx dcrx pmrx anrx cdrx ctrx), slrx⟩)
    (crx : PySem.W.codeIn K cdrx "Reader.read_signs" = true)
    (erx : PySem.W.keepIn K (.ref frx) = true)
    (nwA : PySem.W.nsIn K mainGlobals "TakeStep" = some (some (.ref WA)))
    (pgwA : PySem.W.plainGet K WA Str.empty = true)
    (hdwA : PySem.W.hasDictIn K WA = true)
    (powA : PySem.W.plainOver K WA = true)
    (sawA : PySem.W.findIn K (.ref WA) "__setattr__" = some (some (.builtin "object.__setattr__")))
    (mkwA : PySem.W.makesIn K WA = true)
    (kcwA : PySem.W.keepIn K (.ref WA) = true)
    (nWwA : PySem.W.findIn K (.ref WA) "where" = some none)
    (nCwA : PySem.W.findIn K (.ref WA) "cell" = some none)
    (nLwA : PySem.W.findIn K (.ref WA) "low" = some none)
    (nHwA : PySem.W.findIn K (.ref WA) "high" = some none)
    (nAwA : PySem.W.findIn K (.ref WA) "amount" = some none)
    (uxiYA : PySem.W.findIn K (.ref WA) "__init__" = some (some (.ref fxiY)))
    (jxiY : PySem.W.isFn K (.ref fxiY) = true)
    (lxiY : K.lookup fxiY = some ⟨ocxiY, odxiY, .func (PySem.W.fnOf "__init__" "CellStep.__init__" (defArgs m_CellStep_init) (defBody m_CellStep_init) (defScope m_CellStep_init) .none kVxiY dcxiY pmxiY anxiY cdxiY ctxiY), slxiY⟩)
    (cxiY : PySem.W.codeIn K cdxiY "CellStep.__init__" = true)
    (exiY : PySem.W.keepIn K (.ref fxiY) = true)
    (uxhYA : PySem.W.findIn K (.ref WA) "house" = some (some (.ref fxhY)))
    (jxhY : PySem.W.isFn K (.ref fxhY) = true)
    (lxhY : K.lookup fxhY = some ⟨ocxhY, odxhY, .func (PySem.W.fnOf "house" "CellStep.house" (defArgs m_CellStep_house) (defBody m_CellStep_house) (defScope m_CellStep_house) .none kVxhY dcxhY pmxhY anxhY cdxhY ctxhY), slxhY⟩)
    (cxhY : PySem.W.codeIn K cdxhY "CellStep.house" = true)
    (exhY : PySem.W.keepIn K (.ref fxhY) = true)
    (uxlAA : PySem.W.findIn K (.ref WA) "lock" = some (some (.ref fxlA)))
    (jxlA : PySem.W.isFn K (.ref fxlA) = true)
    (lxlA : K.lookup fxlA = some ⟨ocxlA, odxlA, .func (PySem.W.fnOf "lock" "TakeStep.lock" (defArgs m_TakeStep_lock) (defBody m_TakeStep_lock) (defScope m_TakeStep_lock) .none kVxlA dcxlA pmxlA anxlA cdxlA ctxlA), slxlA⟩)
    (cxlA : PySem.W.codeIn K cdxlA "TakeStep.lock" = true)
    (exlA : PySem.W.keepIn K (.ref fxlA) = true)
    (uxsZA : PySem.W.findIn K (.ref WA) "sure" = some (some (.ref fxsZ)))
    (jxsZ : PySem.W.isFn K (.ref fxsZ) = true)
    (lxsZ : K.lookup fxsZ = some ⟨ocxsZ, odxsZ, .func (PySem.W.fnOf "sure" "Step.sure" (defArgs m_Step_sure) (defBody m_Step_sure) (defScope m_Step_sure) .none kVxsZ dcxsZ pmxsZ anxsZ cdxsZ ctxsZ), slxsZ⟩)
    (cxsZ : PySem.W.codeIn K cdxsZ "Step.sure" = true)
    (exsZ : PySem.W.keepIn K (.ref fxsZ) = true)
    (uxpAA : PySem.W.findIn K (.ref WA) "spelled" = some (some (.ref fxpA)))
    (jxpA : PySem.W.isFn K (.ref fxpA) = true)
    (lxpA : K.lookup fxpA = some ⟨ocxpA, odxpA, .func (PySem.W.fnOf "spelled" "TakeStep.spelled" (defArgs m_TakeStep_spelled) (defBody m_TakeStep_spelled) (defScope m_TakeStep_spelled) .none kVxpA dcxpA pmxpA anxpA cdxpA ctxpA), slxpA⟩)
    (cxpA : PySem.W.codeIn K cdxpA "TakeStep.spelled" = true)
    (expA : PySem.W.keepIn K (.ref fxpA) = true)
    (nwB : PySem.W.nsIn K mainGlobals "MeanStep" = some (some (.ref WB)))
    (pgwB : PySem.W.plainGet K WB Str.empty = true)
    (hdwB : PySem.W.hasDictIn K WB = true)
    (powB : PySem.W.plainOver K WB = true)
    (sawB : PySem.W.findIn K (.ref WB) "__setattr__" = some (some (.builtin "object.__setattr__")))
    (mkwB : PySem.W.makesIn K WB = true)
    (kcwB : PySem.W.keepIn K (.ref WB) = true)
    (nWwB : PySem.W.findIn K (.ref WB) "where" = some none)
    (nCwB : PySem.W.findIn K (.ref WB) "cell" = some none)
    (nLwB : PySem.W.findIn K (.ref WB) "low" = some none)
    (nHwB : PySem.W.findIn K (.ref WB) "high" = some none)
    (nAwB : PySem.W.findIn K (.ref WB) "amount" = some none)
    (uxiYB : PySem.W.findIn K (.ref WB) "__init__" = some (some (.ref fxiY)))
    (uxhYB : PySem.W.findIn K (.ref WB) "house" = some (some (.ref fxhY)))
    (uxlBB : PySem.W.findIn K (.ref WB) "lock" = some (some (.ref fxlB)))
    (jxlB : PySem.W.isFn K (.ref fxlB) = true)
    (lxlB : K.lookup fxlB = some ⟨ocxlB, odxlB, .func (PySem.W.fnOf "lock" "MeanStep.lock" (defArgs m_MeanStep_lock) (defBody m_MeanStep_lock) (defScope m_MeanStep_lock) .none kVxlB dcxlB pmxlB anxlB cdxlB ctxlB), slxlB⟩)
    (cxlB : PySem.W.codeIn K cdxlB "MeanStep.lock" = true)
    (exlB : PySem.W.keepIn K (.ref fxlB) = true)
    (uxsZB : PySem.W.findIn K (.ref WB) "sure" = some (some (.ref fxsZ)))
    (uxpBB : PySem.W.findIn K (.ref WB) "spelled" = some (some (.ref fxpB)))
    (jxpB : PySem.W.isFn K (.ref fxpB) = true)
    (lxpB : K.lookup fxpB = some ⟨ocxpB, odxpB, .func (PySem.W.fnOf "spelled" "MeanStep.spelled" (defArgs m_MeanStep_spelled) (defBody m_MeanStep_spelled) (defScope m_MeanStep_spelled) .none kVxpB dcxpB pmxpB anxpB cdxpB ctxpB), slxpB⟩)
    (cxpB : PySem.W.codeIn K cdxpB "MeanStep.spelled" = true)
    (expB : PySem.W.keepIn K (.ref fxpB) = true)
    (nwD : PySem.W.nsIn K mainGlobals "SumStep" = some (some (.ref WD)))
    (pgwD : PySem.W.plainGet K WD Str.empty = true)
    (hdwD : PySem.W.hasDictIn K WD = true)
    (powD : PySem.W.plainOver K WD = true)
    (sawD : PySem.W.findIn K (.ref WD) "__setattr__" = some (some (.builtin "object.__setattr__")))
    (mkwD : PySem.W.makesIn K WD = true)
    (kcwD : PySem.W.keepIn K (.ref WD) = true)
    (nWwD : PySem.W.findIn K (.ref WD) "where" = some none)
    (nCwD : PySem.W.findIn K (.ref WD) "cell" = some none)
    (nLwD : PySem.W.findIn K (.ref WD) "low" = some none)
    (nHwD : PySem.W.findIn K (.ref WD) "high" = some none)
    (nAwD : PySem.W.findIn K (.ref WD) "amount" = some none)
    (uxiDD : PySem.W.findIn K (.ref WD) "__init__" = some (some (.ref fxiD)))
    (jxiD : PySem.W.isFn K (.ref fxiD) = true)
    (lxiD : K.lookup fxiD = some ⟨ocxiD, odxiD, .func (PySem.W.fnOf "__init__" "SumStep.__init__" (defArgs m_SumStep_init) (defBody m_SumStep_init) (defScope m_SumStep_init) .none kVxiD dcxiD pmxiD anxiD cdxiD ctxiD), slxiD⟩)
    (cxiD : PySem.W.codeIn K cdxiD "SumStep.__init__" = true)
    (exiD : PySem.W.keepIn K (.ref fxiD) = true)
    (uxhDD : PySem.W.findIn K (.ref WD) "house" = some (some (.ref fxhD)))
    (jxhD : PySem.W.isFn K (.ref fxhD) = true)
    (lxhD : K.lookup fxhD = some ⟨ocxhD, odxhD, .func (PySem.W.fnOf "house" "SumStep.house" (defArgs m_SumStep_house) (defBody m_SumStep_house) (defScope m_SumStep_house) .none kVxhD dcxhD pmxhD anxhD cdxhD ctxhD), slxhD⟩)
    (cxhD : PySem.W.codeIn K cdxhD "SumStep.house" = true)
    (exhD : PySem.W.keepIn K (.ref fxhD) = true)
    (uxlDD : PySem.W.findIn K (.ref WD) "lock" = some (some (.ref fxlD)))
    (jxlD : PySem.W.isFn K (.ref fxlD) = true)
    (lxlD : K.lookup fxlD = some ⟨ocxlD, odxlD, .func (PySem.W.fnOf "lock" "SumStep.lock" (defArgs m_SumStep_lock) (defBody m_SumStep_lock) (defScope m_SumStep_lock) .none kVxlD dcxlD pmxlD anxlD cdxlD ctxlD), slxlD⟩)
    (cxlD : PySem.W.codeIn K cdxlD "SumStep.lock" = true)
    (exlD : PySem.W.keepIn K (.ref fxlD) = true)
    (uxsZD : PySem.W.findIn K (.ref WD) "sure" = some (some (.ref fxsZ)))
    (uxpDD : PySem.W.findIn K (.ref WD) "spelled" = some (some (.ref fxpD)))
    (jxpD : PySem.W.isFn K (.ref fxpD) = true)
    (lxpD : K.lookup fxpD = some ⟨ocxpD, odxpD, .func (PySem.W.fnOf "spelled" "SumStep.spelled" (defArgs m_SumStep_spelled) (defBody m_SumStep_spelled) (defScope m_SumStep_spelled) .none kVxpD dcxpD pmxpD anxpD cdxpD ctxpD), slxpD⟩)
    (cxpD : PySem.W.codeIn K cdxpD "SumStep.spelled" = true)
    (expD : PySem.W.keepIn K (.ref fxpD) = true)
    (nwE : PySem.W.nsIn K mainGlobals "GiveStep" = some (some (.ref WE)))
    (pgwE : PySem.W.plainGet K WE Str.empty = true)
    (hdwE : PySem.W.hasDictIn K WE = true)
    (powE : PySem.W.plainOver K WE = true)
    (sawE : PySem.W.findIn K (.ref WE) "__setattr__" = some (some (.builtin "object.__setattr__")))
    (mkwE : PySem.W.makesIn K WE = true)
    (kcwE : PySem.W.keepIn K (.ref WE) = true)
    (nWwE : PySem.W.findIn K (.ref WE) "where" = some none)
    (nCwE : PySem.W.findIn K (.ref WE) "cell" = some none)
    (nLwE : PySem.W.findIn K (.ref WE) "low" = some none)
    (nHwE : PySem.W.findIn K (.ref WE) "high" = some none)
    (nAwE : PySem.W.findIn K (.ref WE) "amount" = some none)
    (uxiYE : PySem.W.findIn K (.ref WE) "__init__" = some (some (.ref fxiY)))
    (uxhYE : PySem.W.findIn K (.ref WE) "house" = some (some (.ref fxhY)))
    (uxlEE : PySem.W.findIn K (.ref WE) "lock" = some (some (.ref fxlE)))
    (jxlE : PySem.W.isFn K (.ref fxlE) = true)
    (lxlE : K.lookup fxlE = some ⟨ocxlE, odxlE, .func (PySem.W.fnOf "lock" "GiveStep.lock" (defArgs m_GiveStep_lock) (defBody m_GiveStep_lock) (defScope m_GiveStep_lock) .none kVxlE dcxlE pmxlE anxlE cdxlE ctxlE), slxlE⟩)
    (cxlE : PySem.W.codeIn K cdxlE "GiveStep.lock" = true)
    (exlE : PySem.W.keepIn K (.ref fxlE) = true)
    (uxsEE : PySem.W.findIn K (.ref WE) "sure" = some (some (.ref fxsE)))
    (jxsE : PySem.W.isFn K (.ref fxsE) = true)
    (lxsE : K.lookup fxsE = some ⟨ocxsE, odxsE, .func (PySem.W.fnOf "sure" "GiveStep.sure" (defArgs m_GiveStep_sure) (defBody m_GiveStep_sure) (defScope m_GiveStep_sure) .none kVxsE dcxsE pmxsE anxsE cdxsE ctxsE), slxsE⟩)
    (cxsE : PySem.W.codeIn K cdxsE "GiveStep.sure" = true)
    (exsE : PySem.W.keepIn K (.ref fxsE) = true)
    (uxpEE : PySem.W.findIn K (.ref WE) "spelled" = some (some (.ref fxpE)))
    (jxpE : PySem.W.isFn K (.ref fxpE) = true)
    (lxpE : K.lookup fxpE = some ⟨ocxpE, odxpE, .func (PySem.W.fnOf "spelled" "GiveStep.spelled" (defArgs m_GiveStep_spelled) (defBody m_GiveStep_spelled) (defScope m_GiveStep_spelled) .none kVxpE dcxpE pmxpE anxpE cdxpE ctxpE), slxpE⟩)
    (cxpE : PySem.W.codeIn K cdxpE "GiveStep.spelled" = true)
    (expE : PySem.W.keepIn K (.ref fxpE) = true)
    (nwF : PySem.W.nsIn K mainGlobals "AddStep" = some (some (.ref WF)))
    (pgwF : PySem.W.plainGet K WF Str.empty = true)
    (hdwF : PySem.W.hasDictIn K WF = true)
    (powF : PySem.W.plainOver K WF = true)
    (sawF : PySem.W.findIn K (.ref WF) "__setattr__" = some (some (.builtin "object.__setattr__")))
    (mkwF : PySem.W.makesIn K WF = true)
    (kcwF : PySem.W.keepIn K (.ref WF) = true)
    (nWwF : PySem.W.findIn K (.ref WF) "where" = some none)
    (nCwF : PySem.W.findIn K (.ref WF) "cell" = some none)
    (nLwF : PySem.W.findIn K (.ref WF) "low" = some none)
    (nHwF : PySem.W.findIn K (.ref WF) "high" = some none)
    (nAwF : PySem.W.findIn K (.ref WF) "amount" = some none)
    (uxiFF : PySem.W.findIn K (.ref WF) "__init__" = some (some (.ref fxiF)))
    (jxiF : PySem.W.isFn K (.ref fxiF) = true)
    (lxiF : K.lookup fxiF = some ⟨ocxiF, odxiF, .func (PySem.W.fnOf "__init__" "AddStep.__init__" (defArgs m_AddStep_init) (defBody m_AddStep_init) (defScope m_AddStep_init) .none kVxiF dcxiF pmxiF anxiF cdxiF ctxiF), slxiF⟩)
    (cxiF : PySem.W.codeIn K cdxiF "AddStep.__init__" = true)
    (exiF : PySem.W.keepIn K (.ref fxiF) = true)
    (uxhYF : PySem.W.findIn K (.ref WF) "house" = some (some (.ref fxhY)))
    (uxlFF : PySem.W.findIn K (.ref WF) "lock" = some (some (.ref fxlF)))
    (jxlF : PySem.W.isFn K (.ref fxlF) = true)
    (lxlF : K.lookup fxlF = some ⟨ocxlF, odxlF, .func (PySem.W.fnOf "lock" "AddStep.lock" (defArgs m_AddStep_lock) (defBody m_AddStep_lock) (defScope m_AddStep_lock) .none kVxlF dcxlF pmxlF anxlF cdxlF ctxlF), slxlF⟩)
    (cxlF : PySem.W.codeIn K cdxlF "AddStep.lock" = true)
    (exlF : PySem.W.keepIn K (.ref fxlF) = true)
    (uxsZF : PySem.W.findIn K (.ref WF) "sure" = some (some (.ref fxsZ)))
    (uxpFF : PySem.W.findIn K (.ref WF) "spelled" = some (some (.ref fxpF)))
    (jxpF : PySem.W.isFn K (.ref fxpF) = true)
    (lxpF : K.lookup fxpF = some ⟨ocxpF, odxpF, .func (PySem.W.fnOf "spelled" "AddStep.spelled" (defArgs m_AddStep_spelled) (defBody m_AddStep_spelled) (defScope m_AddStep_spelled) .none kVxpF dcxpF pmxpF anxpF cdxpF ctxpF), slxpF⟩)
    (cxpF : PySem.W.codeIn K cdxpF "AddStep.spelled" = true)
    (expF : PySem.W.keepIn K (.ref fxpF) = true)
    (nwG : PySem.W.nsIn K mainGlobals "PlusStep" = some (some (.ref WG)))
    (pgwG : PySem.W.plainGet K WG Str.empty = true)
    (hdwG : PySem.W.hasDictIn K WG = true)
    (powG : PySem.W.plainOver K WG = true)
    (sawG : PySem.W.findIn K (.ref WG) "__setattr__" = some (some (.builtin "object.__setattr__")))
    (mkwG : PySem.W.makesIn K WG = true)
    (kcwG : PySem.W.keepIn K (.ref WG) = true)
    (nWwG : PySem.W.findIn K (.ref WG) "where" = some none)
    (nCwG : PySem.W.findIn K (.ref WG) "cell" = some none)
    (nLwG : PySem.W.findIn K (.ref WG) "low" = some none)
    (nHwG : PySem.W.findIn K (.ref WG) "high" = some none)
    (nAwG : PySem.W.findIn K (.ref WG) "amount" = some none)
    (uxiGG : PySem.W.findIn K (.ref WG) "__init__" = some (some (.ref fxiG)))
    (jxiG : PySem.W.isFn K (.ref fxiG) = true)
    (lxiG : K.lookup fxiG = some ⟨ocxiG, odxiG, .func (PySem.W.fnOf "__init__" "PlusStep.__init__" (defArgs m_PlusStep_init) (defBody m_PlusStep_init) (defScope m_PlusStep_init) .none kVxiG dcxiG pmxiG anxiG cdxiG ctxiG), slxiG⟩)
    (cxiG : PySem.W.codeIn K cdxiG "PlusStep.__init__" = true)
    (exiG : PySem.W.keepIn K (.ref fxiG) = true)
    (uxhZG : PySem.W.findIn K (.ref WG) "house" = some (some (.ref fxhZ)))
    (jxhZ : PySem.W.isFn K (.ref fxhZ) = true)
    (lxhZ : K.lookup fxhZ = some ⟨ocxhZ, odxhZ, .func (PySem.W.fnOf "house" "Step.house" (defArgs m_Step_house) (defBody m_Step_house) (defScope m_Step_house) .none kVxhZ dcxhZ pmxhZ anxhZ cdxhZ ctxhZ), slxhZ⟩)
    (cxhZ : PySem.W.codeIn K cdxhZ "Step.house" = true)
    (exhZ : PySem.W.keepIn K (.ref fxhZ) = true)
    (uxlZG : PySem.W.findIn K (.ref WG) "lock" = some (some (.ref fxlZ)))
    (jxlZ : PySem.W.isFn K (.ref fxlZ) = true)
    (lxlZ : K.lookup fxlZ = some ⟨ocxlZ, odxlZ, .func (PySem.W.fnOf "lock" "Step.lock" (defArgs m_Step_lock) (defBody m_Step_lock) (defScope m_Step_lock) .none kVxlZ dcxlZ pmxlZ anxlZ cdxlZ ctxlZ), slxlZ⟩)
    (cxlZ : PySem.W.codeIn K cdxlZ "Step.lock" = true)
    (exlZ : PySem.W.keepIn K (.ref fxlZ) = true)
    (uxsZG : PySem.W.findIn K (.ref WG) "sure" = some (some (.ref fxsZ)))
    (uxpGG : PySem.W.findIn K (.ref WG) "spelled" = some (some (.ref fxpG)))
    (jxpG : PySem.W.isFn K (.ref fxpG) = true)
    (lxpG : K.lookup fxpG = some ⟨ocxpG, odxpG, .func (PySem.W.fnOf "spelled" "PlusStep.spelled" (defArgs m_PlusStep_spelled) (defBody m_PlusStep_spelled) (defScope m_PlusStep_spelled) .none kVxpG dcxpG pmxpG anxpG cdxpG ctxpG), slxpG⟩)
    (cxpG : PySem.W.codeIn K cdxpG "PlusStep.spelled" = true)
    (expG : PySem.W.keepIn K (.ref fxpG) = true)
    (nwN : PySem.W.nsIn K mainGlobals "NeedStep" = some (some (.ref WN)))
    (pgwN : PySem.W.plainGet K WN Str.empty = true)
    (hdwN : PySem.W.hasDictIn K WN = true)
    (powN : PySem.W.plainOver K WN = true)
    (sawN : PySem.W.findIn K (.ref WN) "__setattr__" = some (some (.builtin "object.__setattr__")))
    (mkwN : PySem.W.makesIn K WN = true)
    (kcwN : PySem.W.keepIn K (.ref WN) = true)
    (nWwN : PySem.W.findIn K (.ref WN) "where" = some none)
    (nCwN : PySem.W.findIn K (.ref WN) "cell" = some none)
    (nLwN : PySem.W.findIn K (.ref WN) "low" = some none)
    (nHwN : PySem.W.findIn K (.ref WN) "high" = some none)
    (nAwN : PySem.W.findIn K (.ref WN) "amount" = some none)
    (uxiNN : PySem.W.findIn K (.ref WN) "__init__" = some (some (.ref fxiN)))
    (jxiN : PySem.W.isFn K (.ref fxiN) = true)
    (lxiN : K.lookup fxiN = some ⟨ocxiN, odxiN, .func (PySem.W.fnOf "__init__" "NeedStep.__init__" (defArgs m_NeedStep_init) (defBody m_NeedStep_init) (defScope m_NeedStep_init) .none kVxiN dcxiN pmxiN anxiN cdxiN ctxiN), slxiN⟩)
    (cxiN : PySem.W.codeIn K cdxiN "NeedStep.__init__" = true)
    (exiN : PySem.W.keepIn K (.ref fxiN) = true)
    (uxhZN : PySem.W.findIn K (.ref WN) "house" = some (some (.ref fxhZ)))
    (uxlZN : PySem.W.findIn K (.ref WN) "lock" = some (some (.ref fxlZ)))
    (uxsZN : PySem.W.findIn K (.ref WN) "sure" = some (some (.ref fxsZ)))
    (uxpNN : PySem.W.findIn K (.ref WN) "spelled" = some (some (.ref fxpN)))
    (jxpN : PySem.W.isFn K (.ref fxpN) = true)
    (lxpN : K.lookup fxpN = some ⟨ocxpN, odxpN, .func (PySem.W.fnOf "spelled" "NeedStep.spelled" (defArgs m_NeedStep_spelled) (defBody m_NeedStep_spelled) (defScope m_NeedStep_spelled) .none kVxpN dcxpN pmxpN anxpN cdxpN ctxpN), slxpN⟩)
    (cxpN : PySem.W.codeIn K cdxpN "NeedStep.spelled" = true)
    (expN : PySem.W.keepIn K (.ref fxpN) = true)
    (nB : PySem.W.nsIn K mainGlobals "Step" = some (some (.ref CB)))
    (hawA : PySem.W.findIn K (.ref WA) "__class__" = some (some (.builtin "object.__class__")))
    (hmwA : PySem.W.mroIn K WA (.type "object") = some true)
    (iBwA : PySem.W.kitOne K (.ref WA) (.ref CB) = some true)
    (hawB : PySem.W.findIn K (.ref WB) "__class__" = some (some (.builtin "object.__class__")))
    (hmwB : PySem.W.mroIn K WB (.type "object") = some true)
    (iBwB : PySem.W.kitOne K (.ref WB) (.ref CB) = some true)
    (hawD : PySem.W.findIn K (.ref WD) "__class__" = some (some (.builtin "object.__class__")))
    (hmwD : PySem.W.mroIn K WD (.type "object") = some true)
    (iBwD : PySem.W.kitOne K (.ref WD) (.ref CB) = some true)
    (hawE : PySem.W.findIn K (.ref WE) "__class__" = some (some (.builtin "object.__class__")))
    (hmwE : PySem.W.mroIn K WE (.type "object") = some true)
    (iBwE : PySem.W.kitOne K (.ref WE) (.ref CB) = some true)
    (hawF : PySem.W.findIn K (.ref WF) "__class__" = some (some (.builtin "object.__class__")))
    (hmwF : PySem.W.mroIn K WF (.type "object") = some true)
    (iBwF : PySem.W.kitOne K (.ref WF) (.ref CB) = some true)
    (hawG : PySem.W.findIn K (.ref WG) "__class__" = some (some (.builtin "object.__class__")))
    (hmwG : PySem.W.mroIn K WG (.type "object") = some true)
    (iBwG : PySem.W.kitOne K (.ref WG) (.ref CB) = some true)
    (hawN : PySem.W.findIn K (.ref WN) "__class__" = some (some (.builtin "object.__class__")))
    (hmwN : PySem.W.mroIn K WN (.type "object") = some true)
    (iBwN : PySem.W.kitOne K (.ref WN) (.ref CB) = some true)
    (hn : PySem.W.specialIn K (.builtin "object.__class__") "__get__" = some (some (.builtin "getset_descriptor.__get__")))
    (htk : PySem.W.takesIn K (.builtin "object.__class__") = some true)
    (nCY : PySem.W.nsIn K mainGlobals "CellStep" = some (some (.ref CY)))
    (gaY : PySem.W.specialIn K (.ref CY) "__getattribute__" = some (some (.builtin "type.__getattribute__")))
    (rdY : PySem.W.readsIn K CY (.type "type") = true)
    (fcY : PySem.W.findCls K (.ref CY) (.type "type") "__init__" = some (.val (.ref fxiY)))
    (hiY : PySem.W.handedIn (.ref fxiY) = true)
    (aW1 : PySem.W.nsIn K mainGlobals "is_whole" = some (some (.ref fW1)))
    (lW1 : K.lookup fW1 = some ⟨ocW1, odW1, .func (PySem.W.fnOf "is_whole" "is_whole" (defArgs s_is_whole) (defBody s_is_whole) (defScope s_is_whole) .none kVW1 dcW1 pmW1 anW1 cdW1 ctW1), slW1⟩)
    (cW1 : PySem.W.codeIn K cdW1 "is_whole" = true)
    (eW1 : PySem.W.keepIn K (.ref fW1) = true)
    (aH1 : PySem.W.nsIn K mainGlobals "shown" = some (some (.ref fH1)))
    (lH1 : K.lookup fH1 = some ⟨ocH1, odH1, .func (PySem.W.fnOf "shown" "shown" (defArgs s_shown) (defBody s_shown) (defScope s_shown) .none kVH1 dcH1 pmH1 anH1 cdH1 ctH1), slH1⟩)
    (cH1 : PySem.W.codeIn K cdH1 "shown" = true)
    (eH1 : PySem.W.keepIn K (.ref fH1) = true)
    (aR1 : PySem.W.nsIn K mainGlobals "read_thing" = some (some (.ref fR1)))
    (lR1 : K.lookup fR1 = some ⟨ocR1, odR1, .func (PySem.W.fnOf "read_thing" "read_thing" (defArgs s_read_thing) (defBody s_read_thing) (defScope s_read_thing) .none kVR1 dcR1 pmR1 anR1 cdR1 ctR1), slR1⟩)
    (cR1 : PySem.W.codeIn K cdR1 "read_thing" = true)
    (eR1 : PySem.W.keepIn K (.ref fR1) = true)
    (aG1 : PySem.W.nsIn K mainGlobals "is_sign" = some (some (.ref fG1)))
    (lG1 : K.lookup fG1 = some ⟨ocG1, odG1, .func (PySem.W.fnOf "is_sign" "is_sign" (defArgs s_is_sign) (defBody s_is_sign) (defScope s_is_sign) .none kVG1 dcG1 pmG1 anG1 cdG1 ctG1), slG1⟩)
    (cG1 : PySem.W.codeIn K cdG1 "is_sign" = true)
    (eG1 : PySem.W.keepIn K (.ref fG1) = true)
    (aP1 : PySem.W.nsIn K mainGlobals "spell" = some (some (.ref fP1)))
    (lP1 : K.lookup fP1 = some ⟨ocP1, odP1, .func (PySem.W.fnOf "spell" "spell" (defArgs s_spell) (defBody s_spell) (defScope s_spell) .none kVP1 dcP1 pmP1 anP1 cdP1 ctP1), slP1⟩)
    (cP1 : PySem.W.codeIn K cdP1 "spell" = true)
    (eP1 : PySem.W.keepIn K (.ref fP1) = true)
    (aS1 : PySem.W.nsIn K mainGlobals "read_step" = some (some (.ref fS1)))
    (lS1 : K.lookup fS1 = some ⟨ocS1, odS1, .func (PySem.W.fnOf "read_step" "read_step" (defArgs s_read_step) (defBody s_read_step) (defScope s_read_step) .none kVS1 dcS1 pmS1 anS1 cdS1 ctS1), slS1⟩)
    (cS1 : PySem.W.codeIn K cdS1 "read_step" = true)
    (eS1 : PySem.W.keepIn K (.ref fS1) = true)
    (aN1 : PySem.W.nsIn K mainGlobals "read_number" = some (some (.ref fN1)))
    (lN1 : K.lookup fN1 = some ⟨ocN1, odN1, .func (PySem.W.fnOf "read_number" "read_number" (defArgs s_read_number) (defBody s_read_number) (defScope s_read_number) .none kVN1 dcN1 pmN1 anN1 cdN1 ctN1), slN1⟩)
    (cN1 : PySem.W.codeIn K cdN1 "read_number" = true)
    (eN1 : PySem.W.keepIn K (.ref fN1) = true)
    (aM1 : PySem.W.nsIn K mainGlobals "made_step" = some (some (.ref fM1)))
    (lM1 : K.lookup fM1 = some ⟨ocM1, odM1, .func (PySem.W.fnOf "made_step" "made_step" (defArgs s_made_step) (defBody s_made_step) (defScope s_made_step) .none kVM1 dcM1 pmM1 anM1 cdM1 ctM1), slM1⟩)
    (cM1 : PySem.W.codeIn K cdM1 "made_step" = true)
    (eM1 : PySem.W.keepIn K (.ref fM1) = true)
    (aU1 : PySem.W.nsIn K mainGlobals "made_sum" = some (some (.ref fU1)))
    (lU1 : K.lookup fU1 = some ⟨ocU1, odU1, .func (PySem.W.fnOf "made_sum" "made_sum" (defArgs s_made_sum) (defBody s_made_sum) (defScope s_made_sum) .none kVU1 dcU1 pmU1 anU1 cdU1 ctU1), slU1⟩)
    (cU1 : PySem.W.codeIn K cdU1 "made_sum" = true)
    (eU1 : PySem.W.keepIn K (.ref fU1) = true)
    (aW2 : PySem.W.nsIn K mainGlobals "_law_whole" = some (some (.ref fW2)))
    (lW2 : K.lookup fW2 = some ⟨ocW2, odW2, .func (PySem.W.fnOf "_law_whole" "_law_whole" (defArgs s__law_whole) (defBody s__law_whole) (defScope s__law_whole) .none kVW2 dcW2 pmW2 anW2 cdW2 ctW2), slW2⟩)
    (cW2 : PySem.W.codeIn K cdW2 "_law_whole" = true)
    (eW2 : PySem.W.keepIn K (.ref fW2) = true)
    (aX2 : PySem.W.nsIn K mainGlobals "_law_mixed" = some (some (.ref fX2)))
    (lX2 : K.lookup fX2 = some ⟨ocX2, odX2, .func (PySem.W.fnOf "_law_mixed" "_law_mixed" (defArgs s__law_mixed) (defBody s__law_mixed) (defScope s__law_mixed) .none kVX2 dcX2 pmX2 anX2 cdX2 ctX2), slX2⟩)
    (cX2 : PySem.W.codeIn K cdX2 "_law_mixed" = true)
    (eX2 : PySem.W.keepIn K (.ref fX2) = true)
    (aN2 : PySem.W.nsIn K mainGlobals "_law_number" = some (some (.ref fN2)))
    (lN2 : K.lookup fN2 = some ⟨ocN2, odN2, .func (PySem.W.fnOf "_law_number" "_law_number" (defArgs s__law_number) (defBody s__law_number) (defScope s__law_number) .none kVN2 dcN2 pmN2 anN2 cdN2 ctN2), slN2⟩)
    (cN2 : PySem.W.codeIn K cdN2 "_law_number" = true)
    (eN2 : PySem.W.keepIn K (.ref fN2) = true)
    (aE2 : PySem.W.nsIn K mainGlobals "_law_either" = some (some (.ref fE2)))
    (lE2 : K.lookup fE2 = some ⟨ocE2, odE2, .func (PySem.W.fnOf "_law_either" "_law_either" (defArgs s__law_either) (defBody s__law_either) (defScope s__law_either) .none kVE2 dcE2 pmE2 anE2 cdE2 ctE2), slE2⟩)
    (cE2 : PySem.W.codeIn K cdE2 "_law_either" = true)
    (eE2 : PySem.W.keepIn K (.ref fE2) = true)
    (aS2 : PySem.W.nsIn K mainGlobals "_law_step" = some (some (.ref fS2)))
    (lS2 : K.lookup fS2 = some ⟨ocS2, odS2, .func (PySem.W.fnOf "_law_step" "_law_step" (defArgs s__law_step) (defBody s__law_step) (defScope s__law_step) .none kVS2 dcS2 pmS2 anS2 cdS2 ctS2), slS2⟩)
    (cS2 : PySem.W.codeIn K cdS2 "_law_step" = true)
    (eS2 : PySem.W.keepIn K (.ref fS2) = true)
    (aT2 : PySem.W.nsIn K mainGlobals "_law_text" = some (some (.ref fT2)))
    (lT2 : K.lookup fT2 = some ⟨ocT2, odT2, .func (PySem.W.fnOf "_law_text" "_law_text" (defArgs s__law_text) (defBody s__law_text) (defScope s__law_text) .none kVT2 dcT2 pmT2 anT2 cdT2 ctT2), slT2⟩)
    (cT2 : PySem.W.codeIn K cdT2 "_law_text" = true)
    (eT2 : PySem.W.keepIn K (.ref fT2) = true)
    (aM2 : PySem.W.nsIn K mainGlobals "_law_made" = some (some (.ref fM2)))
    (lM2 : K.lookup fM2 = some ⟨ocM2, odM2, .func (PySem.W.fnOf "_law_made" "_law_made" (defArgs s__law_made) (defBody s__law_made) (defScope s__law_made) .none kVM2 dcM2 pmM2 anM2 cdM2 ctM2), slM2⟩)
    (cM2 : PySem.W.codeIn K cdM2 "_law_made" = true)
    (eM2 : PySem.W.keepIn K (.ref fM2) = true)
    (aL2 : PySem.W.nsIn K mainGlobals "_law_lock_right" = some (some (.ref fL2)))
    (lL2 : K.lookup fL2 = some ⟨ocL2, odL2, .func (PySem.W.fnOf "_law_lock_right" "_law_lock_right" (defArgs s__law_lock_right) (defBody s__law_lock_right) (defScope s__law_lock_right) .none kVL2 dcL2 pmL2 anL2 cdL2 ctL2), slL2⟩)
    (cL2 : PySem.W.codeIn K cdL2 "_law_lock_right" = true)
    (eL2 : PySem.W.keepIn K (.ref fL2) = true)
    (aR2 : PySem.W.nsIn K mainGlobals "_law_right" = some (some (.ref fR2)))
    (lR2 : K.lookup fR2 = some ⟨ocR2, odR2, .func (PySem.W.fnOf "_law_right" "_law_right" (defArgs s__law_right) (defBody s__law_right) (defScope s__law_right) .none kVR2 dcR2 pmR2 anR2 cdR2 ctR2), slR2⟩)
    (cR2 : PySem.W.codeIn K cdR2 "_law_right" = true)
    (eR2 : PySem.W.keepIn K (.ref fR2) = true)
    (aZ : PySem.W.nsIn K mainGlobals "law" = some (some (.ref fZ)))
    (lZ : K.lookup fZ = some ⟨ocZ, odZ, .func (PySem.W.fnOf "law" "law" (defArgs s_law) (defBody s_law) (defScope s_law) .none kVZ dcZ pmZ anZ cdZ ctZ), slZ⟩)
    (cZ : PySem.W.codeIn K cdZ "law" = true)
    (eZ : PySem.W.keepIn K (.ref fZ) = true)
    (y_isinstance : PySem.W.nsIn K mainGlobals "isinstance" = some none)
    (y_int : PySem.W.nsIn K mainGlobals "int" = some none)
    (y_bool : PySem.W.nsIn K mainGlobals "bool" = some none)
    (y_str : PySem.W.nsIn K mainGlobals "str" = some none)
    (y_len : PySem.W.nsIn K mainGlobals "len" = some none)
    (y_range : PySem.W.nsIn K mainGlobals "range" = some none)
    (y_tuple : PySem.W.nsIn K mainGlobals "tuple" = some none)
    (y_list : PySem.W.nsIn K mainGlobals "list" = some none)
    (y_any : PySem.W.nsIn K mainGlobals "any" = some none)
    (y_all : PySem.W.nsIn K mainGlobals "all" = some none)
    (y_max : PySem.W.nsIn K mainGlobals "max" = some none)
    (y_sorted : PySem.W.nsIn K mainGlobals "sorted" = some none)
    (y_min : PySem.W.nsIn K mainGlobals "min" = some none)
    (y_ord : PySem.W.nsIn K mainGlobals "ord" = some none)
    (q_MOST_FIGURES_things : PySem.W.nsIn K mainGlobals "MOST_FIGURES_things" = some (some (.int 400 t_MOST_FIGURES_things)))
    (q_MOST_SIGNS : PySem.W.nsIn K mainGlobals "MOST_SIGNS" = some (some (.int 2000 t_MOST_SIGNS)))
    (q_MOST_PARTS : PySem.W.nsIn K mainGlobals "MOST_PARTS" = some (some (.int 2000 t_MOST_PARTS)))
    (q_MOST_DEEP : PySem.W.nsIn K mainGlobals "MOST_DEEP" = some (some (.int 8 t_MOST_DEEP)))
    (q_LONGEST : PySem.W.nsIn K mainGlobals "LONGEST" = some (some (.int 100000 t_LONGEST)))
    (q_BLANK : PySem.W.nsIn K mainGlobals "BLANK" = some (some (.int 32 t_BLANK)))
    (q_PERCENT : PySem.W.nsIn K mainGlobals "PERCENT" = some (some (.int 37 t_PERCENT)))
    (q_TILDE : PySem.W.nsIn K mainGlobals "TILDE" = some (some (.int 126 t_TILDE)))
    (q_MOST_FIGURES_steps : PySem.W.nsIn K mainGlobals "MOST_FIGURES_steps" = some (some (.int 40 t_MOST_FIGURES_steps)))
    (nSh : PySem.W.nsIn K mainGlobals "SHAPES" = some (some (.ref aSh)))
    (lSh : K.lookup aSh = some ⟨.type "dict", none, .dict esR epR, #[]⟩)
    (qSh : (aSh == sysModules) = false)
    (tSh : PyProof.Rows.KTD.rowsLook datL esR.toList shapesD = true)
    (nNo : PySem.W.nsIn K mainGlobals "NoThing" = some (some (.ref CNo)))
    (xNo : PySem.W.excIn K CNo bmV "ValueError.__new__" = true) :
    ∃ fd : FuncData, (∀ (s : Shared) (v : Value), BindsTo s fd ⟨[v], []⟩ [("_law_script", v)]) ∧ ∀ base : Heap, K.In base → base.Ns mainGlobals mg → FnOk l.prog w K mg base CX0 7 fa fd ["_law_script"] (spLaw K) := by
  have e := hfa.symm.trans (PySem.W.mg_of X G aZ)
  cases e
  have FkR := fun_mk (st := m_Read_kind) lkR ckR ekR
  have bkR := FkR.binds (ps := ["self"]) fun _ _ _ _ _ _ us hl => match us, hl with | [_], _ => rfl
  have FkM := fun_mk (st := m_Mean_kind) lkM ckM ekM
  have bkM := FkM.binds (ps := ["self"]) fun _ _ _ _ _ _ us hl => match us, hl with | [_], _ => rfl
  have FkC := fun_mk (st := m_Change_kind) lkC ckC ekC
  have bkC := FkC.binds (ps := ["self"]) fun _ _ _ _ _ _ us hl => match us, hl with | [_], _ => rfl
  have Fi := fun_mk (st := m_Lock_init) li ci ei
  have bi := Fi.binds (ps := ["self", "first", "last"]) fun _ _ _ _ _ _ us hl => match us, hl with | [_, _, _], _ => rfl
  have Ft := fun_mk (st := m_Lock_told) lt ct et
  have bt := Ft.binds (ps := ["self"]) fun _ _ _ _ _ _ us hl => match us, hl with | [_], _ => rfl
  have T : TxK K (kmk CR CM CC) := ⟨fun k => match k with | .read => ⟨pgR, hdR, poR, saR⟩ | .mean => ⟨pgM, hdM, poM, saM⟩ | .change => ⟨pgC, hdC, poC, saC⟩, fun k => match k with | .read => nFR | .mean => nFM | .change => nFC, fun k => match k with | .read => nLR | .mean => nLM | .change => nLC⟩
  have mgC : ∀ k, mg (kdN k) = some (.ref (kmk CR CM CC k)) := fun k => match k with | .read => PySem.W.mg_of X G nR | .mean => PySem.W.mg_of X G nM | .change => PySem.W.mg_of X G nC
  have Fri := fun_mk (st := m_Reader_init) lri cri eri
  have bri := Fri.binds (ps := ["self", "text"]) fun _ _ _ _ _ _ us hl => match us, hl with | [_, _], _ => rfl
  have Frp := fun_mk (st := m_Reader_passes) lrp crp erp
  have brp := Frp.binds (ps := ["self", "sign"]) fun _ _ _ _ _ _ us hl => match us, hl with | [_, _], _ => rfl
  have Fra := fun_mk (st := m_Reader_read_any) lra cra era
  have bra := Fra.binds (ps := ["self", "deep"]) fun _ _ _ _ _ _ us hl => match us, hl with | [_, _], _ => rfl
  have Frb := fun_mk (st := m_Reader_read_below) lrb crb erb
  have brb := Frb.binds (ps := ["self"]) fun _ _ _ _ _ _ us hl => match us, hl with | [_], _ => rfl
  have Frn := fun_mk (st := m_Reader_read_number) lrn crn ern
  have brn := Frn.binds (ps := ["self"]) fun _ _ _ _ _ _ us hl => match us, hl with | [_], _ => rfl
  have Frx := fun_mk (st := m_Reader_read_signs) lrx crx erx
  have brx := Frx.binds (ps := ["self", "many"]) fun _ _ _ _ _ _ us hl => match us, hl with | [_, _], _ => rfl
  have FxiY := fun_mk (st := m_CellStep_init) lxiY cxiY exiY
  have bxiY := FxiY.binds (ps := ["self", "where", "cell"]) fun _ _ _ _ _ _ us hl => match us, hl with | [_, _, _], _ => rfl
  have FxhY := fun_mk (st := m_CellStep_house) lxhY cxhY exhY
  have bxhY := FxhY.binds (ps := ["self"]) fun _ _ _ _ _ _ us hl => match us, hl with | [_], _ => rfl
  have FxlA := fun_mk (st := m_TakeStep_lock) lxlA cxlA exlA
  have bxlA := FxlA.binds (ps := ["self"]) fun _ _ _ _ _ _ us hl => match us, hl with | [_], _ => rfl
  have FxsZ := fun_mk (st := m_Step_sure) lxsZ cxsZ exsZ
  have bxsZ := FxsZ.binds (ps := ["self"]) fun _ _ _ _ _ _ us hl => match us, hl with | [_], _ => rfl
  have FxpA := fun_mk (st := m_TakeStep_spelled) lxpA cxpA expA
  have bxpA := FxpA.binds (ps := ["self"]) fun _ _ _ _ _ _ us hl => match us, hl with | [_], _ => rfl
  have FxlB := fun_mk (st := m_MeanStep_lock) lxlB cxlB exlB
  have bxlB := FxlB.binds (ps := ["self"]) fun _ _ _ _ _ _ us hl => match us, hl with | [_], _ => rfl
  have FxpB := fun_mk (st := m_MeanStep_spelled) lxpB cxpB expB
  have bxpB := FxpB.binds (ps := ["self"]) fun _ _ _ _ _ _ us hl => match us, hl with | [_], _ => rfl
  have FxiD := fun_mk (st := m_SumStep_init) lxiD cxiD exiD
  have bxiD := FxiD.binds (ps := ["self", "where", "low", "high"]) fun _ _ _ _ _ _ us hl => match us, hl with | [_, _, _, _], _ => rfl
  have FxhD := fun_mk (st := m_SumStep_house) lxhD cxhD exhD
  have bxhD := FxhD.binds (ps := ["self"]) fun _ _ _ _ _ _ us hl => match us, hl with | [_], _ => rfl
  have FxlD := fun_mk (st := m_SumStep_lock) lxlD cxlD exlD
  have bxlD := FxlD.binds (ps := ["self"]) fun _ _ _ _ _ _ us hl => match us, hl with | [_], _ => rfl
  have FxpD := fun_mk (st := m_SumStep_spelled) lxpD cxpD expD
  have bxpD := FxpD.binds (ps := ["self"]) fun _ _ _ _ _ _ us hl => match us, hl with | [_], _ => rfl
  have FxlE := fun_mk (st := m_GiveStep_lock) lxlE cxlE exlE
  have bxlE := FxlE.binds (ps := ["self"]) fun _ _ _ _ _ _ us hl => match us, hl with | [_], _ => rfl
  have FxsE := fun_mk (st := m_GiveStep_sure) lxsE cxsE exsE
  have bxsE := FxsE.binds (ps := ["self"]) fun _ _ _ _ _ _ us hl => match us, hl with | [_], _ => rfl
  have FxpE := fun_mk (st := m_GiveStep_spelled) lxpE cxpE expE
  have bxpE := FxpE.binds (ps := ["self"]) fun _ _ _ _ _ _ us hl => match us, hl with | [_], _ => rfl
  have FxiF := fun_mk (st := m_AddStep_init) lxiF cxiF exiF
  have bxiF := FxiF.binds (ps := ["self", "where", "cell", "amount"]) fun _ _ _ _ _ _ us hl => match us, hl with | [_, _, _, _], _ => rfl
  have FxlF := fun_mk (st := m_AddStep_lock) lxlF cxlF exlF
  have bxlF := FxlF.binds (ps := ["self"]) fun _ _ _ _ _ _ us hl => match us, hl with | [_], _ => rfl
  have FxpF := fun_mk (st := m_AddStep_spelled) lxpF cxpF expF
  have bxpF := FxpF.binds (ps := ["self"]) fun _ _ _ _ _ _ us hl => match us, hl with | [_], _ => rfl
  have FxiG := fun_mk (st := m_PlusStep_init) lxiG cxiG exiG
  have bxiG := FxiG.binds (ps := ["self", "amount"]) fun _ _ _ _ _ _ us hl => match us, hl with | [_, _], _ => rfl
  have FxhZ := fun_mk (st := m_Step_house) lxhZ cxhZ exhZ
  have bxhZ := FxhZ.binds (ps := ["self"]) fun _ _ _ _ _ _ us hl => match us, hl with | [_], _ => rfl
  have FxlZ := fun_mk (st := m_Step_lock) lxlZ cxlZ exlZ
  have bxlZ := FxlZ.binds (ps := ["self"]) fun _ _ _ _ _ _ us hl => match us, hl with | [_], _ => rfl
  have FxpG := fun_mk (st := m_PlusStep_spelled) lxpG cxpG expG
  have bxpG := FxpG.binds (ps := ["self"]) fun _ _ _ _ _ _ us hl => match us, hl with | [_], _ => rfl
  have FxiN := fun_mk (st := m_NeedStep_init) lxiN cxiN exiN
  have bxiN := FxiN.binds (ps := ["self", "amount"]) fun _ _ _ _ _ _ us hl => match us, hl with | [_, _], _ => rfl
  have FxpN := fun_mk (st := m_NeedStep_spelled) lxpN cxpN expN
  have bxpN := FxpN.binds (ps := ["self"]) fun _ _ _ _ _ _ us hl => match us, hl with | [_], _ => rfl
  have W : TxW K (wmk WA WB WD WE WF WG WN) := ⟨fun k => match k with | .take => ⟨pgwA, hdwA, powA, sawA⟩ | .mean => ⟨pgwB, hdwB, powB, sawB⟩ | .sum => ⟨pgwD, hdwD, powD, sawD⟩ | .give => ⟨pgwE, hdwE, powE, sawE⟩ | .add => ⟨pgwF, hdwF, powF, sawF⟩ | .plus => ⟨pgwG, hdwG, powG, sawG⟩ | .need => ⟨pgwN, hdwN, powN, sawN⟩, fun k => match k with | .take => nWwA | .mean => nWwB | .sum => nWwD | .give => nWwE | .add => nWwF | .plus => nWwG | .need => nWwN, fun k => match k with | .take => nCwA | .mean => nCwB | .sum => nCwD | .give => nCwE | .add => nCwF | .plus => nCwG | .need => nCwN, fun k => match k with | .take => nLwA | .mean => nLwB | .sum => nLwD | .give => nLwE | .add => nLwF | .plus => nLwG | .need => nLwN, fun k => match k with | .take => nHwA | .mean => nHwB | .sum => nHwD | .give => nHwE | .add => nHwF | .plus => nHwG | .need => nHwN, fun k => match k with | .take => nAwA | .mean => nAwB | .sum => nAwD | .give => nAwE | .add => nAwF | .plus => nAwG | .need => nAwN⟩
  have Y : TxY K mg (wmk WA WB WD WE WF WG WN) CB := ⟨PySem.W.mg_of X G nB, fun k => match k with | .take => hawA | .mean => hawB | .sum => hawD | .give => hawE | .add => hawF | .plus => hawG | .need => hawN, hn, htk, fun k => match k with | .take => hmwA | .mean => hmwB | .sum => hmwD | .give => hmwE | .add => hmwF | .plus => hmwG | .need => hmwN, fun k => match k with | .take => iBwA | .mean => iBwB | .sum => iBwD | .give => iBwE | .add => iBwF | .plus => iBwG | .need => iBwN⟩
  have FW1 := fun_mk (st := s_is_whole) lW1 cW1 eW1
  have bW1 := FW1.binds (ps := ["thing"]) fun _ _ _ _ _ _ us hl => match us, hl with | [_], _ => rfl
  have mW1 : mg "is_whole" = some (.ref fW1) := PySem.W.mg_of X G aW1
  have FH1 := fun_mk (st := s_shown) lH1 cH1 eH1
  have bH1 := FH1.binds (ps := ["thing"]) fun _ _ _ _ _ _ us hl => match us, hl with | [_], _ => rfl
  have mH1 : mg "shown" = some (.ref fH1) := PySem.W.mg_of X G aH1
  have FR1 := fun_mk (st := s_read_thing) lR1 cR1 eR1
  have bR1 := FR1.binds (ps := ["text"]) fun _ _ _ _ _ _ us hl => match us, hl with | [_], _ => rfl
  have mR1 : mg "read_thing" = some (.ref fR1) := PySem.W.mg_of X G aR1
  have FG1 := fun_mk (st := s_is_sign) lG1 cG1 eG1
  have bG1 := FG1.binds (ps := ["sign"]) fun _ _ _ _ _ _ us hl => match us, hl with | [_], _ => rfl
  have mG1 : mg "is_sign" = some (.ref fG1) := PySem.W.mg_of X G aG1
  have FP1 := fun_mk (st := s_spell) lP1 cP1 eP1
  have bP1 := FP1.binds (ps := ["word", "numbers"]) fun _ _ _ _ _ _ us hl => match us, hl with | [_, _], _ => rfl
  have mP1 : mg "spell" = some (.ref fP1) := PySem.W.mg_of X G aP1
  have FS1 := fun_mk (st := s_read_step) lS1 cS1 eS1
  have bS1 := FS1.binds (ps := ["text"]) fun _ _ _ _ _ _ us hl => match us, hl with | [_], _ => rfl
  have mS1 : mg "read_step" = some (.ref fS1) := PySem.W.mg_of X G aS1
  have FN1 := fun_mk (st := s_read_number) lN1 cN1 eN1
  have bN1 := FN1.binds (ps := ["word", "letter"]) fun _ _ _ _ _ _ us hl => match us, hl with | [_, _], _ => rfl
  have mN1 : mg "read_number" = some (.ref fN1) := PySem.W.mg_of X G aN1
  have FM1 := fun_mk (st := s_made_step) lM1 cM1 eM1
  have bM1 := FM1.binds (ps := ["word", "numbers"]) fun _ _ _ _ _ _ us hl => match us, hl with | [_, _], _ => rfl
  have mM1 : mg "made_step" = some (.ref fM1) := PySem.W.mg_of X G aM1
  have FU1 := fun_mk (st := s_made_sum) lU1 cU1 eU1
  have bU1 := FU1.binds (ps := ["where", "low", "high"]) fun _ _ _ _ _ _ us hl => match us, hl with | [_, _, _], _ => rfl
  have mU1 : mg "made_sum" = some (.ref fU1) := PySem.W.mg_of X G aU1
  have FW2 := fun_mk (st := s__law_whole) lW2 cW2 eW2
  have bW2 := FW2.binds (ps := ["_law_found"]) fun _ _ _ _ _ _ us hl => match us, hl with | [_], _ => rfl
  have mW2 : mg "_law_whole" = some (.ref fW2) := PySem.W.mg_of X G aW2
  have FX2 := fun_mk (st := s__law_mixed) lX2 cX2 eX2
  have bX2 := FX2.binds (ps := ["_law_cell", "_law_k"]) fun _ _ _ _ _ _ us hl => match us, hl with | [_, _], _ => rfl
  have mX2 : mg "_law_mixed" = some (.ref fX2) := PySem.W.mg_of X G aX2
  have FN2 := fun_mk (st := s__law_number) lN2 cN2 eN2
  have bN2 := FN2.binds (ps := ["_law_cell", "_law_k"]) fun _ _ _ _ _ _ us hl => match us, hl with | [_, _], _ => rfl
  have mN2 : mg "_law_number" = some (.ref fN2) := PySem.W.mg_of X G aN2
  have FE2 := fun_mk (st := s__law_either) lE2 cE2 eE2
  have bE2 := FE2.binds (ps := ["_law_cell", "_law_k"]) fun _ _ _ _ _ _ us hl => match us, hl with | [_, _], _ => rfl
  have mE2 : mg "_law_either" = some (.ref fE2) := PySem.W.mg_of X G aE2
  have FS2 := fun_mk (st := s__law_step) lS2 cS2 eS2
  have bS2 := FS2.binds (ps := ["_law_cell"]) fun _ _ _ _ _ _ us hl => match us, hl with | [_], _ => rfl
  have mS2 : mg "_law_step" = some (.ref fS2) := PySem.W.mg_of X G aS2
  have FT2 := fun_mk (st := s__law_text) lT2 cT2 eT2
  have bT2 := FT2.binds (ps := ["_law_step_here"]) fun _ _ _ _ _ _ us hl => match us, hl with | [_], _ => rfl
  have mT2 : mg "_law_text" = some (.ref fT2) := PySem.W.mg_of X G aT2
  have FM2 := fun_mk (st := s__law_made) lM2 cM2 eM2
  have bM2 := FM2.binds (ps := ["_law_step_here"]) fun _ _ _ _ _ _ us hl => match us, hl with | [_], _ => rfl
  have mM2 : mg "_law_made" = some (.ref fM2) := PySem.W.mg_of X G aM2
  have FL2 := fun_mk (st := s__law_lock_right) lL2 cL2 eL2
  have bL2 := FL2.binds (ps := ["_law_found", "_law_step_here"]) fun _ _ _ _ _ _ us hl => match us, hl with | [_, _], _ => rfl
  have mL2 : mg "_law_lock_right" = some (.ref fL2) := PySem.W.mg_of X G aL2
  have FR2 := fun_mk (st := s__law_right) lR2 cR2 eR2
  have bR2 := FR2.binds (ps := ["_law_found", "_law_step_here"]) fun _ _ _ _ _ _ us hl => match us, hl with | [_, _], _ => rfl
  have mR2 : mg "_law_right" = some (.ref fR2) := PySem.W.mg_of X G aR2
  have FZ := fun_mk (st := s_law) lZ cZ eZ
  have B : TxB mg := ⟨PySem.W.mg_none_of X G y_isinstance, PySem.W.mg_none_of X G y_int, PySem.W.mg_none_of X G y_bool, PySem.W.mg_none_of X G y_str, PySem.W.mg_none_of X G y_len, PySem.W.mg_none_of X G y_range, PySem.W.mg_none_of X G y_tuple, PySem.W.mg_none_of X G y_list, PySem.W.mg_none_of X G y_any, PySem.W.mg_none_of X G y_all, PySem.W.mg_none_of X G y_max, PySem.W.mg_none_of X G y_sorted⟩
  have TT : K21T.Tx K mg CRd := ⟨⟨pgrd, hdrd, pord, sard⟩, nTx, nPl, PySem.W.mg_of X G nrd, PySem.W.mg_none_of X G y_isinstance, PySem.W.mg_none_of X G y_int, PySem.W.mg_none_of X G y_bool, PySem.W.mg_none_of X G y_str, PySem.W.mg_none_of X G y_len, PySem.W.mg_none_of X G y_ord, PySem.W.mg_none_of X G y_all, PySem.W.mg_none_of X G y_range, ⟨_, PySem.W.mg_of X G q_MOST_FIGURES_things⟩, ⟨_, PySem.W.mg_of X G q_MOST_SIGNS⟩, ⟨_, PySem.W.mg_of X G q_MOST_DEEP⟩, ⟨_, PySem.W.mg_of X G q_LONGEST⟩, ⟨_, PySem.W.mg_of X G q_BLANK⟩, ⟨_, PySem.W.mg_of X G q_PERCENT⟩, ⟨_, PySem.W.mg_of X G q_TILDE⟩⟩
  refine ⟨PySem.W.fnOf "law" "law" (defArgs s_law) (defBody s_law) (defScope s_law) .none kVZ dcZ pmZ anZ cdZ ctZ, fun s v => .of_eq rfl, fun base _ _ => ?_⟩
  have GK : ∀ k, GM l.prog w K mg base CX0 1 (kmk CR CM CC k) "kind" ["self"] (spKind k) := fun k => match k with | .read => ⟨fkR, _, ok_rk FkR, bkR, ⟨akR, jkR, ekR⟩⟩ | .mean => ⟨fkM, _, ok_mk FkM, bkM, ⟨akM, jkM, ekM⟩⟩ | .change => ⟨fkC, _, ok_ck FkC, bkC, ⟨akC, jkC, ekC⟩⟩
  have Mk : ∀ k, Mk K (kmk CR CM CC k) fi := fun k => match k with | .read => ⟨mkR, aiR, ji, kcR⟩ | .mean => ⟨mkM, aiM, ji, kcM⟩ | .change => ⟨mkC, aiC, ji, kcC⟩
  have Gt : ∀ k, GM l.prog w K mg base CX0 2 (kmk CR CM CC k) "told" ["self"] (spTold (kmk CR CM CC)) := fun k => match k with | .read => ⟨ft, _, ok_told Ft T GK, bt, ⟨atR, jt, et⟩⟩ | .mean => ⟨ft, _, ok_told Ft T GK, bt, ⟨atM, jt, et⟩⟩ | .change => ⟨ft, _, ok_told Ft T GK, bt, ⟨atC, jt, et⟩⟩
  have GI := ok_linit (P := l.prog) (w := w) (mg := mg) (base := base) Fi T
  have GCI := ok_cinit (P := l.prog) (w := w) (mg := mg) (base := base) FxiY W
  have WI : ∀ wd, WI l.prog w K mg base (wmk WA WB WD WE WF WG WN) wd := fun wd => match wd with | .take => ⟨fxiY, _, _, ⟨mkwA, uxiYA, jxiY, kcwA⟩, (GCI.imp fun _ _ _ _ z => cinit_w rfl z).mono (by decide), bxiY, PySem.W.mg_of X G nwA⟩ | .mean => ⟨fxiY, _, _, ⟨mkwB, uxiYB, jxiY, kcwB⟩, (GCI.imp fun _ _ _ _ z => cinit_w rfl z).mono (by decide), bxiY, PySem.W.mg_of X G nwB⟩ | .sum => ⟨fxiD, _, _, ⟨mkwD, uxiDD, jxiD, kcwD⟩, (ok_sinit FxiD W).mono (by decide), bxiD, PySem.W.mg_of X G nwD⟩ | .give => ⟨fxiY, _, _, ⟨mkwE, uxiYE, jxiY, kcwE⟩, (GCI.imp fun _ _ _ _ z => cinit_w rfl z).mono (by decide), bxiY, PySem.W.mg_of X G nwE⟩ | .add => ⟨fxiF, _, _, ⟨mkwF, uxiFF, jxiF, kcwF⟩, ok_ainit FxiF W (PySem.W.mg_of X G nCY) ⟨gaY, rdY, fcY, hiY, exiY⟩ GCI bxiY, bxiF, PySem.W.mg_of X G nwF⟩ | .plus => ⟨fxiG, _, _, ⟨mkwG, uxiGG, jxiG, kcwG⟩, (ok_pinit FxiG W).mono (by decide), bxiG, PySem.W.mg_of X G nwG⟩ | .need => ⟨fxiN, _, _, ⟨mkwN, uxiNN, jxiN, kcwN⟩, (ok_ninit FxiN W).mono (by decide), bxiN, PySem.W.mg_of X G nwN⟩ 
  have Hi := K21T.ok_init (P := l.prog) (w := w) (mg := mg) (base := base) Fri TT
  have Hp := K21T.ok_pass (P := l.prog) (w := w) (mg := mg) (base := base) Frp TT
  have Hn := K21T.ok_num (P := l.prog) (w := w) (mg := mg) (base := base) Frn TT
  have Hx := K21T.ok_signs (P := l.prog) (w := w) (mg := mg) (base := base) Frx TT
  have Mrn : Meth K CRd "read_number" frn := ⟨arn, jrn, ern⟩
  have Mrp : Meth K CRd "passes" frp := ⟨arp, jrp, erp⟩
  have Mrb : Meth K CRd "read_below" frb := ⟨arb, jrb, erb⟩
  have Mrx : Meth K CRd "read_signs" frx := ⟨arx, jrx, erx⟩
  have Mra : Meth K CRd "read_any" fra := ⟨ara, jra, era⟩
  have Hb := K21T.ok_below Frb TT Hn brn Mrn
  have Ha := K21T.ok_any Fra TT Hp brp Mrp Hb brb Mrb Hn brn Mrn Hx brx Mrx
  have HG := K21T.ok_sign (P := l.prog) (w := w) (mg := mg) (base := base) FG1 TT
  have HW := K21T.ok_whole (P := l.prog) (w := w) (mg := mg) (base := base) FW1 TT
  have GW1 : GF l.prog w K mg base CX0 1 "is_whole" ["thing"] K21T.spWhole := ⟨fW1, _, HW, bW1, eW1, mW1⟩
  have GH1 : GF l.prog w K mg base CX0 2 "shown" ["thing"] K21T.spShown := ⟨fH1, _, K21T.ok_shown FH1 TT HW bW1 eW1 mW1, bH1, eH1, mH1⟩
  have GR1 : GF l.prog w K mg base CX0 4 "read_thing" ["text"] K21T.spRead := ⟨fR1, _, K21T.ok_read FR1 TT ⟨mkrd, ari, jri, kcrd⟩ HG bG1 eG1 mG1 Hi bri Ha bra Mra, bR1, eR1, mR1⟩
  have GP1 : GF l.prog w K mg base CX0 3 "spell" ["word", "numbers"] spSpell := ⟨fP1, _, ok_spell FP1 GH1, bP1, eP1, mP1⟩
  have GU1 : GF l.prog w K mg base CX0 4 "made_sum" ["where", "low", "high"] (spMSum (wmk WA WB WD WE WF WG WN)) := ⟨fU1, _, ok_msum FU1 (WI .sum), bU1, eU1, mU1⟩
  have GM1 : GF l.prog w K mg base CX0 5 "made_step" ["word", "numbers"] (spMade (wmk WA WB WD WE WF WG WN)) := ⟨fM1, _, ok_mstep FM1 WI GU1, bM1, eM1, mM1⟩
  have GN1 : GF l.prog w K mg base CX0 5 "read_number" ["word", "letter"] spRNum := ⟨fN1, _, ok_rnum FN1 B (PySem.W.mg_of X G nNo) xNo (by decide +kernel) ⟨_, PySem.W.mg_of X G q_MOST_FIGURES_steps⟩ GR1 GW1, bN1, eN1, mN1⟩
  have GS1 : GF l.prog w K mg base CX0 6 "read_step" ["text"] (spRStep (wmk WA WB WD WE WF WG WN)) := ⟨fS1, _, ok_rstep FS1 B (PySem.W.mg_of X G nSh) (tab_mk lSh qSh tSh) GN1 GM1, bS1, eS1, mS1⟩
  have GW2 : GF l.prog w K mg base CX0 1 "_law_whole" ["_law_found"] Lo.spWhole := ⟨fW2, _, ok_whole FW2 B, bW2, eW2, mW2⟩
  have GX2 : GF l.prog w K mg base CX0 1 "_law_mixed" ["_law_cell", "_law_k"] spMixed := ⟨fX2, _, ok_mixed FX2, bX2, eX2, mX2⟩
  have GN2 : GF l.prog w K mg base CX0 2 "_law_number" ["_law_cell", "_law_k"] spNumber := ⟨fN2, _, ok_number FN2 B GX2, bN2, eN2, mN2⟩
  have GE2 : GF l.prog w K mg base CX0 3 "_law_either" ["_law_cell", "_law_k"] spEither := ⟨fE2, _, ok_either FE2 GX2 GN2, bE2, eE2, mE2⟩
  have GS2 : GF l.prog w K mg base CX0 4 "_law_step" ["_law_cell"] spLStep := ⟨fS2, _, ok_lstep FS2 B (PySem.W.mg_none_of X G y_min) GN2 GE2, bS2, eS2, mS2⟩
  have GT2 : GF l.prog w K mg base CX0 1 "_law_text" ["_law_step_here"] spLText := ⟨fT2, _, ok_ltext FT2 B, bT2, eT2, mT2⟩
  have GM2 : GF l.prog w K mg base CX0 5 "_law_made" ["_law_step_here"] (spLMade (wmk WA WB WD WE WF WG WN)) := ⟨fM2, _, ok_lmade FM2 WI, bM2, eM2, mM2⟩
  have GL2 : GF l.prog w K mg base CX0 2 "_law_lock_right" ["_law_found", "_law_step_here"] (spLLock K) := ⟨fL2, _, ok_llock FL2 B GW2, bL2, eL2, mL2⟩
  have Gh : ∀ wd, GM l.prog w K mg base CX0 1 ((wmk WA WB WD WE WF WG WN) wd) "house" ["self"] (spHouse (wmk WA WB WD WE WF WG WN) wd) := fun wd => match wd with | .take => ⟨fxhY, _, ok_hcell (.inl rfl) FxhY W, bxhY, ⟨uxhYA, jxhY, exhY⟩⟩ | .mean => ⟨fxhY, _, ok_hcell (.inl rfl) FxhY W, bxhY, ⟨uxhYB, jxhY, exhY⟩⟩ | .sum => ⟨fxhD, _, ok_hsum FxhD W, bxhD, ⟨uxhDD, jxhD, exhD⟩⟩ | .give => ⟨fxhY, _, ok_hcell (.inl rfl) FxhY W, bxhY, ⟨uxhYE, jxhY, exhY⟩⟩ | .add => ⟨fxhY, _, ok_hcell (.inr rfl) FxhY W, bxhY, ⟨uxhYF, jxhY, exhY⟩⟩ | .plus => ⟨fxhZ, _, ok_hnone (.inl rfl) FxhZ, bxhZ, ⟨uxhZG, jxhZ, exhZ⟩⟩ | .need => ⟨fxhZ, _, ok_hnone (.inr rfl) FxhZ, bxhZ, ⟨uxhZN, jxhZ, exhZ⟩⟩ 
  have Gl : ∀ wd, GM l.prog w K mg base CX0 3 ((wmk WA WB WD WE WF WG WN) wd) "lock" ["self"] (spSLock (wmk WA WB WD WE WF WG WN) K wd) := fun wd => match wd with | .take => ⟨fxlA, _, ok_ltake FxlA W T mgC Mk GI bi Gt, bxlA, ⟨uxlAA, jxlA, exlA⟩⟩ | .mean => ⟨fxlB, _, ok_lmean FxlB W T mgC Mk GI bi Gt, bxlB, ⟨uxlBB, jxlB, exlB⟩⟩ | .sum => ⟨fxlD, _, ok_lsum FxlD W T mgC Mk GI bi Gt, bxlD, ⟨uxlDD, jxlD, exlD⟩⟩ | .give => ⟨fxlE, _, ok_lgive FxlE W T mgC Mk GI bi Gt, bxlE, ⟨uxlEE, jxlE, exlE⟩⟩ | .add => ⟨fxlF, _, ok_ladd FxlF W T mgC Mk GI bi Gt, bxlF, ⟨uxlFF, jxlF, exlF⟩⟩ | .plus => ⟨fxlZ, _, (ok_lnone (.inl rfl) FxlZ).mono (by decide), bxlZ, ⟨uxlZG, jxlZ, exlZ⟩⟩ | .need => ⟨fxlZ, _, (ok_lnone (.inr rfl) FxlZ).mono (by decide), bxlZ, ⟨uxlZN, jxlZ, exlZ⟩⟩ 
  have Gs : ∀ wd, GM l.prog w K mg base CX0 1 ((wmk WA WB WD WE WF WG WN) wd) "sure" ["self"] (spSure wd) := fun wd => match wd with | .take => ⟨fxsZ, _, ok_snone (by decide) FxsZ, bxsZ, ⟨uxsZA, jxsZ, exsZ⟩⟩ | .mean => ⟨fxsZ, _, ok_snone (by decide) FxsZ, bxsZ, ⟨uxsZB, jxsZ, exsZ⟩⟩ | .sum => ⟨fxsZ, _, ok_snone (by decide) FxsZ, bxsZ, ⟨uxsZD, jxsZ, exsZ⟩⟩ | .give => ⟨fxsE, _, ok_sgive FxsE, bxsE, ⟨uxsEE, jxsE, exsE⟩⟩ | .add => ⟨fxsZ, _, ok_snone (by decide) FxsZ, bxsZ, ⟨uxsZF, jxsZ, exsZ⟩⟩ | .plus => ⟨fxsZ, _, ok_snone (by decide) FxsZ, bxsZ, ⟨uxsZG, jxsZ, exsZ⟩⟩ | .need => ⟨fxsZ, _, ok_snone (by decide) FxsZ, bxsZ, ⟨uxsZN, jxsZ, exsZ⟩⟩ 
  have Gp : ∀ wd, GM l.prog w K mg base CX0 4 ((wmk WA WB WD WE WF WG WN) wd) "spelled" ["self"] (spSpelled (wmk WA WB WD WE WF WG WN) wd) := fun wd => match wd with | .take => ⟨fxpA, _, ok_ptake FxpA W GP1, bxpA, ⟨uxpAA, jxpA, expA⟩⟩ | .mean => ⟨fxpB, _, ok_pmean FxpB W GP1, bxpB, ⟨uxpBB, jxpB, expB⟩⟩ | .sum => ⟨fxpD, _, ok_psum FxpD W GP1, bxpD, ⟨uxpDD, jxpD, expD⟩⟩ | .give => ⟨fxpE, _, ok_pgive FxpE W GP1, bxpE, ⟨uxpEE, jxpE, expE⟩⟩ | .add => ⟨fxpF, _, ok_padd FxpF W GP1, bxpF, ⟨uxpFF, jxpF, expF⟩⟩ | .plus => ⟨fxpG, _, ok_pplus FxpG W GP1, bxpG, ⟨uxpGG, jxpG, expG⟩⟩ | .need => ⟨fxpN, _, ok_pneed FxpN W GP1, bxpN, ⟨uxpNN, jxpN, expN⟩⟩ 
  have GR2 : GF l.prog w K mg base CX0 5 "_law_right" ["_law_found", "_law_step_here"] (spLRight (wmk WA WB WD WE WF WG WN)) := ⟨fR2, _, ok_lright FR2 B W Y GW2 Gp Gs Gl Gh GT2 GL2, bR2, eR2, mR2⟩
  exact ok_law FZ GS2 GT2 GS1 GM2 GR2
theorem walk {l : PySem.W.OpenLaw} {q : Program} {loose : List Str} {XP : (Str → Option Value) → Heap → Prop} {YP : World → Heap → Prop} {d : DefRec} {K : Params → PySem.W.Frag} (hn : l.most = some 63) (hdf : d.params.defaults = [])
    (hY : ∀ (w : World) (h : Heap), YP w h → (K w.params).In h)
    (F : ∀ (w : World) (mg : Str → Option Value) (fa : Addr) (h : Heap), (K w.params).In h → h.Ns mainGlobals mg → mg d.name = some (.ref fa) →
      ∃ fd : FuncData, (∀ (s : Shared) (u : Value), BindsTo s fd ⟨[u], []⟩ [("_law_script", u)]) ∧ ∀ base : Heap, (K w.params).In base → base.Ns mainGlobals mg → FnOk l.prog w (K w.params) mg base CX0 7 fa fd ["_law_script"] (spLaw (K w.params))) :
    PySem.W.WalkO q loose XP YP l.row.toRowW d [] (fun f vs => PySem.call f vs) :=
  L2.walk_of (n := 63) (k := 7) (x := "_law_script") (CX := fun _ => CX0) (sp := fun w => spLaw (K w.params)) hn (by decide) hdf ⟨rfl, by decide, by decide⟩ hY F (fun _ _ a ns hl _ hS => ⟨a, ns, rfl, hS, hl, fun _ => rfl⟩) fun _ _ _ _ _ z => z
end K21
open PySem PySem.W PyProof.Rows
set_option maxRecDepth 100000 in
set_option maxHeartbeats 0 in
theorem PySem.Challenge.cw_pactroom_k21_steps_there_and_back_holds : PySem.Challenge.rw_pactroom_k21_steps_there_and_back.Holds := by
  w_on; o_law
  refine holds_open (q := Q.qv) (loose := Q.lo) (Xt := Q.Xt) (XP := XL Q.qv Q.lvv) (Yf := Hook.obs (kHook Q.Kf Q.Ka Q.ke)) (Ya := Hook.val (kHook Q.Kf Q.Ka Q.ke)) (YP := Hook.says (kHook Q.Kf Q.Ka Q.ke)) (N := 12130) Q.left (Hook.of (kHook Q.Kf Q.Ka Q.ke)) (Hook.keeps (kHook Q.Kf Q.Ka Q.ke)) (fun s e => xl_of s (Bool.and_eq_true_iff.mp e).1) XL.keeps (by rfl) (by rfl) (by rfl) (fun s e => recFacts_of (Bool.and_eq_true_iff.mp e).2) (by rfl) (by first | assumption | decide +kernel) (by decide +kernel) ⟨rfl, rfl, rfl, rfl, rfl, by decide +kernel⟩ ?hw ?hc
  (case hw => w_witness2)
  k_fill
  refine K21.walk (l := PySem.Challenge.rw_pactroom_k21_steps_there_and_back) rfl rfl (fun w h Y => PySem.W.kIn_of Y) ?F
  case F =>
    intro w mg fa h KX G hmg
    refine' K21.all_mk KX G hmg ?nR ?pgR ?hdR ?poR ?saR ?mkR ?kcR ?nFR ?nLR ?akR ?jkR ?lkR ?ckR ?ekR ?nM ?pgM ?hdM ?poM ?saM ?mkM ?kcM ?nFM ?nLM ?akM ?jkM ?lkM ?ckM ?ekM ?nC ?pgC ?hdC ?poC ?saC ?mkC ?kcC ?nFC ?nLC ?akC ?jkC ?lkC ?ckC ?ekC ?aiR ?aiM ?aiC ?ji ?li ?ci ?ei ?atR ?atM ?atC ?jt ?lt ?ct ?et ?nrd ?pgrd ?hdrd ?pord ?sard ?mkrd ?kcrd ?nTx ?nPl ?ari ?jri ?lri ?cri ?eri ?arp ?jrp ?lrp ?crp ?erp ?ara ?jra ?lra ?cra ?era ?arb ?jrb ?lrb ?crb ?erb ?arn ?jrn ?lrn ?crn ?ern ?arx ?jrx ?lrx ?crx ?erx ?nwA ?pgwA ?hdwA ?powA ?sawA ?mkwA ?kcwA ?nWwA ?nCwA ?nLwA ?nHwA ?nAwA ?uxiYA ?jxiY ?lxiY ?cxiY ?exiY ?uxhYA ?jxhY ?lxhY ?cxhY ?exhY ?uxlAA ?jxlA ?lxlA ?cxlA ?exlA ?uxsZA ?jxsZ ?lxsZ ?cxsZ ?exsZ ?uxpAA ?jxpA ?lxpA ?cxpA ?expA ?nwB ?pgwB ?hdwB ?powB ?sawB ?mkwB ?kcwB ?nWwB ?nCwB ?nLwB ?nHwB ?nAwB ?uxiYB ?uxhYB ?uxlBB ?jxlB ?lxlB ?cxlB ?exlB ?uxsZB ?uxpBB ?jxpB ?lxpB ?cxpB ?expB ?nwD ?pgwD ?hdwD ?powD ?sawD ?mkwD ?kcwD ?nWwD ?nCwD ?nLwD ?nHwD ?nAwD ?uxiDD ?jxiD ?lxiD ?cxiD ?exiD ?uxhDD ?jxhD ?lxhD ?cxhD ?exhD ?uxlDD ?jxlD ?lxlD ?cxlD ?exlD ?uxsZD ?uxpDD ?jxpD ?lxpD ?cxpD ?expD ?nwE ?pgwE ?hdwE ?powE ?sawE ?mkwE ?kcwE ?nWwE ?nCwE ?nLwE ?nHwE ?nAwE ?uxiYE ?uxhYE ?uxlEE ?jxlE ?lxlE ?cxlE ?exlE ?uxsEE ?jxsE ?lxsE ?cxsE ?exsE ?uxpEE ?jxpE ?lxpE ?cxpE ?expE ?nwF ?pgwF ?hdwF ?powF ?sawF ?mkwF ?kcwF ?nWwF ?nCwF ?nLwF ?nHwF ?nAwF ?uxiFF ?jxiF ?lxiF ?cxiF ?exiF ?uxhYF ?uxlFF ?jxlF ?lxlF ?cxlF ?exlF ?uxsZF ?uxpFF ?jxpF ?lxpF ?cxpF ?expF ?nwG ?pgwG ?hdwG ?powG ?sawG ?mkwG ?kcwG ?nWwG ?nCwG ?nLwG ?nHwG ?nAwG ?uxiGG ?jxiG ?lxiG ?cxiG ?exiG ?uxhZG ?jxhZ ?lxhZ ?cxhZ ?exhZ ?uxlZG ?jxlZ ?lxlZ ?cxlZ ?exlZ ?uxsZG ?uxpGG ?jxpG ?lxpG ?cxpG ?expG ?nwN ?pgwN ?hdwN ?powN ?sawN ?mkwN ?kcwN ?nWwN ?nCwN ?nLwN ?nHwN ?nAwN ?uxiNN ?jxiN ?lxiN ?cxiN ?exiN ?uxhZN ?uxlZN ?uxsZN ?uxpNN ?jxpN ?lxpN ?cxpN ?expN ?nB ?hawA ?hmwA ?iBwA ?hawB ?hmwB ?iBwB ?hawD ?hmwD ?iBwD ?hawE ?hmwE ?iBwE ?hawF ?hmwF ?iBwF ?hawG ?hmwG ?iBwG ?hawN ?hmwN ?iBwN ?hn ?htk ?nCY ?gaY ?rdY ?fcY ?hiY ?aW1 ?lW1 ?cW1 ?eW1 ?aH1 ?lH1 ?cH1 ?eH1 ?aR1 ?lR1 ?cR1 ?eR1 ?aG1 ?lG1 ?cG1 ?eG1 ?aP1 ?lP1 ?cP1 ?eP1 ?aS1 ?lS1 ?cS1 ?eS1 ?aN1 ?lN1 ?cN1 ?eN1 ?aM1 ?lM1 ?cM1 ?eM1 ?aU1 ?lU1 ?cU1 ?eU1 ?aW2 ?lW2 ?cW2 ?eW2 ?aX2 ?lX2 ?cX2 ?eX2 ?aN2 ?lN2 ?cN2 ?eN2 ?aE2 ?lE2 ?cE2 ?eE2 ?aS2 ?lS2 ?cS2 ?eS2 ?aT2 ?lT2 ?cT2 ?eT2 ?aM2 ?lM2 ?cM2 ?eM2 ?aL2 ?lL2 ?cL2 ?eL2 ?aR2 ?lR2 ?cR2 ?eR2 ?aZ ?lZ ?cZ ?eZ ?y_isinstance ?y_int ?y_bool ?y_str ?y_len ?y_range ?y_tuple ?y_list ?y_any ?y_all ?y_max ?y_sorted ?y_min ?y_ord ?q_MOST_FIGURES_things ?q_MOST_SIGNS ?q_MOST_PARTS ?q_MOST_DEEP ?q_LONGEST ?q_BLANK ?q_PERCENT ?q_TILDE ?q_MOST_FIGURES_steps ?nSh ?lSh ?qSh ?tSh ?nNo ?xNo
    (case nR => k_is)
    (case pgR => k_is)
    (case hdR => k_is)
    (case poR => k_is)
    (case saR => k_is)
    (case mkR => k_is)
    (case kcR => k_is)
    (case nFR => k_is)
    (case nLR => k_is)
    (case akR => k_is)
    (case jkR => k_is)
    (case lkR => k_is)
    (case ckR => k_is)
    (case ekR => k_is)
    (case nM => k_is)
    (case pgM => k_is)
    (case hdM => k_is)
    (case poM => k_is)
    (case saM => k_is)
    (case mkM => k_is)
    (case kcM => k_is)
    (case nFM => k_is)
    (case nLM => k_is)
    (case akM => k_is)
    (case jkM => k_is)
    (case lkM => k_is)
    (case ckM => k_is)
    (case ekM => k_is)
    (case nC => k_is)
    (case pgC => k_is)
    (case hdC => k_is)
    (case poC => k_is)
    (case saC => k_is)
    (case mkC => k_is)
    (case kcC => k_is)
    (case nFC => k_is)
    (case nLC => k_is)
    (case akC => k_is)
    (case jkC => k_is)
    (case lkC => k_is)
    (case ckC => k_is)
    (case ekC => k_is)
    (case aiR => k_is)
    (case aiM => k_is)
    (case aiC => k_is)
    (case ji => k_is)
    (case li => k_is)
    (case ci => k_is)
    (case ei => k_is)
    (case atR => k_is)
    (case atM => k_is)
    (case atC => k_is)
    (case jt => k_is)
    (case lt => k_is)
    (case ct => k_is)
    (case et => k_is)
    (case nrd => k_is)
    (case pgrd => k_is)
    (case hdrd => k_is)
    (case pord => k_is)
    (case sard => k_is)
    (case mkrd => k_is)
    (case kcrd => k_is)
    (case nTx => k_is)
    (case nPl => k_is)
    (case ari => k_is)
    (case jri => k_is)
    (case lri => k_is)
    (case cri => k_is)
    (case eri => k_is)
    (case arp => k_is)
    (case jrp => k_is)
    (case lrp => k_is)
    (case crp => k_is)
    (case erp => k_is)
    (case ara => k_is)
    (case jra => k_is)
    (case lra => k_is)
    (case cra => k_is)
    (case era => k_is)
    (case arb => k_is)
    (case jrb => k_is)
    (case lrb => k_is)
    (case crb => k_is)
    (case erb => k_is)
    (case arn => k_is)
    (case jrn => k_is)
    (case lrn => k_is)
    (case crn => k_is)
    (case ern => k_is)
    (case arx => k_is)
    (case jrx => k_is)
    (case lrx => k_is)
    (case crx => k_is)
    (case erx => k_is)
    (case nwA => k_is)
    (case pgwA => k_is)
    (case hdwA => k_is)
    (case powA => k_is)
    (case sawA => k_is)
    (case mkwA => k_is)
    (case kcwA => k_is)
    (case nWwA => k_is)
    (case nCwA => k_is)
    (case nLwA => k_is)
    (case nHwA => k_is)
    (case nAwA => k_is)
    (case uxiYA => k_is)
    (case jxiY => k_is)
    (case lxiY => k_is)
    (case cxiY => k_is)
    (case exiY => k_is)
    (case uxhYA => k_is)
    (case jxhY => k_is)
    (case lxhY => k_is)
    (case cxhY => k_is)
    (case exhY => k_is)
    (case uxlAA => k_is)
    (case jxlA => k_is)
    (case lxlA => k_is)
    (case cxlA => k_is)
    (case exlA => k_is)
    (case uxsZA => k_is)
    (case jxsZ => k_is)
    (case lxsZ => k_is)
    (case cxsZ => k_is)
    (case exsZ => k_is)
    (case uxpAA => k_is)
    (case jxpA => k_is)
    (case lxpA => k_is)
    (case cxpA => k_is)
    (case expA => k_is)
    (case nwB => k_is)
    (case pgwB => k_is)
    (case hdwB => k_is)
    (case powB => k_is)
    (case sawB => k_is)
    (case mkwB => k_is)
    (case kcwB => k_is)
    (case nWwB => k_is)
    (case nCwB => k_is)
    (case nLwB => k_is)
    (case nHwB => k_is)
    (case nAwB => k_is)
    (case uxiYB => k_is)
    (case uxhYB => k_is)
    (case uxlBB => k_is)
    (case jxlB => k_is)
    (case lxlB => k_is)
    (case cxlB => k_is)
    (case exlB => k_is)
    (case uxsZB => k_is)
    (case uxpBB => k_is)
    (case jxpB => k_is)
    (case lxpB => k_is)
    (case cxpB => k_is)
    (case expB => k_is)
    (case nwD => k_is)
    (case pgwD => k_is)
    (case hdwD => k_is)
    (case powD => k_is)
    (case sawD => k_is)
    (case mkwD => k_is)
    (case kcwD => k_is)
    (case nWwD => k_is)
    (case nCwD => k_is)
    (case nLwD => k_is)
    (case nHwD => k_is)
    (case nAwD => k_is)
    (case uxiDD => k_is)
    (case jxiD => k_is)
    (case lxiD => k_is)
    (case cxiD => k_is)
    (case exiD => k_is)
    (case uxhDD => k_is)
    (case jxhD => k_is)
    (case lxhD => k_is)
    (case cxhD => k_is)
    (case exhD => k_is)
    (case uxlDD => k_is)
    (case jxlD => k_is)
    (case lxlD => k_is)
    (case cxlD => k_is)
    (case exlD => k_is)
    (case uxsZD => k_is)
    (case uxpDD => k_is)
    (case jxpD => k_is)
    (case lxpD => k_is)
    (case cxpD => k_is)
    (case expD => k_is)
    (case nwE => k_is)
    (case pgwE => k_is)
    (case hdwE => k_is)
    (case powE => k_is)
    (case sawE => k_is)
    (case mkwE => k_is)
    (case kcwE => k_is)
    (case nWwE => k_is)
    (case nCwE => k_is)
    (case nLwE => k_is)
    (case nHwE => k_is)
    (case nAwE => k_is)
    (case uxiYE => k_is)
    (case uxhYE => k_is)
    (case uxlEE => k_is)
    (case jxlE => k_is)
    (case lxlE => k_is)
    (case cxlE => k_is)
    (case exlE => k_is)
    (case uxsEE => k_is)
    (case jxsE => k_is)
    (case lxsE => k_is)
    (case cxsE => k_is)
    (case exsE => k_is)
    (case uxpEE => k_is)
    (case jxpE => k_is)
    (case lxpE => k_is)
    (case cxpE => k_is)
    (case expE => k_is)
    (case nwF => k_is)
    (case pgwF => k_is)
    (case hdwF => k_is)
    (case powF => k_is)
    (case sawF => k_is)
    (case mkwF => k_is)
    (case kcwF => k_is)
    (case nWwF => k_is)
    (case nCwF => k_is)
    (case nLwF => k_is)
    (case nHwF => k_is)
    (case nAwF => k_is)
    (case uxiFF => k_is)
    (case jxiF => k_is)
    (case lxiF => k_is)
    (case cxiF => k_is)
    (case exiF => k_is)
    (case uxhYF => k_is)
    (case uxlFF => k_is)
    (case jxlF => k_is)
    (case lxlF => k_is)
    (case cxlF => k_is)
    (case exlF => k_is)
    (case uxsZF => k_is)
    (case uxpFF => k_is)
    (case jxpF => k_is)
    (case lxpF => k_is)
    (case cxpF => k_is)
    (case expF => k_is)
    (case nwG => k_is)
    (case pgwG => k_is)
    (case hdwG => k_is)
    (case powG => k_is)
    (case sawG => k_is)
    (case mkwG => k_is)
    (case kcwG => k_is)
    (case nWwG => k_is)
    (case nCwG => k_is)
    (case nLwG => k_is)
    (case nHwG => k_is)
    (case nAwG => k_is)
    (case uxiGG => k_is)
    (case jxiG => k_is)
    (case lxiG => k_is)
    (case cxiG => k_is)
    (case exiG => k_is)
    (case uxhZG => k_is)
    (case jxhZ => k_is)
    (case lxhZ => k_is)
    (case cxhZ => k_is)
    (case exhZ => k_is)
    (case uxlZG => k_is)
    (case jxlZ => k_is)
    (case lxlZ => k_is)
    (case cxlZ => k_is)
    (case exlZ => k_is)
    (case uxsZG => k_is)
    (case uxpGG => k_is)
    (case jxpG => k_is)
    (case lxpG => k_is)
    (case cxpG => k_is)
    (case expG => k_is)
    (case nwN => k_is)
    (case pgwN => k_is)
    (case hdwN => k_is)
    (case powN => k_is)
    (case sawN => k_is)
    (case mkwN => k_is)
    (case kcwN => k_is)
    (case nWwN => k_is)
    (case nCwN => k_is)
    (case nLwN => k_is)
    (case nHwN => k_is)
    (case nAwN => k_is)
    (case uxiNN => k_is)
    (case jxiN => k_is)
    (case lxiN => k_is)
    (case cxiN => k_is)
    (case exiN => k_is)
    (case uxhZN => k_is)
    (case uxlZN => k_is)
    (case uxsZN => k_is)
    (case uxpNN => k_is)
    (case jxpN => k_is)
    (case lxpN => k_is)
    (case cxpN => k_is)
    (case expN => k_is)
    (case nB => k_is)
    (case hawA => k_is)
    (case hmwA => k_is)
    (case iBwA => kit_is)
    (case hawB => k_is)
    (case hmwB => k_is)
    (case iBwB => kit_is)
    (case hawD => k_is)
    (case hmwD => k_is)
    (case iBwD => kit_is)
    (case hawE => k_is)
    (case hmwE => k_is)
    (case iBwE => kit_is)
    (case hawF => k_is)
    (case hmwF => k_is)
    (case iBwF => kit_is)
    (case hawG => k_is)
    (case hmwG => k_is)
    (case iBwG => kit_is)
    (case hawN => k_is)
    (case hmwN => k_is)
    (case iBwN => kit_is)
    (case hn => k_is)
    (case htk => k_is)
    (case nCY => k_is)
    (case gaY => k_is)
    (case rdY => k_is)
    (case fcY => k_is)
    (case hiY => rfl)
    (case aW1 => k_is)
    (case lW1 => k_is)
    (case cW1 => k_is)
    (case eW1 => k_is)
    (case aH1 => k_is)
    (case lH1 => k_is)
    (case cH1 => k_is)
    (case eH1 => k_is)
    (case aR1 => k_is)
    (case lR1 => k_is)
    (case cR1 => k_is)
    (case eR1 => k_is)
    (case aG1 => k_is)
    (case lG1 => k_is)
    (case cG1 => k_is)
    (case eG1 => k_is)
    (case aP1 => k_is)
    (case lP1 => k_is)
    (case cP1 => k_is)
    (case eP1 => k_is)
    (case aS1 => k_is)
    (case lS1 => k_is)
    (case cS1 => k_is)
    (case eS1 => k_is)
    (case aN1 => k_is)
    (case lN1 => k_is)
    (case cN1 => k_is)
    (case eN1 => k_is)
    (case aM1 => k_is)
    (case lM1 => k_is)
    (case cM1 => k_is)
    (case eM1 => k_is)
    (case aU1 => k_is)
    (case lU1 => k_is)
    (case cU1 => k_is)
    (case eU1 => k_is)
    (case aW2 => k_is)
    (case lW2 => k_is)
    (case cW2 => k_is)
    (case eW2 => k_is)
    (case aX2 => k_is)
    (case lX2 => k_is)
    (case cX2 => k_is)
    (case eX2 => k_is)
    (case aN2 => k_is)
    (case lN2 => k_is)
    (case cN2 => k_is)
    (case eN2 => k_is)
    (case aE2 => k_is)
    (case lE2 => k_is)
    (case cE2 => k_is)
    (case eE2 => k_is)
    (case aS2 => k_is)
    (case lS2 => k_is)
    (case cS2 => k_is)
    (case eS2 => k_is)
    (case aT2 => k_is)
    (case lT2 => k_is)
    (case cT2 => k_is)
    (case eT2 => k_is)
    (case aM2 => k_is)
    (case lM2 => k_is)
    (case cM2 => k_is)
    (case eM2 => k_is)
    (case aL2 => k_is)
    (case lL2 => k_is)
    (case cL2 => k_is)
    (case eL2 => k_is)
    (case aR2 => k_is)
    (case lR2 => k_is)
    (case cR2 => k_is)
    (case eR2 => k_is)
    (case aZ => k_is)
    (case lZ => k_is)
    (case cZ => k_is)
    (case eZ => k_is)
    (case y_isinstance => k_is)
    (case y_int => k_is)
    (case y_bool => k_is)
    (case y_str => k_is)
    (case y_len => k_is)
    (case y_range => k_is)
    (case y_tuple => k_is)
    (case y_list => k_is)
    (case y_any => k_is)
    (case y_all => k_is)
    (case y_max => k_is)
    (case y_sorted => k_is)
    (case y_min => k_is)
    (case y_ord => k_is)
    (case q_MOST_FIGURES_things => k_is)
    (case q_MOST_SIGNS => k_is)
    (case q_MOST_PARTS => k_is)
    (case q_MOST_DEEP => k_is)
    (case q_LONGEST => k_is)
    (case q_BLANK => k_is)
    (case q_PERCENT => k_is)
    (case q_TILDE => k_is)
    (case q_MOST_FIGURES_steps => k_is)
    (case nSh => k_is)
    (case lSh => k_is)
    (case qSh => rfl)
    (case tSh => kernel_rfl)
    (case nNo => k_is)
    (case xNo => k_exc)
#print axioms PySem.Challenge.cw_pactroom_k21_steps_there_and_back_holds

