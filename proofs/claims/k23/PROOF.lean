import PyProof.Rows.All
import Wide.All
import OpenK.AllK
import Wide.FinOn
import Lean
import PyProof.EqAt
import PyProof.EqKinds
import PyProof.TupleCall
import KE.KLam
import KE.KMinKey
import KE.KRevSl
import KE.KNestM
import KE.KRevIter
import KE.KDictList
import PyProof.LongRange
import PySem.Challenge.RW_pactroom_k23_a_step_undone
set_option Elab.async false
set_option linter.all false
set_option maxRecDepth 100000
namespace L2
open PySem PySem.Spec PyProof.Rows
abbrev Key := Sum Int Str
def keyIs : Key → Value → Bool
  | .inl k, v => Value.isInt k v
  | .inr x, v => Value.isStrOf x v
def keyH (w : World) : Key → Int
  | .inl k => hashInt k
  | .inr x => hashStr w x
theorem keyIs_shape : ∀ {k : Key} {v : Value}, keyIs k v = true → (∃ i t, k = Sum.inl i ∧ v = Value.int i t) ∨ (∃ x t, k = Sum.inr x ∧ v = Value.str x t)
  | .inl i, v, h => by
    obtain ⟨t, e⟩ := Value.isInt_shape (k := i) (v := v) h
    exact .inl ⟨i, t, rfl, e⟩
  | .inr x, v, h => by
    obtain ⟨t, e⟩ := Value.isStrOf_shape (x := x) (v := v) h
    exact .inr ⟨x, t, rfl, e⟩
theorem keyIs_int (i : Int) (t : Tok) : keyIs (.inl i) (.int i t) = true := by simp [keyIs, Value.isInt]
theorem keyIs_str (x : Str) (t : Tok) : keyIs (.inr x) (.str x t) = true := by simp [keyIs, Value.isStrOf]
theorem key_ll (a b : Int) : decide ((Sum.inl a : Key) = Sum.inl b) = (a == b) := by
  by_cases e : a = b
  · subst e; simp
  · have h : ¬ (Sum.inl a : Key) = Sum.inl b := fun q => e (Sum.inl.inj q)
    rw [decide_eq_false h]
    exact (beq_eq_false_iff_ne.mpr e).symm
theorem key_rr (a b : Str) : decide ((Sum.inr a : Key) = Sum.inr b) = decide (a = b) := by
  by_cases e : a = b
  · subst e; simp
  · have h : ¬ (Sum.inr a : Key) = Sum.inr b := fun q => e (Sum.inr.inj q)
    rw [decide_eq_false h, decide_eq_false e]
theorem key_lr (a : Int) (b : Str) : decide ((Sum.inl a : Key) = Sum.inr b) = false := decide_eq_false (fun q => nomatch q)
theorem key_rl (a : Str) (b : Int) : decide ((Sum.inr a : Key) = Sum.inl b) = false := decide_eq_false (fun q => nomatch q)
def mixKind (prog : Program) (w : World) : PySem.KeyKind prog w Key where
  is := keyIs
  hash := keyH w
  inj := fun v a b ha hb => by
    rcases keyIs_shape ha with ⟨i, t, rfl, rfl⟩ | ⟨x, t, rfl, rfl⟩
    · rcases keyIs_shape hb with ⟨j, u, rfl, e⟩ | ⟨y, u, rfl, e⟩
      · injection e with e1 _; rw [e1]
      · exact nomatch e
    · rcases keyIs_shape hb with ⟨j, u, rfl, e⟩ | ⟨y, u, rfl, e⟩
      · exact nomatch e
      · injection e with e1 _; rw [e1]
  byValue := fun k v h => by
    rcases keyIs_shape h with ⟨i, t, rfl, rfl⟩ | ⟨x, t, rfl, rfl⟩ <;> rfl
  pyHash := fun hv h => by
    rcases keyIs_shape hv with ⟨i, t, rfl, rfl⟩ | ⟨x, t, rfl, rfl⟩
    · exact wpAny_pyHash_int h
    · exact wpAny_pyHash_str h
  eqBool := fun hu hv h => by
    rcases keyIs_shape hu with ⟨i, t, rfl, rfl⟩ | ⟨x, t, rfl, rfl⟩
    · rcases keyIs_shape hv with ⟨j, u, rfl, rfl⟩ | ⟨y, u, rfl, rfl⟩
      · rw [key_ll] at h; exact wpAny_eqBool_int h
      · rw [key_lr] at h; exact SeqAt.EqAt.int_str i t y u _ _ _ _ h
    · rcases keyIs_shape hv with ⟨j, u, rfl, rfl⟩ | ⟨y, u, rfl, rfl⟩
      · rw [key_rl] at h; exact SeqAt.EqAt.str_int x t j u _ _ _ _ h
      · rw [key_rr] at h; exact wpAny_eqBool_str h
  «strs» := fun k x t v h => by
    rcases keyIs_shape h with ⟨i, u, rfl, e⟩ | ⟨y, u, rfl, e⟩
    · exact nomatch e
    · injection e with e1 _
      subst e1
      cases v <;> rfl
theorem mixKind_int (prog : Program) (w : World) (i : Int) (t : Tok) : (mixKind prog w).is (.inl i) (.int i t) = true := keyIs_int i t
theorem mixKind_str (prog : Program) (w : World) (x : Str) (t : Tok) : (mixKind prog w).is (.inr x) (.str x t) = true := keyIs_str x t
end L2
namespace L2
open PySem PySem.Spec PyProof.Rows
inductive V where
  | non | bl (b : Bool) | int (i : Int) | str (x : Str) | byt (b : Array UInt8) | flt (b : UInt64) | ref (a : Addr) | ty (n : String)
  deriving DecidableEq
def RelV : V → Value → Prop
  | .non, u => u = Value.none
  | .bl b, u => u = Value.bool b
  | .int i, u => ∃ t, u = Value.int i t
  | .str x, u => ∃ t, u = Value.str x t
  | .byt b, u => ∃ t, u = Value.bytes b t
  | .flt b, u => ∃ t, u = Value.float b t
  | .ref a, u => u = Value.ref a
  | .ty n, u => u = Value.type n
abbrev Vals : List V → List Value → Prop := Paired RelV
theorem Vals.length {xs : List V} {us : List Value} (r : Vals xs us) : xs.length = us.length := Paired.length r
theorem Vals.get : ∀ {xs : List V} {us : List Value} {i : Nat} {x : V}, Vals xs us → xs[i]? = some x → ∃ u, us[i]? = some u ∧ RelV x u
  | _, _, _, _, .nil, e => by simp at e
  | _, _, 0, _, .cons r _, e => by simp at e; subst e; exact ⟨_, rfl, r⟩
  | _, _, i + 1, x, .cons _ t, e => by
    obtain ⟨u, h1, h2⟩ := Vals.get (i := i) (x := x) t (by simpa using e)
    exact ⟨u, by simpa using h1, h2⟩
theorem Vals.append : ∀ {xs ys : List V} {us ws : List Value}, Vals xs us → Vals ys ws → Vals (xs ++ ys) (us ++ ws)
  | _, _, _, _, .nil, s => s
  | _, _, _, _, .cons r t, s => .cons r (Vals.append t s)
theorem Vals.take : ∀ {xs : List V} {us : List Value} (n : Nat), Vals xs us → Vals (xs.take n) (us.take n)
  | _, _, 0, _ => .nil
  | _, _, _ + 1, .nil => .nil
  | _, _, n + 1, .cons r t => .cons r (Vals.take n t)
theorem Vals.drop : ∀ {xs : List V} {us : List Value} (n : Nat), Vals xs us → Vals (xs.drop n) (us.drop n)
  | _, _, 0, r => r
  | _, _, _ + 1, .nil => .nil
  | _, _, n + 1, .cons _ t => Vals.drop n t
def RelO : Option V → Option Value → Prop
  | some v, some u => RelV v u
  | none, none => True
  | _, _ => False
def KV {κ : Type} : List (κ × V) → List (κ × Value) → Prop := Paired fun (p : κ × V) (q : κ × Value) => p.1 = q.1 ∧ RelV p.2 q.2
def kV : Key → V
  | .inl i => .int i
  | .inr x => .str x
inductive HO where
  | lst (xs : List V)
  | tup (xs : List V)
  | dK (kvs : List (Key × V)) | dT (kvs : List (List Key × V))
  | set (S : Int → Bool) (n : Nat)
  | ins (C dx : Addr) (fs : List (Str × V))
  | own (x : Addr)
  | xd (fs : List (Str × V))
  | met (f x : Addr)
  | rng (lo hi : Int)
  | frz (o : Obj) (u : HO)
  | tbl (ps : Array Value)
  | ext (φ : Heap → Prop)
abbrev Hp := Addr → Option HO
def upd (H : Hp) (a : Addr) (o : HO) : Hp := fun b => if b = a then some o else H b
theorem upd_same {H : Hp} {a : Addr} {o : HO} : upd H a o a = some o := by unfold upd; rw [if_pos rfl]
theorem upd_ne {H : Hp} {a b : Addr} {o : HO} (h : b ≠ a) : upd H a o b = H b := by unfold upd; rw [if_neg h]
theorem ne_of {H : Hp} {a b : Addr} {o u : HO} (h : H a = some o) (h' : H b = some u) (d : o ≠ u) : a ≠ b := by
  intro e; subst e; rw [h] at h'; exact d (Option.some.inj h')
theorem ne_of_none {H : Hp} {a b : Addr} {o : HO} (h : H a = some o) (h' : H b = none) : a ≠ b := by
  intro e; subst e; rw [h] at h'; cases h'
section
variable (P : Program) (w : World)
def ObjOk (H : Hp) (h : Heap) (a : Addr) : HO → Prop
  | .lst xs => xs.length ≤ sizeLine ∧ ∃ (its : List Value) (n : Nat), Vals xs its ∧ h.get? a = some { cls := .type "list", data := .seq its.toArray n }
  | .tup xs => xs.length ≤ sizeLine ∧ ∃ its : List Value, Vals xs its ∧ IsTup h a its.toArray
  | .dK kvs => kvs.length ≤ sizeLine ∧ (a == sysModules) = false ∧ ∃ vs, KV kvs vs ∧ h.DictOf (mixKind P w) a vs
  | .dT kvs => kvs.length ≤ sizeLine ∧ (a == sysModules) = false ∧ ∃ xs : List (List Key × Addr × Value),
      Paired (fun (p : List Key × V) (q : List Key × Addr × Value) => p.1 = q.1 ∧ H q.2.1 = some (.tup (p.1.map kV)) ∧ RelV p.2 q.2.2) kvs xs ∧
      ∃ o es ep, h.get? a = some o ∧ o.ExactDict ∧ o.data = .dict es ep ∧ es.toList = xs.map (entryOfKey (tupleKind (mixKind P w))) ∧ (xs.map (·.1)).Nodup
  | .set S n => h.SetOf (intKind P w) a S n
  | .ins C dx fs => H dx = some (.own a) ∧ fs.length ≤ 1000 ∧ dx ≠ a ∧ h.get? a = some (PySem.W.instObj C dx) ∧
      ∃ mA, h.Ns1 dx mA ∧ (∀ f, RelO (fs.lookup f) (mA f)) ∧ PySem.Within mA (fs.map (·.1))
  | .own _ => ∃ o, h.get? a = some o
  | .xd fs => ∃ mA, h.Ns1 a mA ∧ ∀ f, RelO (fs.lookup f) (mA f)
  | .rng lo hi => ∃ t u v, h.get? a = some { cls := .type "range", data := .fields #[.int lo t, .int hi u, .int 1 v] }
  | .frz o u => h.get? a = some o ∧ ObjOk H h a u
  | .tbl ps => h.get? a = some { cls := .none, data := .fields ps }
  | .met f x => h.get? a = some (PySem.W.methodObj (.ref f) (.ref x))
  | .ext φ => φ h ∧ (∃ o, h.get? a = some o) ∧ ∀ h1 h2 : Heap, φ h1 → (∀ o, h1.get? a = some o → h2.get? a = some o) → φ h2
def HOk (H : Hp) (h : Heap) : Prop := ∀ a o, H a = some o → ObjOk P w H h a o
end
section
variable {P : Program} {w : World} {H H' : Hp} {h h' : Heap} {a : Addr} {o : HO}
theorem ObjOk.lt (x : ObjOk P w H h a o) : a < h.objs.size := by
  cases o with
  | lst xs => obtain ⟨_, _, _, _, e⟩ := x; exact Heap.lt_size e
  | tup xs => obtain ⟨_, _, _, p⟩ := x; exact p.lt
  | dK kvs => obtain ⟨_, _, _, _, o, _, _, e, _⟩ := x; exact Heap.lt_size e
  | dT kvs => obtain ⟨_, _, _, _, o, _, _, e, _⟩ := x; exact Heap.lt_size e
  | set S n => obtain ⟨o, _, _, _, e, _⟩ := x; exact Heap.lt_size e
  | ins C dx fs => obtain ⟨_, _, _, e, _⟩ := x; exact Heap.lt_size e
  | own y => obtain ⟨_, e⟩ := x; exact Heap.lt_size e
  | xd fs => obtain ⟨_, ⟨_, _, _, e, _⟩, _⟩ := x; exact Heap.lt_size e
  | rng lo hi => obtain ⟨_, _, _, e⟩ := x; exact Heap.lt_size e
  | frz ob u => obtain ⟨e, _⟩ := x; exact Heap.lt_size e
  | tbl ps => exact Heap.lt_size (show h.get? a = some _ from x)
  | met f y => exact Heap.lt_size (show h.get? a = some _ from x)
  | ext φ => obtain ⟨_, ⟨_, e⟩, _⟩ := x; exact Heap.lt_size e
theorem Paired.mapP {α β : Type} {F G : α → β → Prop} : ∀ {l₁ : List α} {l₂ : List β}, Paired F l₁ l₂ → (∀ a b, F a b → G a b) → Paired G l₁ l₂
  | _, _, .nil, _ => .nil
  | _, _, .cons r t, f => .cons (f _ _ r) (Paired.mapP t f)
theorem ObjOk.stay (x : ObjOk P w H h a o) (k : ∀ b u, (b = a ∨ H b = some (.own a)) → h.get? b = some u → h'.get? b = some u)
    (ho : ∀ b, H b = some (.own a) → H' b = some (.own a)) (ht : ∀ b xs, H b = some (.tup xs) → H' b = some (.tup xs)) : ObjOk P w H' h' a o := by
  induction o with
  | lst xs => obtain ⟨z, its, n, r, e⟩ := x; exact ⟨z, its, n, r, k _ _ (.inl rfl) e⟩
  | tup xs => obtain ⟨z, its, r, ob, e, c⟩ := x; exact ⟨z, its, r, ob, k _ _ (.inl rfl) e, c⟩
  | dK kvs => obtain ⟨z, y, vs, r, ob, es, ep, e, c⟩ := x; exact ⟨z, y, vs, r, ob, es, ep, k _ _ (.inl rfl) e, c⟩
  | dT kvs =>
    obtain ⟨z, y, xs, r, ob, es, ep, e, c⟩ := x
    exact ⟨z, y, xs, Paired.mapP r fun p q z => ⟨z.1, ht _ _ z.2.1, z.2.2⟩, ob, es, ep, k _ _ (.inl rfl) e, c⟩
  | set S n => obtain ⟨ob, es, ep, t, e, c⟩ := x; exact ⟨ob, es, ep, t, k _ _ (.inl rfl) e, c⟩
  | ins C dx fs =>
    obtain ⟨d, z, ne, e, mA, ⟨od, es, ep, e2, c⟩, r⟩ := x
    exact ⟨ho _ d, z, ne, k _ _ (.inl rfl) e, mA, ⟨od, es, ep, k _ _ (.inr d) e2, c⟩, r⟩
  | own y => obtain ⟨ob, e⟩ := x; exact ⟨ob, k _ _ (.inl rfl) e⟩
  | xd fs => obtain ⟨mA, ⟨od, es, ep, e, c⟩, r⟩ := x; exact ⟨mA, ⟨od, es, ep, k _ _ (.inl rfl) e, c⟩, r⟩
  | rng lo hi => obtain ⟨t, u, v, e⟩ := x; exact ⟨t, u, v, k _ _ (.inl rfl) e⟩
  | frz ob u ih => obtain ⟨e, q⟩ := x; exact ⟨k _ _ (.inl rfl) e, ih q⟩
  | tbl ps =>
    have e : h.get? a = some { cls := .none, data := .fields ps } := x
    show h'.get? a = some { cls := .none, data := .fields ps }
    exact k a _ (.inl rfl) e
  | met f y =>
    have e : h.get? a = some (PySem.W.methodObj (.ref f) (.ref y)) := x
    show h'.get? a = some (PySem.W.methodObj (.ref f) (.ref y))
    exact k a _ (.inl rfl) e
  | ext φ => obtain ⟨p, ⟨o, e⟩, st⟩ := x; exact ⟨st _ _ p fun o q => k _ _ (.inl rfl) q, ⟨o, k _ _ (.inl rfl) e⟩, st⟩
theorem HOk.lt (x : HOk P w H h) (e : H a = some o) : a < h.objs.size := (x a o e).lt
theorem HOk.fresh (x : HOk P w H h) (e : h.objs.size ≤ a) : H a = none := by
  cases q : H a with
  | none => rfl
  | some u => exact absurd (Nat.lt_of_lt_of_le (x.lt q) e) (Nat.lt_irrefl _)
theorem HOk.kept (x : HOk P w H h) (k : ∀ b u, h.get? b = some u → h'.get? b = some u) : HOk P w H h' := fun a o e =>
  (x a o e).stay (fun b u _ q => k b u q) (fun _ q => q) fun _ _ q => q
theorem HOk.laid (x : HOk P w H h) (k : ∀ b u, h.get? b = some u → h'.get? b = some u) (hp : h.objs.size ≤ a) (new : ObjOk P w (upd H a o) h' a o) : HOk P w (upd H a o) h' := fun b u e => by
  have hn := x.fresh hp
  by_cases hb : b = a
  · subst hb; rw [upd_same] at e; cases e; exact new
  · rw [upd_ne hb] at e
    exact (x b u e).stay (fun c v _ q => k c v q) (fun c q => by rw [upd_ne (ne_of_none q hn)]; exact q) fun c xs q => by rw [upd_ne (ne_of_none q hn)]; exact q
end
def Rd (H : Hp) (a : Addr) (u : HO) : Prop := H a = some u ∨ ∃ o, H a = some (.frz o u)
theorem Rd.ok {P : Program} {w : World} {H : Hp} {h : Heap} {a : Addr} {u : HO} (r : Rd H a u) (x : HOk P w H h) : ObjOk P w H h a u := by
  rcases r with r | ⟨o, r⟩
  · exact x a u r
  · obtain ⟨_, q⟩ := x a _ r
    exact q
def Mut : Option HO → Prop
  | some (.lst _) => True
  | some (.dK _) => True
  | some (.dT _) => True
  | some (.set _ _) => True
  | some (.ins _ _ _) => True
  | some (.ext _) => True
  | _ => False
section
variable {P : Program} {w : World} {H : Hp} {h h' : Heap} {x e : Addr} {o' : HO}
theorem HOk.write (ok : HOk P w H h) (mu : Mut (H x)) (he : e = x ∨ H e = some (.own x)) (k : ∀ b u, b ≠ e → h.get? b = some u → h'.get? b = some u) (heo : ∃ u, h'.get? e = some u)
    (new : ObjOk P w (upd H x o') h' x o') : HOk P w (upd H x o') h' := fun b u q => by
  have nown : ∀ c y, H c = some (.own y) → c ≠ x := fun c y r z => by subst z; rw [r] at mu; exact mu
  have ntup : ∀ c xs, H c = some (.tup xs) → c ≠ x := fun c xs r z => by subst z; rw [r] at mu; exact mu
  by_cases hb : b = x
  · subst hb; rw [upd_same] at q; cases q; exact new
  · rw [upd_ne hb] at q
    by_cases hbe : b = e
    · have q' : H b = some (.own x) := by
        rcases he with z | z
        · exact absurd (hbe.trans z) hb
        · rw [hbe]; exact z
      rw [q] at q'; cases q'
      obtain ⟨v, hv⟩ := heo
      exact ⟨v, by rw [hbe]; exact hv⟩
    · refine (ok b u q).stay (fun c v hc r => k c v ?_ r) (fun c r => by rw [upd_ne (nown c b r)]; exact r) fun c xs r => by rw [upd_ne (ntup c xs r)]; exact r
      rcases hc with rfl | hc
      · exact hbe
      · rintro rfl
        rcases he with z | z
        · exact nown c b hc z
        · rw [hc] at z; cases z; exact hb rfl
end
structure Un (fs ex : List Addr) (H H' : Hp) (h h' : Heap) : Prop where
  keep : ∀ b o, h.get? b = some o → H b = none → b ∉ fs → b ∉ ex → h'.get? b = some o
  slot : ∀ b o, h.get? b = some o → H b = none → b ∈ fs → b ∉ ex → ∃ sl, h'.get? b = some { o with slots := sl }
  free : ∀ b o, h.get? b = some o → H b = none → b ∉ ex → H' b = none
  there : ∀ b o, h.get? b = some o → b ∉ ex → ∃ o', h'.get? b = some o'
  tups : ∀ b xs, H b = some (.tup xs) → H' b = some (.tup xs)
  frzs : ∀ b o u, H b = some (.frz o u) → H' b = some (.frz o u)
  tbls : ∀ b ps, H b = some (.tbl ps) → ∃ more, H' b = some (.tbl (ps ++ more))
section
variable {fs fs' ex ex' : List Addr} {H H1 H2 : Hp} {h h1 h2 h' : Heap} {a x e : Addr} {o : HO}
theorem Un.any (u : Un fs ex H H1 h h1) {b : Addr} {ob : Obj} (q : h.get? b = some ob) (n : H b = none) (hx : b ∉ ex) : ∃ sl, h1.get? b = some { ob with slots := sl } := by
  by_cases hb : b ∈ fs
  · exact u.slot b ob q n hb hx
  · exact ⟨ob.slots, u.keep b ob q n hb hx⟩
theorem Un.kept (k : ∀ b u, h.get? b = some u → h'.get? b = some u) : Un fs ex H H h h' :=
  ⟨fun b ob q _ _ _ => k b ob q, fun b ob q _ _ _ => ⟨ob.slots, k b ob q⟩, fun _ _ _ n _ => n, fun b ob q _ => ⟨ob, k b ob q⟩, fun _ _ q => q, fun _ _ _ q => q, fun _ ps q => ⟨#[], by rw [q]; simp⟩⟩
theorem Un.refl : Un fs ex H H h h := Un.kept fun _ _ q => q
theorem Un.laid (k : ∀ b u, h.get? b = some u → h'.get? b = some u) (hp : h.objs.size ≤ a) (hn : H a = none) : Un fs ex H (upd H a o) h h' where
  keep := fun b u q _ _ _ => k b u q
  slot := fun b u q _ _ _ => ⟨u.slots, k b u q⟩
  free := fun b u q n _ => by rw [upd_ne (Nat.ne_of_lt (Nat.lt_of_lt_of_le (Heap.lt_size q) hp))]; exact n
  there := fun b u q _ => ⟨u, k b u q⟩
  tups := fun b xs q => by rw [upd_ne (ne_of_none q hn)]; exact q
  frzs := fun b u xs q => by rw [upd_ne (ne_of_none q hn)]; exact q
  tbls := fun b ps q => ⟨#[], by rw [upd_ne (ne_of_none q hn), q]; simp⟩
theorem Un.write (mu : Mut (H x)) (he : e = x ∨ H e = some (.own x)) (k : ∀ b u, b ≠ e → h.get? b = some u → h'.get? b = some u) (heo : ∃ u, h'.get? e = some u) : Un fs ex H (upd H x o) h h' := by
  have hx : ∀ b, H b = none → b ≠ x := fun b n z => by subst z; rw [n] at mu; exact mu
  have hb : ∀ b, H b = none → b ≠ e := fun b n z => by
    subst z
    rcases he with r | r
    · exact hx b n r
    · rw [n] at r; cases r
  have hm : ∀ b u, H b = some u → ¬ Mut (some u) → b ≠ x := fun b u q nm z => by subst z; rw [q] at mu; exact nm mu
  refine ⟨fun b u q n _ _ => k b u (hb b n) q, fun b u q n _ _ => ⟨u.slots, k b u (hb b n) q⟩, fun b u q n _ => by rw [upd_ne (hx b n)]; exact n, fun b u q _ => ?_,
    fun b xs q => by rw [upd_ne (hm b _ q fun z => z)]; exact q, fun b u xs q => by rw [upd_ne (hm b _ q fun z => z)]; exact q, fun b ps q => ⟨#[], by rw [upd_ne (hm b _ q fun z => z), q]; simp⟩⟩
  by_cases hbe : b = e
  · subst hbe; exact heo
  · exact ⟨u, k b u hbe q⟩
end
def trk (h : Heap) (H : Hp) : List Addr := (List.range h.objs.size).filter fun a => (H a).isSome
def hidT (h : Heap) (H : Hp) : Heap := PySem.W.hideAll h (trk h H)
theorem hidT_size (h : Heap) (H : Hp) : (hidT h H).objs.size = h.objs.size := PySem.W.hideAll_size _ _
theorem hidT_get {h : Heap} {H : Hp} {b : Addr} {o : Obj} (e : h.get? b = some o) (n : H b = none) : (hidT h H).get? b = some o :=
  PySem.W.hideAll_get _ e fun hm => by
    have q : (H b).isSome = true := (List.mem_filter.mp hm).2
    rw [n] at q; simp at q
theorem of_hidT {h : Heap} {H : Hp} {b : Addr} {o : Obj} (e : (hidT h H).get? b = some o) : h.get? b = some o ∧ H b = none := by
  have e' : h.get? b = some o := PySem.W.of_hideAll (trk h H) e
  refine ⟨e', ?_⟩
  cases q : H b with
  | none => rfl
  | some x =>
    have hm : b ∈ trk h H := List.mem_filter.mpr ⟨List.mem_range.mpr (Heap.lt_size e'), by simp [q]⟩
    have z : (hidT h H).get? b = none := PySem.W.hideAll_none (trk h H) hm
    rw [z] at e; cases e
end L2
namespace L2
open PySem PySem.Spec PyProof.Rows
structure Mod (K : PySem.W.Frag) (mg : Str → Option Value) (base : Heap) : Prop where
  kin : K.In base
  glob : base.Ns mainGlobals mg
  blt : ∃ mb, base.Ns builtinsNs mb ∧ ∀ x : Str, x ≠ "__name__" → mb x = bootBuiltins x
  nolimit : base.NoLimit
structure Cx where
  prog : Program
  w : World
  K : PySem.W.Frag
  mg : Str → Option Value
  base : Heap
  A : Around
  N : List Str
  s₀ : Shared
  H₀ : Hp
  env : Env
  outer : List Env
  stack : List Env
  ex : List Addr
  fn : Str → Bool
  calm : Bool
  pn : List (Addr × Obj)
  xe : Value → Shared → Prop
def frs (l : List Env) : List Addr := l.filterMap (·.frame)
abbrev Cx.fs (X : Cx) : List Addr := frs X.outer
def Vis (sc : Scope) (x : Str) : Prop := sc.names.lookup x = some .local ∨ sc.names.lookup x = some .cell ∨ sc.names.lookup x = some .free
def Loc (sc : Scope) (x : Str) : Prop := sc.names.lookup x = some .local ∨ sc.names.lookup x = some .cell
def Look (env : Env) (h : Heap) (m : Str → Option Value) (x : Str) (u : Value) : Prop :=
  (env.kindOf x = some .local ∧ m x = some u) ∨ ((env.kindOf x = some .cell ∨ env.kindOf x = some .free) ∧ ∃ c, env.cells.lookup x = some c ∧ h.IsCell c (some u))
structure Cx.Ok (X : Cx) : Prop where
  mod : Mod X.K X.mg X.base
  kind : X.env.scope.kind = .function
  glob : X.env.globals = mainGlobals
  blt : X.env.builtins = builtinsNs
  above : X.s₀.heap.objs.size ≤ X.env.locals
  inj : ∀ x y c, X.env.cells.lookup x = some c → X.env.cells.lookup y = some c → x = y
  has : ∀ x, (X.env.kindOf x = some .cell ∨ X.env.kindOf x = some .free) → ∃ c, X.env.cells.lookup x = some c
  cab : ∀ x c, X.fn x = true → X.env.cells.lookup x = some c → X.s₀.heap.objs.size ≤ c
  hd : X.calm = true → X.A.handled = none
  frames : X.A.frames = some X.stack
  stk : X.stack = X.outer ∨ (X.stack = X.env :: X.outer ∧ X.env.frame = some X.env.locals)
  exf : ∀ b ∈ X.ex, b ≠ X.env.locals ∧ ∀ x c, X.env.cells.lookup x = some c → c ≠ b
  bs : ∀ b o, X.base.get? b = some o → X.s₀.heap.get? b = some o ∧ X.H₀ b = none
  bsz : X.base.objs.size ≤ X.s₀.heap.objs.size
  noex : ∀ b o, X.base.get? b = some o → b ∉ X.ex
  exfs : ∀ b ∈ X.ex, b ∉ X.fs
  funs : X.s₀.heap.FunFrames X.base X.outer
  frf : ∀ b ∈ X.fs, X.H₀ b = none
structure Inv (X : Cx) (pins : List (Addr × Obj)) (σ : List (Option V)) (H : Hp) (s : Shared) : Prop where
  ok : X.Ok
  os : s.os = X.s₀.os
  bare : AllBare s.gens
  base : Un X.fs X.ex X.H₀ H X.s₀.heap s.heap
  loc : ∃ m, s.heap.Ns X.env.locals m ∧ ∀ (i : Nat) (x : Str) (v : V), X.N[i]? = some x → σ[i]? = some (some v) → Vis X.env.scope x → ∃ u, RelV v u ∧ Look X.env s.heap m x u
  cell : ∀ x c, X.env.cells.lookup x = some c → ∃ v, s.heap.IsCell c v
  free : H X.env.locals = none
  freeC : ∀ x c, X.env.cells.lookup x = some c → H c = none
  pin : ∀ p ∈ X.pn ++ pins, s.heap.get? p.1 = some p.2 ∧ H p.1 = none ∧ p.1 ≠ X.env.locals ∧ p.1 ∉ X.fs ∧ ∀ v, p.2.data ≠ .cell v
  hok : HOk X.prog X.w H s.heap
  len : σ.length = X.N.length
section
variable {X : Cx} {pins : List (Addr × Obj)} {σ : List (Option V)} {H H' : Hp} {s : Shared} {h' : Heap}
theorem Cx.Ok.nofr (ok : X.Ok) {b : Addr} {o : Obj} (e : X.base.get? b = some o) : b ∉ X.fs := fun hb => by
  have := (ok.funs.mem hb).1
  rw [e] at this; cases this
theorem Inv.bs (I : Inv X pins σ H s) : ∀ b o, X.base.get? b = some o → s.heap.get? b = some o ∧ H b = none := fun b o e =>
  ⟨I.base.keep b o (I.ok.bs b o e).1 (I.ok.bs b o e).2 (I.ok.nofr e) (I.ok.noex b o e), I.base.free b o (I.ok.bs b o e).1 (I.ok.bs b o e).2 (I.ok.noex b o e)⟩
theorem Inv.bk (I : Inv X pins σ H s) : ∀ b o, X.base.get? b = some o → s.heap.get? b = some o := fun b o e => (I.bs b o e).1
theorem Inv.mod (I : Inv X pins σ H s) : Mod X.K X.mg X.base := I.ok.mod
theorem Inv.kIn (I : Inv X pins σ H s) : X.K.In s.heap := I.ok.mod.kin.keeps I.bk
theorem Inv.lt (I : Inv X pins σ H s) : X.env.locals < s.heap.objs.size := let ⟨_, hn, _⟩ := I.loc; hn.lt
theorem Inv.sz (I : Inv X pins σ H s) : X.s₀.heap.objs.size ≤ s.heap.objs.size := Nat.le_trans I.ok.above (Nat.le_of_lt I.lt)
theorem Inv.nofs (I : Inv X pins σ H s) {a : Addr} (h : s.heap.objs.size ≤ a) : a ∉ X.fs := fun hb => by
  obtain ⟨_, o, ho, _⟩ := I.ok.funs.mem hb
  exact absurd (Nat.lt_of_lt_of_le (Heap.lt_size ho) (Nat.le_trans I.sz h)) (Nat.lt_irrefl _)
theorem Inv.cne (I : Inv X pins σ H s) : ∀ x c, X.env.cells.lookup x = some c → c ≠ X.env.locals := fun x c e z => by
  obtain ⟨v, o, ho, hd⟩ := I.cell x c e
  obtain ⟨m, ⟨o', es, ep, ho', hd', _⟩, _⟩ := I.loc
  rw [z, ho'] at ho; cases ho; rw [hd'] at hd; cases hd
theorem Inv.funs (I : Inv X pins σ H s) : s.heap.FunFrames X.base X.outer := by
  have all : ∀ (l : List Env), (∀ b ∈ frs l, b ∈ X.fs) → X.s₀.heap.FunFrames X.base l → s.heap.FunFrames X.base l := by
    intro l
    induction l with
    | nil => intro _ _; trivial
    | cons env r ih =>
      intro hs hl
      obtain ⟨hk, ⟨L, o, hf, hn, ho, hd⟩, hr⟩ := hl
      have hL : L ∈ X.fs := hs L (by unfold frs; rw [List.filterMap_cons, hf]; exact List.mem_cons_self)
      obtain ⟨sl, e⟩ := I.base.slot L o ho (I.ok.frf L hL) hL fun z => I.ok.exfs L z hL
      exact ⟨hk, ⟨L, _, hf, hn, e, hd⟩, ih (fun b hb => hs b (by unfold frs; rw [List.filterMap_cons, hf]; exact List.mem_cons_of_mem _ hb)) hr⟩
  exact all X.outer (fun _ hb => hb) I.ok.funs
theorem Inv.stack (I : Inv X pins σ H s) : s.heap.FunFrames X.base X.stack := by
  rcases I.ok.stk with e | ⟨e, hf⟩
  · rw [e]; exact I.funs
  · rw [e]
    obtain ⟨m, hn, _⟩ := I.loc
    refine .cons (by rw [I.ok.kind]; decide) hf hn ?_ I.funs
    exact Heap.get?_none_of_le (Nat.le_trans I.ok.bsz I.ok.above)
theorem Inv.stkSub (I : Inv X pins σ H s) : ∀ b ∈ frs X.stack, b ∈ X.env.locals :: X.fs := fun b hb => by
  rcases I.ok.stk with e | ⟨e, hf⟩
  · rw [e] at hb; exact List.mem_cons_of_mem _ hb
  · rw [e] at hb
    unfold frs at hb
    rw [List.filterMap_cons, hf] at hb
    exact hb
theorem Inv.stkFree (I : Inv X pins σ H s) : ∀ b ∈ frs X.stack, H b = none := fun b hb => by
  rcases List.mem_cons.mp (I.stkSub b hb) with e | hb
  · rw [e]; exact I.free
  · obtain ⟨_, o, ho, _⟩ := I.ok.funs.mem hb
    exact I.base.free b o ho (I.ok.frf b hb) fun z => I.ok.exfs b z hb
theorem Inv.step {g' : Array GenState} {t' : Nat} {d' : Drawn} {ch : List Addr} (I : Inv X pins σ H s)
    (hch : ∀ b ∈ ch, (b ∈ X.ex ∨ X.s₀.heap.objs.size ≤ b) ∧ b ≠ X.env.locals ∧ (∀ x c, X.env.cells.lookup x = some c → c ≠ b) ∧ ∀ p ∈ X.pn ++ pins, p.1 ≠ b)
    (keep : ∀ b o, b ≠ X.env.locals → b ∉ X.fs → b ∉ ch → s.heap.get? b = some o → H b = none → h'.get? b = some o)
    (slot : ∀ b o, b ≠ X.env.locals → b ∈ X.fs → b ∉ ch → s.heap.get? b = some o → H b = none → ∃ sl, h'.get? b = some { o with slots := sl }) (free : ∀ b o, b ∉ ch → s.heap.get? b = some o → H b = none → H' b = none)
    (there : ∀ b o, b ∉ ch → s.heap.get? b = some o → ∃ o', h'.get? b = some o')
    (tups : ∀ b xs, H b = some (.tup xs) → H' b = some (.tup xs)) (frzs : ∀ b o u, H b = some (.frz o u) → H' b = some (.frz o u)) (tbls : ∀ b ps, H b = some (.tbl ps) → ∃ more, H' b = some (.tbl (ps ++ more)))
    (ns : ∀ m, s.heap.Ns X.env.locals m → h'.Ns X.env.locals m) (hok : HOk X.prog X.w H' h') (hg : AllBare g') :
    Inv X pins σ H' { s with heap := h', gens := g', drawn := d', toks := t' } := by
  have neL : ∀ b o, X.s₀.heap.get? b = some o → b ≠ X.env.locals := fun b o e => Nat.ne_of_lt (Nat.lt_of_lt_of_le (Heap.lt_size e) I.ok.above)
  have neC : ∀ b o, X.s₀.heap.get? b = some o → b ∉ X.ex → b ∉ ch := fun b o e hx hb => by
    rcases (hch b hb).1 with z | z
    · exact hx z
    · exact absurd (Nat.lt_of_lt_of_le (Heap.lt_size e) z) (Nat.lt_irrefl _)
  have cellK : ∀ x c, X.env.cells.lookup x = some c → ∀ v, s.heap.IsCell c v → h'.IsCell c v := fun x c e v ⟨o, ho, hd⟩ => by
    have nch : c ∉ ch := fun z => (hch c z).2.2.1 x c e rfl
    by_cases hc : c ∈ X.fs
    · obtain ⟨sl, q⟩ := slot c o (I.cne x c e) hc nch ho (I.freeC x c e)
      exact ⟨_, q, hd⟩
    · exact ⟨o, keep c o (I.cne x c e) hc nch ho (I.freeC x c e), hd⟩
  refine ⟨I.ok, I.os, hg, ⟨fun b o e n hb hx => ?_, fun b o e n hb hx => ?_, fun b o e n hx => ?_, fun b o e hx => ?_, fun b xs e => tups b xs (I.base.tups b xs e), fun b o xs e => frzs b o xs (I.base.frzs b o xs e), fun b ps e => ?_⟩, ?_, fun x c e => ?_, ?_, fun x c e => ?_, fun p hp => ?_, hok, I.len⟩
  · exact keep b o (neL b o e) hb (neC b o e hx) (I.base.keep b o e n hb hx) (I.base.free b o e n hx)
  · obtain ⟨sl, e1⟩ := I.base.slot b o e n hb hx
    obtain ⟨sl', e2⟩ := slot b _ (neL b o e) hb (neC b o e hx) e1 (I.base.free b o e n hx)
    exact ⟨sl', e2⟩
  · obtain ⟨o', e1⟩ := I.base.there b o e hx
    exact free b o' (neC b o e hx) e1 (I.base.free b o e n hx)
  · obtain ⟨o', e1⟩ := I.base.there b o e hx
    exact there b o' (neC b o e hx) e1
  · obtain ⟨m1, e1⟩ := I.base.tbls b ps e
    obtain ⟨m2, e2⟩ := tbls b _ e1
    exact ⟨m1 ++ m2, by rw [e2, Array.append_assoc]⟩
  · obtain ⟨m, hn, hl⟩ := I.loc
    refine ⟨m, ns m hn, fun i x v e1 e2 e3 => ?_⟩
    obtain ⟨u, r, l⟩ := hl i x v e1 e2 e3
    refine ⟨u, r, ?_⟩
    rcases l with l | ⟨k, c, e, z⟩
    · exact .inl l
    · exact .inr ⟨k, c, e, cellK x c e _ z⟩
  · obtain ⟨v, z⟩ := I.cell x c e
    exact ⟨v, cellK x c e v z⟩
  · obtain ⟨m, ⟨o, _, _, ho, _⟩, _⟩ := I.loc
    exact free _ o (fun z => (hch _ z).2.1 rfl) ho I.free
  · obtain ⟨v, o, ho, hd⟩ := I.cell x c e
    exact free c o (fun z => (hch c z).2.2.1 x c e rfl) ho (I.freeC x c e)
  · obtain ⟨e, n, ne, nf, d⟩ := I.pin p hp
    have nch : p.1 ∉ ch := fun z => (hch p.1 z).2.2.2 p hp rfl
    exact ⟨keep p.1 p.2 ne nf nch e n, free p.1 p.2 nch e n, ne, nf, d⟩
theorem Inv.un {t' : Nat} (I : Inv X pins σ H s) (u : Un X.fs [] H H' s.heap h') (hok : HOk X.prog X.w H' h') : Inv X pins σ H' { s with heap := h', toks := t' } := by
  obtain ⟨m, ⟨o, es, ep, ho, r⟩, _⟩ := id I.loc
  obtain ⟨sl, hL⟩ := u.any ho I.free (by simp)
  exact I.step (g' := s.gens) (d' := s.drawn) (ch := []) (fun _ z => nomatch z) (fun b o _ hb _ e n => u.keep b o e n hb (by simp)) (fun b o _ hb _ e n => u.slot b o e n hb (by simp)) (fun b o _ e n => u.free b o e n (by simp)) (fun b o _ e => u.there b o e (by simp)) u.tups u.frzs u.tbls (fun m' hm => by
    obtain ⟨o', es', ep', ho', r'⟩ := hm
    rw [ho] at ho'; cases ho'
    exact ⟨_, es', ep', hL, r'⟩) hok I.bare
theorem Inv.call {g' : Array GenState} {t' : Nat} {d' : Drawn} {ch : List Addr} (I : Inv X pins σ H s) (u : Un (frs X.stack) ch H H' s.heap h') (hok : HOk X.prog X.w H' h') (hg : AllBare g')
    (hch : ∀ b ∈ ch, (b ∈ X.ex ∨ X.s₀.heap.objs.size ≤ b) ∧ b ≠ X.env.locals ∧ (∀ x c, X.env.cells.lookup x = some c → c ≠ b) ∧ ∀ p ∈ X.pn ++ pins, p.1 ≠ b) :
    Inv X pins σ H' { s with heap := h', gens := g', drawn := d', toks := t' } := by
  obtain ⟨m, ⟨o, es, ep, ho, r⟩, _⟩ := id I.loc
  obtain ⟨sl, hL⟩ := u.any ho I.free fun z => (hch _ z).2.1 rfl
  exact I.step (ch := ch) hch (fun b o hL hb hc e n => u.keep b o e n (fun z => (List.mem_cons.mp (I.stkSub b z)).elim hL hb) hc) (fun b o _ _ hc e n => u.any e n hc) (fun b o hc e n => u.free b o e n hc) (fun b o hc e => u.there b o e hc) u.tups u.frzs u.tbls (fun m' hm => by
    obtain ⟨o', es', ep', ho', r'⟩ := hm
    rw [ho] at ho'; cases ho'
    exact ⟨_, es', ep', hL, r'⟩) hok hg
theorem Inv.turned {t' : Nat} {it : Addr} (I : Inv X pins σ H s) (k : ∀ b o, b ≠ it → s.heap.get? b = some o → h'.get? b = some o) (hn : H it = none) (hL : it ≠ X.env.locals)
    (h1 : it ∈ X.ex ∨ X.s₀.heap.objs.size ≤ it) (h2 : ∀ x c, X.env.cells.lookup x = some c → c ≠ it) (h3 : ∀ p ∈ X.pn ++ pins, p.1 ≠ it) : Inv X pins σ H { s with heap := h', toks := t' } := by
  have nit : ∀ b u, H b = some u → b ≠ it := fun b u e z => by rw [z, hn] at e; cases e
  refine I.step (g' := s.gens) (d' := s.drawn) (ch := [it]) (fun b hb => ?_) (fun b o _ _ hc e _ => k b o (fun z => hc (by simp [z])) e) (fun b o _ _ hc e _ => ⟨o.slots, k b o (fun z => hc (by simp [z])) e⟩) (fun _ _ _ _ n => n)
    (fun b o hc e => ⟨o, k b o (fun z => hc (by simp [z])) e⟩) (fun _ _ e => e) (fun _ _ _ e => e) (fun b ps e => ⟨#[], by rw [e]; simp⟩) (fun m hm => ?_) (fun b u e => ?_) I.bare
  · have e : b = it := by simpa using hb
    subst e
    exact ⟨h1, hL, h2, h3⟩
  · obtain ⟨o, es, ep, ho, r⟩ := hm
    exact ⟨o, es, ep, k _ o (Ne.symm hL) ho, r⟩
  · refine (I.hok b u e).stay (fun c v hc q => k c v ?_ q) (fun _ q => q) fun _ _ q => q
    rcases hc with z | z
    · rw [z]; exact nit b u e
    · exact nit c _ z
theorem Inv.tok (I : Inv X pins σ H s) (t : Nat) : Inv X pins σ H { s with toks := t } := I.un (h' := s.heap) (t' := t) Un.refl I.hok
theorem Inv.kept {t' : Nat} (I : Inv X pins σ H s) (k : ∀ b u, s.heap.get? b = some u → h'.get? b = some u) : Inv X pins σ H { s with heap := h', toks := t' } := I.un (Un.kept k) (I.hok.kept k)
theorem Inv.laid {a : Addr} {o : HO} {t' : Nat} (I : Inv X pins σ H s) (k : ∀ b u, s.heap.get? b = some u → h'.get? b = some u) (hp : s.heap.objs.size ≤ a) (new : ObjOk X.prog X.w (upd H a o) h' a o) :
    Inv X pins σ (upd H a o) { s with heap := h', toks := t' } := I.un (Un.laid k hp (I.hok.fresh hp)) (I.hok.laid k hp new)
theorem Inv.write {x e : Addr} {o : HO} {t' : Nat} (I : Inv X pins σ H s) (mu : Mut (H x)) (he : e = x ∨ H e = some (.own x)) (k : ∀ b u, b ≠ e → s.heap.get? b = some u → h'.get? b = some u) (heo : ∃ u, h'.get? e = some u)
    (new : ObjOk X.prog X.w (upd H x o) h' x o) : Inv X pins σ (upd H x o) { s with heap := h', toks := t' } := I.un (Un.write mu he k heo) (I.hok.write mu he k heo new)
theorem Inv.weak {σ' : List (Option V)} (I : Inv X pins σ H s) (hl : σ'.length = σ.length) (w : ∀ (i : Nat) v, σ'[i]? = some (some v) → σ[i]? = some (some v)) : Inv X pins σ' H s :=
  ⟨I.ok, I.os, I.bare, I.base, let ⟨m, hn, hl'⟩ := I.loc; ⟨m, hn, fun i x v e1 e2 e3 => hl' i x v e1 (w i v e2) e3⟩, I.cell, I.free, I.freeC, I.pin, I.hok, hl.trans I.len⟩
theorem Inv.pins_of {pins' : List (Addr × Obj)} (I : Inv X pins σ H s) (h : ∀ p ∈ pins', s.heap.get? p.1 = some p.2 ∧ H p.1 = none ∧ p.1 ≠ X.env.locals ∧ p.1 ∉ X.fs ∧ ∀ v, p.2.data ≠ .cell v) : Inv X pins' σ H s :=
  ⟨I.ok, I.os, I.bare, I.base, I.loc, I.cell, I.free, I.freeC, fun p hp => (List.mem_append.mp hp).elim (fun z => I.pin p (List.mem_append_left _ z)) (h p), I.hok, I.len⟩
theorem nodup_ix {N : List Str} (hN : N.Nodup) {i j : Nat} {x : Str} (a : N[i]? = some x) (b : N[j]? = some x) : i = j := by
  obtain ⟨h1, e1⟩ := List.getElem?_eq_some_iff.mp a
  obtain ⟨h2, e2⟩ := List.getElem?_eq_some_iff.mp b
  exact (List.getElem_inj hN).mp (e1.trans e2.symm)
theorem store_ok2 {M : Model} {A : Around} {E : Value → Shared → Prop} {i : Nat} {x : Str} {v : V} {u : Value} {Q : Unit → Shared → Prop} (I : Inv X pins σ H s) (hN : X.N.Nodup) (hi : X.N[i]? = some x) (hx : Loc X.env.scope x) (r : RelV v u)
    (h : ∀ s', Inv X pins (σ.set i (some v)) H s' → (∃ a, Heap.SameBut a s.heap s'.heap ∧ (a = X.env.locals ∨ X.env.cells.lookup x = some a)) → Q () s') (hf : X.fn x = true ∨ X.env.scope.names.lookup x = some .local := by first | exact .inl rfl | exact .inr rfl | assumption) : wpAny M A (storeName X.env x u) Q E s := by
  obtain ⟨m, hn, hl⟩ := id I.loc
  have hcls : (X.env.scope.kind == .class || (X.env.scope.kind == .module && X.env.locals != X.env.globals)) = false := by rw [I.ok.kind]; rfl
  have hiσ : i < σ.length := by rw [I.len]; exact (List.getElem?_eq_some_iff.mp hi).1
  have cne := I.cne
  have tracked : ∀ {a : Addr} {h' : Heap}, (∃ o, s.heap.get? a = some o ∧ H a = none) → Heap.SameBut a s.heap h' → HOk X.prog X.w H h' := fun {a h'} ha hs b ob e => by
    obtain ⟨_, _, hfree⟩ := ha
    refine (I.hok b ob e).stay (fun c w' hc q => (hs.2 c ?_).trans q) (fun _ q => q) fun _ _ q => q
    rintro rfl
    rcases hc with rfl | hc
    · rw [hfree] at e; cases e
    · rw [hfree] at hc; cases hc
  rcases hx with hk | hk
  · refine wpAny_storeName_local hk hn (fun h' hn' hs => ?_) hcls
    obtain ⟨oL, _, _, hoL, _⟩ := id hn
    refine h _ ⟨I.ok, I.os, I.bare, ⟨fun b o e n hb hx => ?_, fun b o e n hb hx => ?_, I.base.free, fun b o e hx => ?_, I.base.tups, I.base.frzs, I.base.tbls⟩, ⟨_, hn', fun j y v' e1 e2 e3 => ?_⟩, fun y c e => ?_, I.free, I.freeC, fun p hp => ?_, tracked ⟨oL, hoL, I.free⟩ hs, by simpa using I.len⟩ ⟨_, hs, .inl rfl⟩
    · exact (hs.2 b (Nat.ne_of_lt (Nat.lt_of_lt_of_le (Heap.lt_size e) I.ok.above))).trans (I.base.keep b o e n hb hx)
    · obtain ⟨sl, e1⟩ := I.base.slot b o e n hb hx
      exact ⟨sl, (hs.2 b (Nat.ne_of_lt (Nat.lt_of_lt_of_le (Heap.lt_size e) I.ok.above))).trans e1⟩
    · obtain ⟨o', e1⟩ := I.base.there b o e hx
      exact ⟨o', (hs.2 b (Nat.ne_of_lt (Nat.lt_of_lt_of_le (Heap.lt_size e) I.ok.above))).trans e1⟩
    · by_cases hj : j = i
      · subst hj
        rw [hi] at e1; cases e1
        rw [List.getElem?_set_self hiσ] at e2
        cases e2
        exact ⟨u, r, .inl ⟨hk, by simp⟩⟩
      · rw [List.getElem?_set_ne (Ne.symm hj)] at e2
        obtain ⟨u', r', q⟩ := hl j y v' e1 e2 e3
        refine ⟨u', r', ?_⟩
        rcases q with ⟨k, e⟩ | ⟨k, c, e, z⟩
        · refine .inl ⟨k, ?_⟩
          have : y ≠ x := fun e => hj (nodup_ix hN e1 (e ▸ hi))
          simp [this, e]
        · exact .inr ⟨k, c, e, z.sameBut hs (cne y c e)⟩
    · obtain ⟨w', z⟩ := I.cell y c e
      exact ⟨w', z.sameBut hs (cne y c e)⟩
    · obtain ⟨e, n, ne, nf, d⟩ := I.pin p hp
      exact ⟨(hs.2 p.1 ne).trans e, n, ne, nf, d⟩
  · have hfn : X.fn x = true := by
      rcases hf with z | z
      · exact z
      · rw [z] at hk; cases hk
    obtain ⟨c, hc⟩ := I.ok.has x (.inl hk)
    obtain ⟨w', z⟩ := I.cell x c hc
    refine wpAny_storeName_cell I.ok.kind hk hc z (fun h' hc' hs => ?_)
    obtain ⟨oc, hoc, hocd⟩ := id z
    refine h { s with heap := h' } ⟨I.ok, I.os, I.bare, ⟨fun b o e n hb hx => ?_, fun b o e n hb hx => ?_, I.base.free, fun b o e hx => ?_, I.base.tups, I.base.frzs, I.base.tbls⟩, ⟨m, hn.sameBut hs (Ne.symm (cne x c hc)), fun j y v' e1 e2 e3 => ?_⟩, fun y c' e => ?_, I.free, I.freeC, fun p hp => ?_, tracked ⟨oc, hoc, I.freeC x c hc⟩ hs, by simpa using I.len⟩ ⟨c, hs, .inr hc⟩
    · exact (hs.2 b (Nat.ne_of_lt (Nat.lt_of_lt_of_le (Heap.lt_size e) (I.ok.cab x c hfn hc)))).trans (I.base.keep b o e n hb hx)
    · obtain ⟨sl, e1⟩ := I.base.slot b o e n hb hx
      exact ⟨sl, (hs.2 b (Nat.ne_of_lt (Nat.lt_of_lt_of_le (Heap.lt_size e) (I.ok.cab x c hfn hc)))).trans e1⟩
    · obtain ⟨o', e1⟩ := I.base.there b o e hx
      exact ⟨o', (hs.2 b (Nat.ne_of_lt (Nat.lt_of_lt_of_le (Heap.lt_size e) (I.ok.cab x c hfn hc)))).trans e1⟩
    · by_cases hj : j = i
      · subst hj
        rw [hi] at e1; cases e1
        rw [List.getElem?_set_self hiσ] at e2
        cases e2
        exact ⟨u, r, .inr ⟨.inl hk, c, hc, hc'⟩⟩
      · rw [List.getElem?_set_ne (Ne.symm hj)] at e2
        obtain ⟨u', r', q⟩ := hl j y v' e1 e2 e3
        refine ⟨u', r', ?_⟩
        rcases q with q | ⟨k, c', e, z'⟩
        · exact .inl q
        · refine .inr ⟨k, c', e, z'.sameBut hs ?_⟩
          rintro rfl
          exact hj (nodup_ix hN e1 (I.ok.inj _ _ _ e hc ▸ hi))
    · by_cases hcc : c' = c
      · subst hcc; exact ⟨_, hc'⟩
      · obtain ⟨w2, z2⟩ := I.cell y c' e
        exact ⟨w2, z2.sameBut hs hcc⟩
    · obtain ⟨e, n, ne, nf, d⟩ := I.pin p hp
      refine ⟨(hs.2 p.1 ?_).trans e, n, ne, nf, d⟩
      intro q
      rw [q, hoc] at e
      have q' : oc = p.2 := Option.some.inj e
      exact d w' (by rw [← q']; exact hocd)
theorem store_ok {M : Model} {A : Around} {E : Value → Shared → Prop} {i : Nat} {x : Str} {v : V} {u : Value} {Q : Unit → Shared → Prop} (I : Inv X pins σ H s) (hN : X.N.Nodup) (hi : X.N[i]? = some x) (hx : Loc X.env.scope x) (r : RelV v u)
    (h : ∀ s', Inv X pins (σ.set i (some v)) H s' → Q () s') (hf : X.fn x = true ∨ X.env.scope.names.lookup x = some .local := by first | exact .inl rfl | exact .inr rfl | assumption) : wpAny M A (storeName X.env x u) Q E s :=
  store_ok2 I hN hi hx r (fun s' I' _ => h s' I') hf
theorem Inv.call' {s' : Shared} {ch : List Addr} (I : Inv X pins σ H s) (ho : s'.os = s.os) (u : Un (frs X.stack) ch H H' s.heap s'.heap) (hok : HOk X.prog X.w H' s'.heap) (hg : AllBare s'.gens)
    (hch : ∀ b ∈ ch, (b ∈ X.ex ∨ X.s₀.heap.objs.size ≤ b) ∧ b ≠ X.env.locals ∧ (∀ x c, X.env.cells.lookup x = some c → c ≠ b) ∧ ∀ p ∈ X.pn ++ pins, p.1 ≠ b) : Inv X pins σ H' s' := by
  obtain ⟨h', g', d', t', o'⟩ := s'
  have e : o' = s.os := ho
  subst e
  exact I.call (g' := g') (t' := t') (d' := d') u hok hg hch
end
abbrev XK := Value → Option Addr → Hp → Prop
abbrev St := List (Option V)
abbrev VK := V → Hp → Prop
abbrev TE := St → Hp → VK → Prop
abbrev TT := St → Hp → (Bool → Hp → Prop) → Prop
abbrev TA := St → Hp → (List V → Hp → Prop) → Prop
structure Ends where
  nx : St → Hp → Prop
  rt : VK
  bk : St → Hp → Prop := fun _ _ => False
  ct : St → Hp → Prop := fun _ _ => False
abbrev TS := Ends → St → Hp → Prop
def EP (X : Cx) (pins : List (Addr × Obj)) (σ : St) (Q : VK) (u : Value) (s' : Shared) : Prop := ∃ v H', Inv X pins σ H' s' ∧ RelV v u ∧ Q v H'
def TP (X : Cx) (pins : List (Addr × Obj)) (σ : St) (Q : Bool → Hp → Prop) (b : Bool) (s' : Shared) : Prop := ∃ H', Inv X pins σ H' s' ∧ Q b H'
def AP (X : Cx) (pins : List (Addr × Obj)) (σ : St) (Q : List V → Hp → Prop) (us : List Value) (s' : Shared) : Prop := ∃ vs H', Inv X pins σ H' s' ∧ Vals vs us ∧ Q vs H'
def SP (X : Cx) (pins : List (Addr × Obj)) (D : Ends) (f : Flow) (s' : Shared) : Prop :=
  match f with
  | .next => ∃ σ' H', Inv X pins σ' H' s' ∧ D.nx σ' H'
  | .brk => ∃ σ' H', Inv X pins σ' H' s' ∧ D.bk σ' H'
  | .cont => ∃ σ' H', Inv X pins σ' H' s' ∧ D.ct σ' H'
  | .ret u => ∃ v σ' H', Inv X pins σ' H' s' ∧ RelV v u ∧ D.rt v H'
def PE (X : Cx) (e : Expr) (t : TE) : Prop :=
  ∀ (pins : List (Addr × Obj)) (s : Shared) (σ : St) (H : Hp) (Q : VK), Inv X pins σ H s → t σ H Q → wpAny (model X.prog X.w) X.A (eval e X.env) (EP X pins σ Q) X.xe s
def PT (X : Cx) (e : Expr) (t : TT) : Prop :=
  ∀ (pins : List (Addr × Obj)) (s : Shared) (σ : St) (H : Hp) (Q : Bool → Hp → Prop), Inv X pins σ H s → t σ H Q → wpAny (model X.prog X.w) X.A (isTrue e X.env (eval e X.env)) (TP X pins σ Q) X.xe s
def PW (X : Cx) (e : Expr) (t : TT) : Prop :=
  ∀ (whole : Sem Value) (pins : List (Addr × Obj)) (s : Shared) (σ : St) (H : Hp) (Q : Bool → Hp → Prop), Inv X pins σ H s → t σ H Q → wpAny (model X.prog X.w) X.A (isTrue e X.env whole) (TP X pins σ Q) X.xe s
theorem PW.pt {X : Cx} {e : Expr} {t : TT} (h : PW X e t) : PT X e t := h _
def PA (X : Cx) (es : List Expr) (t : TA) : Prop :=
  ∀ (pos : Pos) (pins : List (Addr × Obj)) (s : Shared) (σ : St) (H : Hp) (Q : List V → Hp → Prop), Inv X pins σ H s → t σ H Q → wpAny (model X.prog X.w) X.A (spliced (backTo pos (starEach es X.env))) (AP X pins σ Q) X.xe s
def PS (X : Cx) (st : Stmt) (t : TS) : Prop :=
  ∀ (pins : List (Addr × Obj)) (s : Shared) (σ : St) (H : Hp) (D : Ends), Inv X pins σ H s → t D σ H → wpAny (model X.prog X.w) X.A (exec st X.env) (SP X pins D) X.xe s
def PSs (X : Cx) (st : List Stmt) (t : TS) : Prop :=
  ∀ (pins : List (Addr × Obj)) (s : Shared) (σ : St) (H : Hp) (D : Ends), Inv X pins σ H s → t D σ H → wpAny (model X.prog X.w) X.A (execs st X.env) (SP X pins D) X.xe s
theorem thn {α : Type} {t : Sem α} {Q Q' : α → Shared → Prop} {M : Model} {A : Around} {E : Value → Shared → Prop} {s : Shared} (h : wpAny M A t Q E s) (hQ : ∀ a s, Q a s → Q' a s) : wpAny M A t Q' E s := wpAny_mono h hQ fun _ _ x => x
end L2
namespace L2
open PySem PySem.Spec PyProof.Rows
section
variable {X : Cx}
def tVar (i : Nat) : TE := fun σ H Q => ∃ v, σ[i]? = some (some v) ∧ Q v H
def tC (v : V) : TE := fun _ H Q => Q v H
theorem pe_var {i : Nat} {x : Str} {pos : Pos} (hN : X.N[i]? = some x) (hv : Vis X.env.scope x) (hd : (x == ("__debug__" : Str)) = false := by decide) (hcd : (x == ("__classdict__" : Str)) = false := by decide) : PE X (.Name x pos) (tVar i) := by
  intro pins s σ H Q I h
  obtain ⟨v, e, h⟩ := h
  obtain ⟨m, hn, hl⟩ := I.loc
  obtain ⟨u, r, l⟩ := hl i x v hN e hv
  have fin : EP X pins σ Q u s := ⟨v, H, I, r, h⟩
  rcases l with ⟨hk, hm⟩ | ⟨hk, c, hc, hcell⟩
  · exact wpAny_Name (wpAny_loadName_local I.ok.kind hk hn hm fin) hd
  · rcases hk with hk | hk
    · exact wpAny_Name (wpAny_loadName_cell I.ok.kind hk hc hcell fin) hd
    · exact wpAny_Name (wpAny_loadName_free I.ok.kind hk hc hcell fin hcd) hd
theorem pe_int {i j pos} : PE X (.Constant (.int i) j pos) (tC (.int i)) := fun _ _ _ H _ I h => wpAny_Constant_int ⟨.int i, H, I.tok _, ⟨_, rfl⟩, h⟩
theorem pe_bl {b j pos} : PE X (.Constant (.bool b) j pos) (tC (.bl b)) := fun _ _ _ H _ I h => Constant_bool ⟨.bl b, H, I, rfl, h⟩
theorem pe_non {j pos} : PE X (.Constant .none j pos) (tC .non) := fun _ _ _ H _ I h => Constant_none ⟨.non, H, I, rfl, h⟩
theorem pe_str {x j pos} : PE X (.Constant (.str x) j pos) (tC (.str x)) := fun _ _ _ H _ I h => Calls.Constant_str ⟨.str x, H, I.tok _, ⟨_, rfl⟩, h⟩
def Gl (X : Cx) (x : Str) : Prop := X.env.kindOf x = some .globalImplicit
theorem ld_glob {E : Value → Shared → Prop} {pins : List (Addr × Obj)} {s : Shared} {σ : St} {H : Hp} {x : Str} {u : Value} {pos : Pos} {Q : Value → Shared → Prop} (I : Inv X pins σ H s) (hg : Gl X x) (hm : X.mg x = some u) (h : Q u s)
    (hd : (x == ("__debug__" : Str)) = false := by decide) : wpAny (model X.prog X.w) X.A (eval (.Name x pos) X.env) Q E s :=
  Calls.Name_function_global I.ok.kind hg (Calls.loadGlobal_global (by rw [I.ok.glob]; exact I.mod.glob.keeps I.bk) hm h) hd
theorem ld_blt {E : Value → Shared → Prop} {pins : List (Addr × Obj)} {s : Shared} {σ : St} {H : Hp} {x : Str} {u : Value} {pos : Pos} {Q : Value → Shared → Prop} (I : Inv X pins σ H s) (hg : Gl X x) (hm : X.mg x = none) (hv : bootBuiltins x = some u) (h : Q u s)
    (hn : x ≠ "__name__" := by decide) (hd : (x == ("__debug__" : Str)) = false := by decide) : wpAny (model X.prog X.w) X.A (eval (.Name x pos) X.env) Q E s := by
  obtain ⟨mb, h1, h2⟩ := I.mod.blt
  exact Calls.Name_function_global I.ok.kind hg (Calls.loadGlobal_builtin (by rw [I.ok.glob]; exact I.mod.glob.keeps I.bk) hm (by rw [I.ok.blt]; exact h1.keeps I.bk) ((h2 x hn).trans hv) h) hd
theorem pe_glob {x : Str} {v : V} {u : Value} {pos : Pos} (hg : Gl X x) (hm : X.mg x = some u) (r : RelV v u) (hd : (x == ("__debug__" : Str)) = false := by decide) : PE X (.Name x pos) (tC v) :=
  fun _ _ _ H _ I h => ld_glob I hg hm ⟨v, H, I, r, h⟩ hd
theorem pe_bltn {x : Str} {v : V} {u : Value} {pos : Pos} (hg : Gl X x) (hm : X.mg x = none) (hv : bootBuiltins x = some u) (r : RelV v u) (hn : x ≠ "__name__" := by decide) (hd : (x == ("__debug__" : Str)) = false := by decide) : PE X (.Name x pos) (tC v) :=
  fun _ _ _ H _ I h => ld_blt I hg hm hv ⟨v, H, I, r, h⟩ hn hd
variable {a b : Expr} {ta tb : TE} {pos : Pos}
def tB (t : TE) : TT := fun σ H Q => t σ H fun x H1 => ∃ c, x = .bl c ∧ Q c H1
theorem pt_val {e : Expr} {t : TE} (h : PE X e t) (he : ∀ whole, isTrue e X.env whole = (do let v ← whole; standAt e.pos; holding [v] (truthy v)) := by intro _; rfl) : PT X e (tB t) := by
  intro pins s σ H Q I hw
  refine isTrue_plain (thn (h pins s σ H _ I hw) fun v s1 ⟨x, H1, I1, r1, q1⟩ => ?_) (he _)
  obtain ⟨d, rfl, q⟩ := q1
  cases r1
  exact wpAny_truthy_bool ⟨H1, I1, q⟩
variable {tA tB' : TT} {rest : List Expr}
def tAnd (t u : TT) : TT := fun σ H Q => t σ H fun c H1 => if c = true then u σ H1 Q else Q false H1
def tOr (t u : TT) : TT := fun σ H Q => t σ H fun c H1 => if c = true then Q true H1 else u σ H1 Q
def tNot (t : TT) : TT := fun σ H Q => t σ H fun c H1 => Q (!c) H1
theorem pw_and1 (ha : PT X a tA) : PW X (.BoolOp .And [a] pos) tA := by
  intro wh pins s σ H Q I h
  refine isTrue_and (thn (ha pins s σ H Q I h) fun c s1 e => ?_)
  cases c with
  | true => exact isTrue_and_nil e
  | false => exact e
theorem pw_or1 (ha : PT X a tA) : PW X (.BoolOp .Or [a] pos) tA := by
  intro wh pins s σ H Q I h
  refine isTrue_or (thn (ha pins s σ H Q I h) fun c s1 e => ?_)
  cases c with
  | false => exact isTrue_or_nil e
  | true => exact e
theorem pw_and (ha : PT X a tA) (hb : PW X (.BoolOp .And (b :: rest) pos) tB') : PW X (.BoolOp .And (a :: b :: rest) pos) (tAnd tA tB') := by
  intro wh pins s σ H Q I h
  refine isTrue_and (thn (ha pins s σ H _ I h) fun c s1 ⟨H1, I1, q1⟩ => ?_)
  cases c with
  | true => exact hb wh pins s1 σ H1 Q I1 q1
  | false => exact ⟨H1, I1, q1⟩
theorem pw_or (ha : PT X a tA) (hb : PW X (.BoolOp .Or (b :: rest) pos) tB') : PW X (.BoolOp .Or (a :: b :: rest) pos) (tOr tA tB') := by
  intro wh pins s σ H Q I h
  refine isTrue_or (thn (ha pins s σ H _ I h) fun c s1 ⟨H1, I1, q1⟩ => ?_)
  cases c with
  | true => exact ⟨H1, I1, q1⟩
  | false => exact hb wh pins s1 σ H1 Q I1 q1
theorem pt_not (ha : PT X a tA) : PT X (.UnaryOp .Not a pos) (tNot tA) := by
  intro pins s σ H Q I h
  exact isTrue_not (ha pins s σ H (fun c H1 => Q (!c) H1) I h)
def tAndV (ta tb : TE) : TE := fun σ H Q => ta σ H fun x H1 => ∃ c, x = .bl c ∧ if c = true then tb σ H1 Q else Q (.bl false) H1
def tNotV (ta : TE) : TE := fun σ H Q => ta σ H fun x H1 => ∃ c, x = .bl c ∧ Q (.bl (!c)) H1
theorem pe_one {op} {t : TE} (h : PE X a t) : PE X (.BoolOp op [a] pos) t := fun pins s σ H Q I hw => BoolOp_one (h pins s σ H Q I hw)
theorem pe_and (ha : PE X a ta) (hb : PE X (.BoolOp .And (b :: rest) pos) tb) : PE X (.BoolOp .And (a :: b :: rest) pos) (tAndV ta tb) := by
  intro pins s σ H Q I h
  refine BoolOp_and (thn (ha pins s σ H _ I h) fun v s1 ⟨x, H1, I1, r1, q1⟩ => ?_)
  obtain ⟨c, rfl, q1⟩ := q1
  cases r1
  refine wpAny_truthy_bool ?_
  cases c with
  | true => exact hb pins s1 σ H1 Q I1 q1
  | false => exact ⟨.bl false, H1, I1, rfl, q1⟩
theorem pe_not (ha : PE X a ta) : PE X (.UnaryOp .Not a pos) (tNotV ta) := by
  intro pins s σ H Q I h
  refine UnaryOp_ (thn (ha pins s σ H _ I h) fun v s1 ⟨x, H1, I1, r1, q1⟩ => ?_)
  obtain ⟨c, rfl, q1⟩ := q1
  cases r1
  exact not_of (wpAny_truthy_bool ⟨.bl (!c), H1, I1, rfl, q1⟩)
end
end L2
namespace L2
open PySem PySem.Spec PyProof.Rows
def SqL (K : PySem.W.Frag) (H : Hp) (a : Addr) (xs : List V) : Prop :=
  Rd H a (.lst xs) ∨
    ∃ (o : Obj) (its : Array Value) (n : Nat), K.lookup a = some o ∧ o.cls = .type "list" ∧ o.dict = none ∧ o.data = .seq its n ∧ its.size ≤ sizeLine ∧ Vals xs its.toList
def SqT (K : PySem.W.Frag) (H : Hp) (a : Addr) (xs : List V) : Prop :=
  Rd H a (.tup xs) ∨
    ∃ (o : Obj) (its : Array Value) (n : Nat), K.lookup a = some o ∧ o.cls = .type "tuple" ∧ o.data = .seq its n ∧ its.size ≤ sizeLine ∧ Vals xs its.toList
def absV : Value → Option V
  | .none => some .non
  | .bool b => some (.bl b)
  | .int i _ => some (.int i)
  | .str x _ => some (.str x)
  | .bytes b _ => some (.byt b)
  | .float b _ => some (.flt b)
  | .ref a => some (.ref a)
  | .type n => some (.ty n)
  | _ => none
theorem RelV.abs {x : V} {u : Value} (r : RelV x u) : absV u = some x := by
  cases x with
  | non => cases r; rfl
  | bl _ => cases r; rfl
  | int _ => obtain ⟨t, rfl⟩ := r; rfl
  | str _ => obtain ⟨t, rfl⟩ := r; rfl
  | byt _ => obtain ⟨t, rfl⟩ := r; rfl
  | flt _ => obtain ⟨t, rfl⟩ := r; rfl
  | ref _ => cases r; rfl
  | ty _ => cases r; rfl
theorem RelV.inj {x y : V} {u : Value} (r : RelV x u) (q : RelV y u) : x = y := Option.some.inj (r.abs.symm.trans q.abs)
theorem Vals.inj : ∀ {xs ys : List V} {us : List Value}, Vals xs us → Vals ys us → xs = ys
  | _, _, _, .nil, .nil => rfl
  | _, _, _, .cons r t, .cons r' t' => by rw [r.inj r', Vals.inj t t']
section
variable {X : Cx} {pins : List (Addr × Obj)} {σ : St} {H : Hp} {s : Shared} {a : Addr} {xs ys : List V}
theorem SqL.of {K : PySem.W.Frag} (h : H a = some (.lst xs)) : SqL K H a xs := .inl (.inl h)
theorem SqT.of {K : PySem.W.Frag} (h : H a = some (.tup xs)) : SqT K H a xs := .inl (.inl h)
theorem Inv.list (I : Inv X pins σ H s) (h : SqL X.K H a xs) : ∃ its : List Value, Vals xs its ∧ PlainL s.heap a its.toArray ∧ xs.length ≤ sizeLine := by
  rcases h with h | ⟨o, its, n, hk, hc, hd, hs, hz, r⟩
  · obtain ⟨z, its, n, r, e⟩ := h.ok I.hok
    exact ⟨its, r, ⟨_, n, e, rfl, rfl, rfl⟩, z⟩
  · refine ⟨its.toList, r, ⟨o, n, I.kIn a o hk, hc, hd, by simpa using hs⟩, ?_⟩
    have e := r.length
    simp only [Array.length_toList] at e
    omega
theorem Inv.tuple (I : Inv X pins σ H s) (h : SqT X.K H a xs) : ∃ its : List Value, Vals xs its ∧ IsTup s.heap a its.toArray ∧ xs.length ≤ sizeLine := by
  rcases h with h | ⟨o, its, n, hk, hc, hs, hz, r⟩
  · obtain ⟨z, its, r, p⟩ := h.ok I.hok
    exact ⟨its, r, p, z⟩
  · refine ⟨its.toList, r, ⟨o, I.kIn a o hk, hc, n, by simpa using hs⟩, ?_⟩
    have e := r.length
    simp only [Array.length_toList] at e
    omega
theorem Inv.list_inj (I : Inv X pins σ H s) (h : SqL X.K H a xs) (h' : SqL X.K H a ys) : xs = ys := by
  obtain ⟨its, r, ⟨o, n, e, _, _, d⟩, _⟩ := I.list h
  obtain ⟨its', r', ⟨o', n', e', _, _, d'⟩, _⟩ := I.list h'
  rw [e] at e'; cases e'
  rw [d] at d'
  injection d' with d1 _
  have : its = its' := by simpa using congrArg Array.toList d1
  subst this
  exact r.inj r'
theorem Inv.tuple_inj (I : Inv X pins σ H s) (h : SqT X.K H a xs) (h' : SqT X.K H a ys) : xs = ys := by
  obtain ⟨its, r, ⟨o, e, _, n, d⟩, _⟩ := I.tuple h
  obtain ⟨its', r', ⟨o', e', _, n', d'⟩, _⟩ := I.tuple h'
  rw [e] at e'; cases e'
  rw [d] at d'
  injection d' with d1 _
  have : its = its' := by simpa using congrArg Array.toList d1
  subst this
  exact r.inj r'
end
abbrev Cx.wish (X : Cx) (E : Value → Shared → Prop) : Cx := { X with xe := E }
abbrev Cx.nox (X : Cx) : Cx := X.wish fun _ _ => False
theorem Cx.Ok.wish {X : Cx} (ok : X.Ok) (E : Value → Shared → Prop) : (X.wish E).Ok :=
  ⟨ok.mod, ok.kind, ok.glob, ok.blt, ok.above, ok.inj, ok.has, ok.cab, ok.hd, ok.frames, ok.stk, ok.exf, ok.bs, ok.bsz, ok.noex, ok.exfs, ok.funs, ok.frf⟩
theorem Cx.Ok.unwish {X : Cx} {E : Value → Shared → Prop} (ok : (X.wish E).Ok) : X.Ok :=
  ⟨ok.mod, ok.kind, ok.glob, ok.blt, ok.above, ok.inj, ok.has, ok.cab, ok.hd, ok.frames, ok.stk, ok.exf, ok.bs, ok.bsz, ok.noex, ok.exfs, ok.funs, ok.frf⟩
section
variable {X : Cx} {pins : List (Addr × Obj)} {σ : St} {H : Hp} {s : Shared} {E : Value → Shared → Prop}
theorem Inv.wish (I : Inv X pins σ H s) (E : Value → Shared → Prop) : Inv (X.wish E) pins σ H s := ⟨I.ok.wish E, I.os, I.bare, I.base, I.loc, I.cell, I.free, I.freeC, I.pin, I.hok, I.len⟩
theorem Inv.unwish (I : Inv (X.wish E) pins σ H s) : Inv X pins σ H s := ⟨I.ok.unwish, I.os, I.bare, I.base, I.loc, I.cell, I.free, I.freeC, I.pin, I.hok, I.len⟩
theorem SP.unwish {D : Ends} {f : Flow} {s' : Shared} (h : SP (X.wish E) pins D f s') : SP X pins D f s' := by
  cases f with
  | next => obtain ⟨σ', H', I, q⟩ := h; exact ⟨σ', H', I.unwish, q⟩
  | brk => obtain ⟨σ', H', I, q⟩ := h; exact ⟨σ', H', I.unwish, q⟩
  | cont => obtain ⟨σ', H', I, q⟩ := h; exact ⟨σ', H', I.unwish, q⟩
  | ret u => obtain ⟨v, σ', H', I, r, q⟩ := h; exact ⟨v, σ', H', I.unwish, r, q⟩
theorem PSs.nox {st : List Stmt} {t : TS} (h : PSs X.nox st t) : PSs X st t := fun pins s σ H D I hw =>
  wpAny_mono (h pins s σ H D (I.wish _) hw) (fun _ _ q => q.unwish) fun _ _ z => False.elim z
end
section
variable {X : Cx} {st : Stmt} {rest : List Stmt} {t u : TS} {e : Expr} {te : TE} {pos : Pos}
def tNext : TS := fun D σ H => D.nx σ H
def tSeq (t u : TS) : TS := fun D σ H => t { D with nx := u D } σ H
theorem pss_nil : PSs X [] tNext := fun _ _ σ H _ I h => wpAny_execs_nil ⟨σ, H, I, h⟩
theorem pss_cons (h1 : PS X st t) (h2 : PSs X rest u) : PSs X (st :: rest) (tSeq t u) := by
  intro pins s σ H D I h
  refine wpAny_execs_cons (thn (h1 pins s σ H { D with nx := u D } I h) fun f s1 q => ?_)
  cases f with
  | next =>
    obtain ⟨σ', H', I', q⟩ := q
    exact h2 pins s1 σ' H' D I' q
  | ret v => exact q
  | brk => exact q
  | cont => exact q
theorem pss_one (h1 : PS X st t) : PSs X [st] t := by
  intro pins s σ H D I h
  refine wpAny_execs_cons (thn (h1 pins s σ H D I h) fun f s1 q => ?_)
  cases f with
  | next => exact wpAny_execs_nil q
  | ret v => exact q
  | brk => exact q
  | cont => exact q
theorem Inv.quiet {pins : List (Addr × Obj)} {σ : St} {H : Hp} {s : Shared} (I : Inv X pins σ H s) : interactive X.env = false := by simp [interactive, I.ok.kind]
def tDrop (te : TE) : TS := fun D σ H => te σ H fun _ H1 => D.nx σ H1
theorem ps_expr (he : PE X e te) (hs : swapsWith e none pos.line X.env = pure false := by rfl) : PS X (.Expr e pos) (tDrop te) := by
  intro pins s σ H D I h
  exact wpAny_Expr_any (thn (he pins s σ H _ I h) fun v s1 ⟨x, H1, I1, r1, q1⟩ => ⟨σ, H1, I1, q1⟩) I.quiet hs
def tRet (te : TE) : TS := fun D σ H => te σ H D.rt
theorem ps_ret (he : PE X e te) : PS X (.Return (some e) pos) (tRet te) := by
  intro pins s σ H D I h
  exact wpAny_Return_some (thn (he pins s σ H _ I h) fun v s1 ⟨x, H1, I1, r1, q1⟩ => ⟨x, σ, H1, I1, r1, q1⟩)
def tIfS (c : TT) (t u : TS) : TS := fun D σ H => c σ H fun b H1 => if b = true then t D σ H1 else u D σ H1
theorem ps_if {c : Expr} {a b : List Stmt} {tc : TT} (hc : PT X c tc) (ha : PSs X a t) (hb : PSs X b u) : PS X (.If c a b pos) (tIfS tc t u) := by
  intro pins s σ H D I h
  refine wpAny_If (thn (hc pins s σ H _ I h) fun d s1 ⟨H1, I1, q1⟩ => ?_)
  cases d with
  | true => exact ha pins s1 σ H1 D I1 q1
  | false => exact hb pins s1 σ H1 D I1 q1
def tNever : TS := fun _ _ _ => False
theorem pss_never {sts : List Stmt} : PSs X sts tNever := fun _ _ _ _ _ _ h => h.elim
end
abbrev TG := V → St → Hp → (St → Hp → Prop) → Prop
abbrev TGs := List V → St → Hp → (St → Hp → Prop) → Prop
def PG (X : Cx) (target : Expr) (t : TG) : Prop :=
  ∀ (pins : List (Addr × Obj)) (s : Shared) (σ : St) (H : Hp) (v : V) (u : Value) (Q : St → Hp → Prop), Inv X pins σ H s → RelV v u → t v σ H Q →
    wpAny (model X.prog X.w) X.A (assign target X.env u) (fun _ s' => ∃ σ' H', Inv X pins σ' H' s' ∧ Q σ' H') X.xe s
def PGs (X : Cx) (ts : List Expr) (t : TGs) : Prop :=
  ∀ (pins : List (Addr × Obj)) (s : Shared) (σ : St) (H : Hp) (vs : List V) (us : List Value) (Q : St → Hp → Prop), Inv X pins σ H s → Vals vs us → t vs σ H Q →
    wpAny (model X.prog X.w) X.A (assignInOrder ((assignEach ts X.env).map (·.2)) us) (fun _ s' => ∃ σ' H', Inv X pins σ' H' s' ∧ Q σ' H') X.xe s
section
variable {X : Cx} {pos : Pos}
def gName (i : Nat) : TG := fun v σ H Q => Q (σ.set i (some v)) H
theorem pg_name {i : Nat} {x : Str} (hN : X.N.Nodup) (hi : X.N[i]? = some x) (hx : Loc X.env.scope x) (hf : X.fn x = true ∨ X.env.scope.names.lookup x = some .local := by first | exact .inl rfl | exact .inr rfl | assumption) : PG X (.Name x pos) (gName i) := by
  intro pins s σ H v u Q I r h
  exact wpAny_assign_Name (store_ok I hN hi hx r (fun s' I' => ⟨_, H, I', h⟩) hf)
def gNil : TGs := fun vs σ H Q => vs = [] ∧ Q σ H
def gCons (t : TG) (u : TGs) : TGs := fun vs σ H Q => ∃ v r, vs = v :: r ∧ t v σ H fun σ' H' => u r σ' H' Q
theorem pgs_nil : PGs X [] gNil := by
  intro pins s σ H vs us Q I r h
  obtain ⟨e, h⟩ := h
  subst e
  cases r
  exact assignInOrder_nil ⟨σ, H, I, h⟩
theorem pgs_cons {e : Expr} {es : List Expr} {t : TG} {u : TGs} (h1 : PG X e t) (h2 : PGs X es u)
    (hs : (assignEach (e :: es) X.env).map (·.2) = assign e X.env :: (assignEach es X.env).map (·.2) := by rfl) : PGs X (e :: es) (gCons t u) := by
  intro pins s σ H vs us Q I r h
  obtain ⟨v, vr, e1, h⟩ := h
  subst e1
  cases r with
  | cons r rr =>
    rw [hs]
    refine assignInOrder_cons (thn (h1 pins s σ H _ _ _ I r h) fun _ s1 ⟨σ1, H1, I1, q1⟩ => ?_)
    exact h2 pins s1 σ1 H1 _ _ Q I1 rr q1
def gTup (K : PySem.W.Frag) (n : Nat) (t : TGs) : TG := fun v σ H Q => ∃ a xs, v = .ref a ∧ SqT K H a xs ∧ xs.length = n ∧ t xs σ H Q
theorem pg_tup {es : List Expr} {k : Nat} {t : TGs} {n : Nat} (hc : X.calm = true) (h : PGs X es t)
    (hn : (assignEach es X.env).length = n := by rfl) (hst : (assignEach es X.env).findIdx? (·.1) = none := by rfl) : PG X (.Tuple es k pos) (gTup X.K n t) := by
  intro pins s σ H v u Q I r hw
  obtain ⟨a, xs, e1, hq, hl, hw⟩ := hw
  subst e1
  cases r
  obtain ⟨its, rv, ht, hz⟩ := I.tuple hq
  refine assign_Tuple_tuple (I.ok.hd hc) ht (by simp [hn, ← hl, rv.length]) hst fun h' hx => ?_
  have I1 : Inv X pins σ H { s with heap := h' } := I.kept (t' := s.toks) fun b o e => hx b o (Nat.ne_of_lt (Heap.lt_size e)) e
  exact h pins _ σ H xs _ Q I1 (by simpa using rv) hw
def tAsg (te : TE) (g : TG) : TS := fun D σ H => te σ H fun x H1 => g x σ H1 D.nx
theorem ps_asg {tg e : Expr} {te : TE} {g : TG} (he : PE X e te) (hg : PG X tg g) (hs : swapsWithSole [tg] e pos.line X.env = pure false := by rfl) (hw : swappedStores [tg] e X.env = pure none := by rfl)
    (h1 : (assignEach [tg] X.env).map (·.2) = [assign tg X.env] := by rfl) : PS X (.Assign [tg] e pos) (tAsg te g) := by
  intro pins s σ H D I h
  refine wpAny_Assign_stores (thn (he pins s σ H _ I h) fun v s1 ⟨x, H1, I1, r1, q1⟩ => ?_) hs hw
  rw [h1]
  exact thn (hg pins s1 σ H1 x v _ I1 r1 q1) fun _ s2 q => q
theorem ps_set {i : Nat} {x : Str} {e : Expr} {te : TE} {pos' : Pos} (hN : X.N.Nodup) (hi : X.N[i]? = some x) (hx : Loc X.env.scope x) (he : PE X e te) (hs : swapsWith e (some (.Name x pos')) pos.line X.env = pure false := by rfl) (hf : X.fn x = true ∨ X.env.scope.names.lookup x = some .local := by first | exact .inl rfl | exact .inr rfl | assumption) :
    PS X (.Assign [.Name x pos'] e pos) (tAsg te (gName i)) := by
  intro pins s σ H D I h
  refine wpAny_Assign_Name (thn (he pins s σ H _ I h) fun v s1 ⟨y, H1, I1, r1, q1⟩ => ?_) hs
  exact store_ok I1 hN hi hx r1 (fun s2 I2 => ⟨_, H1, I2, q1⟩) hf
end
section
variable {X : Cx} {pos : Pos}
end
structure It where
  go : Nat → Hp → Prop
  yld : Nat → Hp → V → Hp → Prop
  stop : Nat → Hp → Prop
def FpOk (X : Cx) (pins : List (Addr × Obj)) (H : Hp) (b : Addr) : Prop :=
  H b = none ∧ b ≠ X.env.locals ∧ b ∉ X.fs ∧ (b ∈ X.ex ∨ X.s₀.heap.objs.size ≤ b) ∧ (∀ x c, X.env.cells.lookup x = some c → c ≠ b) ∧ ∀ p ∈ X.pn ++ pins, p.1 ≠ b
theorem Inv.fpOk {X : Cx} {pins : List (Addr × Obj)} {σ : St} {H H' : Hp} {s : Shared} {b : Addr} (I : Inv X pins σ H s) (hb : s.heap.objs.size ≤ b) (hn : H' b = none) : FpOk X pins H' b := by
  refine ⟨hn, Nat.ne_of_gt (Nat.lt_of_lt_of_le I.lt hb), I.nofs hb, .inr (Nat.le_trans I.sz hb), fun x c e z => ?_, fun p hp z => ?_⟩
  · obtain ⟨v, q⟩ := I.cell x c e
    exact absurd (Nat.lt_of_lt_of_le q.lt (by rw [z]; exact hb)) (Nat.lt_irrefl _)
  · exact absurd (Nat.lt_of_lt_of_le (Heap.lt_size (I.pin p hp).1) (by rw [z]; exact hb)) (Nat.lt_irrefl _)
structure Turn (P : Program) (w : World) (K : PySem.W.Frag) (tg : Expr) (J : It) (fp : List Addr) (it : Addr) (tn : Nat → Heap → Prop) : Prop where
  mem : it ∈ fp
  obj : ∀ i h, tn i h → ∀ b ∈ fp, ∃ o, h.get? b = some o ∧ ∀ v, o.data ≠ .cell v
  keep : ∀ i h h', tn i h → (∀ b ∈ fp, ∀ o, h.get? b = some o → h'.get? b = some o) → tn i h'
  item : ∀ (X : Cx), X.prog = P → X.w = w → X.K = K → X.calm = true → ∀ (i : Nat) (pins : List (Addr × Obj)) (s : Shared) (σ : St) (H : Hp) (E : Value → Shared → Prop), Inv X pins σ H s → (∀ b ∈ fp, FpOk X pins H b) → tn i s.heap → J.go i H →
    wpAny (model P w) X.A (pyNext (.ref it)) (fun r s1 => ∃ u, r = some u ∧
      wpAny (model P w) X.A (letOwnedTupleGo tg (.ref it) u) (fun _ s2 => ∃ x H', Inv X pins σ H' s2 ∧ RelV x u ∧ J.yld i H x H' ∧ tn (i + 1) s2.heap ∧ ∀ b ∈ fp, H' b = none) E s1) E s
  done : ∀ (X : Cx), X.prog = P → X.w = w → X.K = K → X.calm = true → ∀ (i : Nat) (pins : List (Addr × Obj)) (s : Shared) (σ : St) (H : Hp) (E : Value → Shared → Prop), Inv X pins σ H s → (∀ b ∈ fp, FpOk X pins H b) → tn i s.heap → J.stop i H →
    wpAny (model P w) X.A (pyNext (.ref it)) (fun r s1 => r = none ∧ Inv X pins σ H s1) E s
  self : ∀ (A : Around) (i : Nat) (s : Shared) (Q : Value → Shared → Prop) (E : Value → Shared → Prop), tn i s.heap → Q (.ref it) s → wpAny (model P w) A (pyIter (.ref it)) Q E s
abbrev TI := St → Hp → (It → Hp → Prop) → Prop
def PIE (X : Cx) (pins : List (Addr × Obj)) (σ : St) (tg : Expr) (R : It → Hp → Prop) (itv : Value) (s2 : Shared) : Prop :=
  ∃ (it : Addr) (fp : List Addr) (tn : Nat → Heap → Prop) (J : It) (H' : Hp), itv = .ref it ∧ Inv X pins σ H' s2 ∧ Turn X.prog X.w X.K tg J fp it tn ∧ tn 0 s2.heap ∧ (∀ b ∈ fp, FpOk X pins H' b) ∧ R J H'
def PI (X : Cx) (tg iter : Expr) (wi : TI) : Prop :=
  ∀ (pins : List (Addr × Obj)) (s : Shared) (σ : St) (H : Hp) (R : It → Hp → Prop), Inv X pins σ H s → wi σ H R →
    wpAny (model X.prog X.w) X.A (eval iter X.env) (fun v s1 => wpAny (model X.prog X.w) X.A (pyIter v) (PIE X pins σ tg R) X.xe s1) X.xe s
theorem go_of {M : Model} {A : Around} {E : Value → Shared → Prop} {s : Shared} {tg : Expr} {it : Addr} {u : Value} {o : Obj} {n : String} {vs : Array Value} {Q : Unit → Shared → Prop} (ho : s.heap.get? it = some o) (hc : o.cls = .type n) (hd : o.data = .fields vs)
    (hn : ["enumerate", "zip", "dict_itemiterator", "dict_reverseitemiterator", "odict_iterator", "itertools.zip_longest", "itertools.pairwise"].contains n = false) (hQ : Q () s) : wpAny M A (letOwnedTupleGo tg (.ref it) u) Q E s := by
  unfold letOwnedTupleGo
  cases tg <;> first
    | exact wpAny_pure hQ
    | (cases u <;> first
        | exact wpAny_pure hQ
        | (refine wpAny_bind (wpAny_load ho ?_)
           rw [hc, hd]
           show wpAny M A (if (["enumerate", "zip", "dict_itemiterator", "dict_reverseitemiterator", "odict_iterator", "itertools.zip_longest", "itertools.pairwise"].contains n && vs[0]? == some (rawInt _)) = true then _ else _) Q E s
           rw [if_neg (by intro h; rw [hn, Bool.false_and] at h; cases h)]
           exact wpAny_pure hQ))
def Itl (K : PySem.W.Frag) (a : Addr) : It :=
  ⟨fun i H => ∃ xs x, SqL K H a xs ∧ xs[i]? = some x, fun i H x H' => H' = H ∧ ∀ xs, SqL K H a xs → xs[i]? = some x, fun i H => ∃ xs, SqL K H a xs ∧ xs.length ≤ i⟩
def Itt (K : PySem.W.Frag) (a : Addr) : It :=
  ⟨fun i H => ∃ xs x, SqT K H a xs ∧ xs[i]? = some x, fun i H x H' => H' = H ∧ ∀ xs, SqT K H a xs → xs[i]? = some x, fun i H => ∃ xs, SqT K H a xs ∧ xs.length ≤ i⟩
def Itr (lo : Int) (n : Nat) : It := ⟨fun i _ => i < n, fun i H x H' => H' = H ∧ x = .int (lo + i), fun i _ => n ≤ i⟩
theorem turn_list {P : Program} {w : World} {K : PySem.W.Frag} {tg : Expr} (a it : Addr) : Turn P w K tg (Itl K a) [it] it (fun i h => h.IsListIter it a i) where
  mem := by simp
  obj := fun i h st b hb => by
    have e : b = it := by simpa using hb
    subst e
    obtain ⟨o, e, c, d⟩ := st
    exact ⟨o, e, fun v z => by rw [d] at z; cases z⟩
  keep := fun i h h' st k => st.at fun o e => k it (by simp) o e
  item := by
    intro X hP hw hK hc i pins s σ H E I hf st hg
    subst hP hw hK
    obtain ⟨xs, x, hq, hx⟩ := hg
    obtain ⟨its, rv, p, hz⟩ := I.list hq
    obtain ⟨u, hu, ru⟩ := rv.get hx
    obtain ⟨f0, f1, f2, f3, f4, f5⟩ := hf it (by simp)
    refine wpAny_pyNext_list_item st p.isList (x := u) (by simpa using hu) fun h' st' sb => ?_
    have I1 : Inv X pins σ H { s with heap := h' } := I.turned (t' := s.toks) (fun b o hb e => (sb.2 b hb).trans e) f0 f1 f3 f4 f5
    obtain ⟨o, e, c, d⟩ := id st'
    exact ⟨u, rfl, go_of (s := { s with heap := h' }) e c d (by decide) ⟨x, H, I1, ru, ⟨rfl, fun ys hy => by rw [I.list_inj hy hq]; exact hx⟩, st', fun b hb => (hf b hb).1⟩⟩
  done := by
    intro X hP hw hK hc i pins s σ H E I hf st hg
    subst hP hw hK
    obtain ⟨xs, hq, hx⟩ := hg
    obtain ⟨its, rv, p, hz⟩ := I.list hq
    obtain ⟨f0, f1, f2, f3, f4, f5⟩ := hf it (by simp)
    have hl := rv.length
    exact wpAny_pyNext_list_end (I.ok.hd hc) st p.isList (by simp; omega) fun h' eb => ⟨rfl, I.turned (t' := s.toks) (fun b o hb e => eb b o hb e) f0 f1 f3 f4 f5⟩
  self := fun _ _ _ _ _ st h => wpAny_pyIter_listiter st h
theorem turn_tuple {P : Program} {w : World} {K : PySem.W.Frag} {tg : Expr} (a it : Addr) : Turn P w K tg (Itt K a) [it] it (fun i h => h.IsTupleIter it a i) where
  mem := by simp
  obj := fun i h st b hb => by
    have e : b = it := by simpa using hb
    subst e
    obtain ⟨o, e, c, d⟩ := st
    exact ⟨o, e, fun v z => by rw [d] at z; cases z⟩
  keep := fun i h h' st k => st.at fun o e => k it (by simp) o e
  item := by
    intro X hP hw hK hc i pins s σ H E I hf st hg
    subst hP hw hK
    obtain ⟨xs, x, hq, hx⟩ := hg
    obtain ⟨its, rv, p, hz⟩ := I.tuple hq
    obtain ⟨u, hu, ru⟩ := rv.get hx
    obtain ⟨f0, f1, f2, f3, f4, f5⟩ := hf it (by simp)
    refine wpAny_pyNext_tuple_item st (show s.heap.IsTuple a its.toArray from p) (x := u) (by simpa using hu) fun h' st' sb => ?_
    have I1 : Inv X pins σ H { s with heap := h' } := I.turned (t' := s.toks) (fun b o hb e => (sb.2 b hb).trans e) f0 f1 f3 f4 f5
    obtain ⟨o, e, c, d⟩ := id st'
    exact ⟨u, rfl, go_of (s := { s with heap := h' }) e c d (by decide) ⟨x, H, I1, ru, ⟨rfl, fun ys hy => by rw [I.tuple_inj hy hq]; exact hx⟩, st', fun b hb => (hf b hb).1⟩⟩
  done := by
    intro X hP hw hK hc i pins s σ H E I hf st hg
    subst hP hw hK
    obtain ⟨xs, hq, hx⟩ := hg
    obtain ⟨its, rv, p, hz⟩ := I.tuple hq
    obtain ⟨f0, f1, f2, f3, f4, f5⟩ := hf it (by simp)
    have hl := rv.length
    exact wpAny_pyNext_tuple_end (I.ok.hd hc) st (show s.heap.IsTuple a its.toArray from p) (by simp; omega) fun h' eb => ⟨rfl, I.turned (t' := s.toks) (fun b o hb e => eb b o hb e) f0 f1 f3 f4 f5⟩
  self := fun _ _ _ _ _ st h => wpAny_pyIter_tupleiter st h
theorem turn_range {P : Program} {w : World} {K : PySem.W.Frag} {tg : Expr} (it : Addr) (lo : Int) (n : Nat) : Turn P w K tg (Itr lo n) [it] it (fun i h => IsRangeIter h it (lo + (i : Nat) * 1) ((n : Int) - (i : Nat)) 1) where
  mem := by simp
  obj := fun i h st b hb => by
    have e : b = it := by simpa using hb
    subst e
    exact ⟨_, st, fun v z => by
      have z' : Data.fields _ = Data.cell v := z
      cases z'⟩
  keep := fun i h h' st k => k it (by simp) _ st
  item := by
    intro X hP hw hK hc i pins s σ H E I hf st hg
    subst hP hw hK
    obtain ⟨f0, f1, f2, f3, f4, f5⟩ := hf it (by simp)
    have W := Walks.range (prog := X.prog) (w := X.w) (I.ok.hd hc) it lo 1 n
    refine W.item i s _ _ hg st fun v h' tk hv st' kk => ?_
    obtain ⟨t, rfl⟩ := hv
    have I1 : Inv X pins σ H { s with heap := h', toks := tk } := I.turned (fun b o hb e => kk b o (by simpa using hb) e) f0 f1 f3 f4 f5
    refine ⟨_, rfl, go_of (s := { s with heap := h', toks := tk }) (n := "range_iterator") st' rfl rfl (by decide) ⟨.int (lo + i), H, I1, ⟨t, ?_⟩, ⟨rfl, rfl⟩, st', fun b hb => (hf b hb).1⟩⟩
    rw [Int.mul_one]
  done := by
    intro X hP hw hK hc i pins s σ H E I hf st hg
    subst hP hw hK
    obtain ⟨f0, f1, f2, f3, f4, f5⟩ := hf it (by simp)
    exact wpAny_pyNext_range_end (I.ok.hd hc) st (by have : n ≤ i := hg; omega) fun h' eb => ⟨rfl, I.turned (t' := s.toks) (fun b o hb e => eb b o hb e) f0 f1 f3 f4 f5⟩
  self := fun _ _ _ _ _ st h => wpAny_pyIter_rangeiter st h
end L2
namespace L2
open PySem PySem.Spec PyProof.Rows
section
variable {X : Cx} {tg : Expr}
def iList (K : PySem.W.Frag) (tl : TE) : TI := fun σ H R => tl σ H fun x H1 => ∃ a, x = .ref a ∧ (∃ xs, SqL K H1 a xs) ∧ R (Itl K a) H1
def iTup (K : PySem.W.Frag) (tl : TE) : TI := fun σ H R => tl σ H fun x H1 => ∃ a, x = .ref a ∧ (∃ xs, SqT K H1 a xs) ∧ R (Itt K a) H1
theorem pi_list {l : Expr} {tl : TE} (hl : PE X l tl) : PI X tg l (iList X.K tl) := by
  intro pins s σ H R I h
  refine thn (hl pins s σ H _ I h) fun v s1 ⟨x, H1, I1, r1, q1⟩ => ?_
  obtain ⟨a, e, ⟨xs, hq⟩, q⟩ := q1
  subst e
  cases r1
  obtain ⟨its, rv, p, hz⟩ := I1.list hq
  refine wpAny_pyIter_list p.isList ?_
  refine ⟨s1.heap.objs.size, [s1.heap.objs.size], _, _, H1, rfl, I1.kept (t' := s1.toks) fun b o e => Heap.get?_push_of_some _ e, turn_list a _, ⟨_, Heap.get?_push_size _ rfl, rfl, rfl⟩, fun b hb => ?_, q⟩
  have e : b = s1.heap.objs.size := by simpa using hb
  subst e
  exact I1.fpOk (Nat.le_refl _) (I1.hok.fresh (Nat.le_refl _))
theorem pi_tup {l : Expr} {tl : TE} (hl : PE X l tl) : PI X tg l (iTup X.K tl) := by
  intro pins s σ H R I h
  refine thn (hl pins s σ H _ I h) fun v s1 ⟨x, H1, I1, r1, q1⟩ => ?_
  obtain ⟨a, e, ⟨xs, hq⟩, q⟩ := q1
  subst e
  cases r1
  obtain ⟨its, rv, p, hz⟩ := I1.tuple hq
  refine wpAny_pyIter_tuple (show s1.heap.IsTuple a its.toArray from p) ?_
  refine ⟨s1.heap.objs.size, [s1.heap.objs.size], _, _, H1, rfl, I1.kept (t' := s1.toks) fun b o e => Heap.get?_push_of_some _ e, turn_tuple a _, ⟨_, Heap.get?_push_size _ rfl, rfl, rfl⟩, fun b hb => ?_, q⟩
  have e : b = s1.heap.objs.size := by simpa using hb
  subst e
  exact I1.fpOk (Nat.le_refl _) (I1.hok.fresh (Nat.le_refl _))
theorem range_it {pins : List (Addr × Obj)} {σ : St} {H : Hp} {s : Shared} {R : It → Hp → Prop} {E : Value → Shared → Prop} {lo hi : Int} {t u v : Tok} {tk : Nat} (I : Inv X pins σ H s) (h1 : -(2 ^ 62) ≤ lo) (h2 : lo < 2 ^ 62) (h3 : -(2 ^ 62) ≤ hi) (h4 : hi < 2 ^ 62)
    (q : R (Itr lo (hi - lo).toNat) H) : wpAny (model X.prog X.w) X.A (pyIter (.ref s.heap.objs.size)) (PIE X pins σ tg R) E { s with heap := s.heap.push { cls := .type "range", data := .fields #[.int lo t, .int hi u, .int 1 v] }, toks := tk } := by
  refine wpAny_pyIter_range (IsRange.new ..) (small_one h1 h2 h3 h4) ?_
  have I1 : Inv X pins σ H { s with heap := s.heap.push { cls := .type "range", data := .fields #[.int lo t, .int hi u, .int 1 v] }, toks := tk } := I.kept fun b o e => Heap.get?_push_of_some _ e
  refine ⟨(s.heap.push { cls := .type "range", data := .fields #[.int lo t, .int hi u, .int 1 v] }).objs.size, [(s.heap.push { cls := .type "range", data := .fields #[.int lo t, .int hi u, .int 1 v] }).objs.size], _, _, H, rfl,
    I1.kept (t' := tk) fun b o e => Heap.get?_push_of_some _ e, turn_range _ lo (hi - lo).toNat, ?_, fun b hb => ?_, q⟩
  · have e1 : lo + ((0 : Nat) : Int) * 1 = lo := by simp
    have e2 : (((hi - lo).toNat : Nat) : Int) - ((0 : Nat) : Int) = Builtin.Range.rangeSize lo hi 1 := by rw [rangeSize_one]; split <;> omega
    show IsRangeIter _ _ (lo + ((0 : Nat) : Int) * 1) ((((hi - lo).toNat : Nat) : Int) - ((0 : Nat) : Int)) 1
    rw [e1, e2]
    exact Heap.get?_push_size _ rfl
  · have e : b = (s.heap.push { cls := .type "range", data := .fields #[.int lo t, .int hi u, .int 1 v] }).objs.size := by simpa using hb
    subst e
    exact I1.fpOk (Nat.le_refl _) (I1.hok.fresh (Nat.le_refl _))
def iRng1 (ta : TA) : TI := fun σ H R => ta σ H fun vs H1 => ∃ j : Int, vs = [.int j] ∧ -(2 ^ 62) ≤ j ∧ j < 2 ^ 62 ∧ R (Itr 0 j.toNat) H1
theorem pi_range1 {a : Expr} {ta : TA} {p pos : Pos} (hg : Gl X "range") (hm : X.mg "range" = none) (ha : PA X [a] ta) (hs : starEach [a] X.env = [(false, eval a X.env)] := by rfl) : PI X tg (.Call (.Name "range" p) [a] [] pos) (iRng1 ta) := by
  intro pins s σ H R I h
  refine Call_ (ld_blt I hg hm boot_range (PyProof.Rows.callWith_type1 (thn (ha pos pins s σ H _ I h) fun us s1 ⟨vs, H1, I1, r1, q1⟩ => ?_) hs rfl))
  obtain ⟨j, e, q1, q2, q⟩ := q1
  subst e
  cases r1 with
  | cons r rr =>
    cases rr
    obtain ⟨t, rfl⟩ := r
    exact call_range_1 (range_it I1 (by omega) (by omega) q1 q2 (by simpa using q))
def tFor (wi : TI) (g : TG) (tb : TS) : TS := fun D σ H => wi σ H fun J H1 => ∃ W : Nat → Nat → St → Hp → Prop, (∃ m, W 0 m σ H1) ∧ ∀ i m σ H, W i m σ H →
  (J.stop i H ∧ D.nx σ H) ∨ (J.go i H ∧ ∃ N : St → Hp → Prop, (∀ σ' H', N σ' H' → ∃ m', m' < m ∧ W (i + 1) m' σ' H') ∧ ∀ x H', J.yld i H x H' → g x σ H' fun σ2 H2 => tb { D with nx := N, ct := N, bk := D.nx } σ2 H2)
def pinsAt (fp : List Addr) (h : Heap) : List (Addr × Obj) := fp.filterMap fun b => (h.get? b).map fun o => (b, o)
theorem mem_pinsAt {fp : List Addr} {h : Heap} {b : Addr} {o : Obj} (hb : b ∈ fp) (e : h.get? b = some o) : (b, o) ∈ pinsAt fp h := List.mem_filterMap.mpr ⟨b, hb, by rw [e]; rfl⟩
theorem of_pinsAt {fp : List Addr} {h : Heap} {p : Addr × Obj} (hp : p ∈ pinsAt fp h) : p.1 ∈ fp ∧ h.get? p.1 = some p.2 := by
  obtain ⟨b, hb, e⟩ := List.mem_filterMap.mp hp
  cases q : h.get? b with
  | none => rw [q] at e; cases e
  | some o =>
    rw [q] at e
    have e' : (b, o) = p := Option.some.inj e
    subst e'
    exact ⟨hb, q⟩
theorem Inv.pinned {pins : List (Addr × Obj)} {σ : St} {H : Hp} {s : Shared} {fp : List Addr} (I : Inv X pins σ H s) (hf : ∀ b ∈ fp, FpOk X pins H b) (ho : ∀ b ∈ fp, ∃ o, s.heap.get? b = some o ∧ ∀ v, o.data ≠ .cell v) : Inv X (pins ++ pinsAt fp s.heap) σ H s :=
  I.pins_of fun p hp => (List.mem_append.mp hp).elim (fun z => I.pin p (List.mem_append_right _ z)) fun z => by
    obtain ⟨hb, e⟩ := of_pinsAt z
    obtain ⟨f0, f1, f2, _⟩ := hf p.1 hb
    obtain ⟨o, e', d⟩ := ho p.1 hb
    rw [e] at e'; cases e'
    exact ⟨e, f0, f1, f2, d⟩
theorem Inv.unpinned {pins pl : List (Addr × Obj)} {σ : St} {H : Hp} {s : Shared} (I : Inv X (pins ++ pl) σ H s) : Inv X pins σ H s := I.pins_of fun p hp => I.pin p (List.mem_append_right _ (List.mem_append_left _ hp))
theorem ps_for {iter : Expr} {body : List Stmt} {wi : TI} {g : TG} {tb : TS} {pos : Pos} (hp : PassesOwn (model X.prog X.w) X.A X.env X.xe) (hc : X.calm = true) (hi : PI X tg iter wi) (hg : PG X tg g) (hb : PSs X body tb)
    (hs : ∀ x, foldedSetIterable iter X.env x = pure x := by intro _; rfl) : PS X (.For tg iter body [] pos) (tFor wi g tb) := by
  intro pins s σ H D I h
  refine wpAny_For (thn (hi pins s σ H _ I h) fun v s1 h1 => thn h1 fun itv s2 h2 => ?_) hs
  obtain ⟨it, fp, tn, J, H2, e, I2, T, st2, f2, W, ⟨m0, w0⟩, turn⟩ := h2
  subst e
  have stat : ∀ {H' : Hp}, (∀ b ∈ fp, H' b = none) → ∀ b ∈ fp, FpOk X pins H' b := fun hn b hb => ⟨hn b hb, (f2 b hb).2⟩
  refine codeAny_forLoop_any (fun n s' => ∃ i σ' H', Inv X pins σ' H' s' ∧ tn i s'.heap ∧ (∀ b ∈ fp, H' b = none) ∧ W i n σ' H') ?_ m0 ⟨0, σ, H2, I2, st2, fun b hb => (f2 b hb).1, w0⟩
  rintro n s3 ⟨i, σ3, H3, I3, st3, fr3, w3⟩
  rcases turn i n σ3 H3 w3 with ⟨stop, qn⟩ | ⟨go, N, hN, step⟩
  · refine wpAny_passesOwn hp (thn (T.done X rfl rfl rfl hc i pins s3 σ3 H3 X.xe I3 (stat fr3) st3 stop) fun r s4 ⟨hr, I4⟩ => ?_)
    subst hr
    exact wpAny_execs_nil ⟨σ3, H3, I4, qn⟩
  · refine wpAny_passesOwn hp (thn (T.item X rfl rfl rfl hc i pins s3 σ3 H3 X.xe I3 (stat fr3) st3 go) fun r s4 ⟨u, hr, h4⟩ => ?_)
    subst hr
    refine wpAny_passesOwn hp (thn h4 fun _ s5 ⟨x, H5, I5, r5, y5, st5, fr5⟩ => ?_)
    have I5' := I5.pinned (stat fr5) (T.obj _ _ st5)
    refine wpAny_passesOwn hp (thn (hg _ s5 σ3 H5 x u _ I5' r5 (step x H5 y5)) fun _ s6 ⟨σ6, H6, I6, q6⟩ => ?_)
    refine wpAny_passesOwn hp (thn (hb _ s6 σ6 H6 _ I6 q6) fun f s7 q7 => ?_)
    have again : ∀ {σ7 : St} {H7 : Hp}, Inv X (pins ++ pinsAt fp s5.heap) σ7 H7 s7 → N σ7 H7 → ∃ m, m < n ∧ ∃ i σ' H', Inv X pins σ' H' s7 ∧ tn i s7.heap ∧ (∀ b ∈ fp, H' b = none) ∧ W i m σ' H' := fun {σ7 H7} I7 n7 => by
      obtain ⟨m', hm, w7⟩ := hN σ7 H7 n7
      refine ⟨m', hm, i + 1, σ7, H7, I7.unpinned, T.keep _ _ _ st5 fun b hb o e => (I7.pin (b, o) (List.mem_append_right _ (List.mem_append_right _ (mem_pinsAt hb e)))).1, fun b hb => ?_, w7⟩
      obtain ⟨o, e, d⟩ := T.obj _ _ st5 b hb
      exact (I7.pin (b, o) (List.mem_append_right _ (List.mem_append_right _ (mem_pinsAt hb e)))).2.1
    cases f with
    | next => obtain ⟨σ7, H7, I7, n7⟩ := q7; exact again I7 n7
    | cont => obtain ⟨σ7, H7, I7, n7⟩ := q7; exact again I7 n7
    | brk => obtain ⟨σ7, H7, I7, q7⟩ := q7; exact ⟨σ7, H7, I7.unpinned, q7⟩
    | ret v => obtain ⟨x7, σ7, H7, I7, r7, q7⟩ := q7; exact ⟨x7, σ7, H7, I7.unpinned, r7, q7⟩
end
theorem for_list {K : PySem.W.Frag} {a : Addr} {xs : List V} {g : TG} {tb : TS} {D : Ends} {σ : St} {H : Hp} (Pv : Nat → St → Hp → Prop) (h0 : Pv 0 σ H) (hl : ∀ i σ H, i ≤ xs.length → Pv i σ H → SqL K H a xs)
    (hs : ∀ i x σ H, xs[i]? = some x → Pv i σ H → g x σ H fun σ2 H2 => tb { D with nx := Pv (i + 1), ct := Pv (i + 1), bk := D.nx } σ2 H2) (hd : ∀ σ H, Pv xs.length σ H → D.nx σ H) :
    ∃ W : Nat → Nat → St → Hp → Prop, (∃ m, W 0 m σ H) ∧ ∀ i m σ H, W i m σ H →
      ((Itl K a).stop i H ∧ D.nx σ H) ∨ ((Itl K a).go i H ∧ ∃ N : St → Hp → Prop, (∀ σ' H', N σ' H' → ∃ m', m' < m ∧ W (i + 1) m' σ' H') ∧ ∀ x H', (Itl K a).yld i H x H' → g x σ H' fun σ2 H2 => tb { D with nx := N, ct := N, bk := D.nx } σ2 H2) := by
  refine ⟨fun i m σ H => m = xs.length - i ∧ i ≤ xs.length ∧ Pv i σ H, ⟨xs.length, by simp, Nat.zero_le _, h0⟩, ?_⟩
  rintro i m σ H ⟨rfl, hi, p⟩
  have q := hl i σ H hi p
  by_cases hlt : i < xs.length
  · refine .inr ⟨⟨xs, xs[i], q, by simp [hlt]⟩, Pv (i + 1), fun σ' H' p' => ⟨xs.length - (i + 1), by omega, rfl, hlt, p'⟩, fun x H' y => ?_⟩
    obtain ⟨e, y⟩ := y
    subst e
    exact hs i x σ _ (y xs q) p
  · have e : i = xs.length := by omega
    subst e
    exact .inl ⟨⟨xs, q, Nat.le_refl _⟩, hd σ H p⟩
theorem for_tup {K : PySem.W.Frag} {a : Addr} {xs : List V} {g : TG} {tb : TS} {D : Ends} {σ : St} {H : Hp} (Pv : Nat → St → Hp → Prop) (h0 : Pv 0 σ H) (hl : ∀ i σ H, i ≤ xs.length → Pv i σ H → SqT K H a xs)
    (hs : ∀ i x σ H, xs[i]? = some x → Pv i σ H → g x σ H fun σ2 H2 => tb { D with nx := Pv (i + 1), ct := Pv (i + 1), bk := D.nx } σ2 H2) (hd : ∀ σ H, Pv xs.length σ H → D.nx σ H) :
    ∃ W : Nat → Nat → St → Hp → Prop, (∃ m, W 0 m σ H) ∧ ∀ i m σ H, W i m σ H →
      ((Itt K a).stop i H ∧ D.nx σ H) ∨ ((Itt K a).go i H ∧ ∃ N : St → Hp → Prop, (∀ σ' H', N σ' H' → ∃ m', m' < m ∧ W (i + 1) m' σ' H') ∧ ∀ x H', (Itt K a).yld i H x H' → g x σ H' fun σ2 H2 => tb { D with nx := N, ct := N, bk := D.nx } σ2 H2) := by
  refine ⟨fun i m σ H => m = xs.length - i ∧ i ≤ xs.length ∧ Pv i σ H, ⟨xs.length, by simp, Nat.zero_le _, h0⟩, ?_⟩
  rintro i m σ H ⟨rfl, hi, p⟩
  have q := hl i σ H hi p
  by_cases hlt : i < xs.length
  · refine .inr ⟨⟨xs, xs[i], q, by simp [hlt]⟩, Pv (i + 1), fun σ' H' p' => ⟨xs.length - (i + 1), by omega, rfl, hlt, p'⟩, fun x H' y => ?_⟩
    obtain ⟨e, y⟩ := y
    subst e
    exact hs i x σ _ (y xs q) p
  · have e : i = xs.length := by omega
    subst e
    exact .inl ⟨⟨xs, q, Nat.le_refl _⟩, hd σ H p⟩
theorem for_range {lo : Int} {n : Nat} {g : TG} {tb : TS} {D : Ends} {σ : St} {H : Hp} (Pv : Nat → St → Hp → Prop) (h0 : Pv 0 σ H)
    (hs : ∀ i σ H, i < n → Pv i σ H → g (.int (lo + i)) σ H fun σ2 H2 => tb { D with nx := Pv (i + 1), ct := Pv (i + 1), bk := D.nx } σ2 H2) (hd : ∀ σ H, Pv n σ H → D.nx σ H) :
    ∃ W : Nat → Nat → St → Hp → Prop, (∃ m, W 0 m σ H) ∧ ∀ i m σ H, W i m σ H →
      ((Itr lo n).stop i H ∧ D.nx σ H) ∨ ((Itr lo n).go i H ∧ ∃ N : St → Hp → Prop, (∀ σ' H', N σ' H' → ∃ m', m' < m ∧ W (i + 1) m' σ' H') ∧ ∀ x H', (Itr lo n).yld i H x H' → g x σ H' fun σ2 H2 => tb { D with nx := N, ct := N, bk := D.nx } σ2 H2) := by
  refine ⟨fun i m σ H => m = n - i ∧ i ≤ n ∧ Pv i σ H, ⟨n, by simp, Nat.zero_le _, h0⟩, ?_⟩
  rintro i m σ H ⟨rfl, hi, p⟩
  by_cases hlt : i < n
  · refine .inr ⟨hlt, Pv (i + 1), fun σ' H' p' => ⟨n - (i + 1), by omega, rfl, hlt, p'⟩, fun x H' y => ?_⟩
    obtain ⟨e, y⟩ := y
    subst e y
    exact hs i σ _ hlt p
  · have e : i = n := by omega
    subst e
    exact .inl ⟨Nat.le_refl _, hd σ H p⟩
end L2
namespace L2
open PySem PySem.Spec PyProof.Rows
abbrev R2 := V → V → Hp → VK → Prop
def OpR (X : Cx) (f : Value → Value → Sem Value) (r : R2) : Prop :=
  ∀ (pins : List (Addr × Obj)) (s : Shared) (σ : St) (H : Hp) (x y : V) (v u : Value) (Q : VK), Inv X pins σ H s → RelV x v → RelV y u → r x y H Q →
    wpAny (model X.prog X.w) X.A (f v u) (EP X pins σ Q) X.xe s
def CallR (X : Cx) (f : Value) (r : List V → Hp → VK → Prop) : Prop :=
  ∀ (pins : List (Addr × Obj)) (s : Shared) (σ : St) (H : Hp) (xs : List V) (us : List Value) (Q : VK), Inv X pins σ H s → Vals xs us → r xs H Q →
    wpAny (model X.prog X.w) X.A (call f us) (EP X pins σ Q) X.xe s
def tOp (r : R2) (ta tb : TE) : TE := fun σ H Q => ta σ H fun x H1 => tb σ H1 fun y H2 => r x y H2 Q
def rI (C : Int → Int → Prop) (g : Int → Int → V) : R2 := fun x y H Q => ∃ i j, x = .int i ∧ y = .int j ∧ C i j ∧ Q (g i j) H
def rI0 (g : Int → Int → V) : R2 := fun x y H Q => ∃ i j, x = .int i ∧ y = .int j ∧ Q (g i j) H
section
variable {X : Cx} {a b c : Expr} {ta tb tc : TE} {pos : Pos}
theorem binT (ha : PE X a ta) (hb : PE X b tb) {pins : List (Addr × Obj)} {s : Shared} {σ : St} {H : Hp} {R : V → V → Hp → Prop} (I : Inv X pins σ H s)
    (h : ta σ H fun x H1 => tb σ H1 fun y H2 => R x y H2) {Q : Value → Shared → Prop} {f : Value → Value → Sem Value}
    (hf : ∀ v u s2 x y H2, Inv X pins σ H2 s2 → RelV x v → RelV y u → R x y H2 → wpAny (model X.prog X.w) X.A (f v u) Q X.xe s2) :
    wpAny (model X.prog X.w) X.A (eval a X.env) (fun v s₁ => wpAny (model X.prog X.w) X.A (eval b X.env) (fun u s₂ => wpAny (model X.prog X.w) X.A (f v u) Q X.xe s₂) X.xe s₁) X.xe s := by
  refine thn (ha pins s σ H _ I h) fun v s1 ⟨x, H1, I1, r1, q1⟩ => ?_
  refine thn (hb pins s1 σ H1 _ I1 q1) fun u s2 ⟨y, H2, I2, r2, q2⟩ => ?_
  exact hf v u s2 x y H2 I2 r1 r2 q2
theorem pe_op {op : Operator} {r : R2} (ho : OpR X (binaryOp op) r) (ha : PE X a ta) (hb : PE X b tb) : PE X (.BinOp a op b pos) (tOp r ta tb) := by
  intro pins s σ H Q I h
  exact wpAny_BinOp (binT ha hb I h fun v u s2 x y H2 I2 rx ry q => ho pins s2 σ H2 x y v u Q I2 rx ry q)
theorem opI {f : Value → Value → Sem Value} {C : Int → Int → Prop} {g : Int → Int → Int}
    (rule : ∀ (i j : Int) (t u : Tok) (s : Shared) (Q : Value → Shared → Prop) (E : Value → Shared → Prop), C i j → Q (.int (g i j) s.toks) { s with toks := s.toks + 1 } → wpAny (model X.prog X.w) X.A (f (.int i t) (.int j u)) Q E s) :
    OpR X f (rI C fun i j => .int (g i j)) := by
  intro pins s σ H x y v u Q I rx ry h
  obtain ⟨i, j, rfl, rfl, hc, q⟩ := h
  obtain ⟨t, rfl⟩ := rx
  obtain ⟨t', rfl⟩ := ry
  exact rule i j t t' s _ _ hc ⟨.int (g i j), H, I.tok _, ⟨_, rfl⟩, q⟩
theorem opI0 {f : Value → Value → Sem Value} {g : Int → Int → Int}
    (rule : ∀ (i j : Int) (t u : Tok) (s : Shared) (Q : Value → Shared → Prop) (E : Value → Shared → Prop), Q (.int (g i j) s.toks) { s with toks := s.toks + 1 } → wpAny (model X.prog X.w) X.A (f (.int i t) (.int j u)) Q E s) :
    OpR X f (rI0 fun i j => .int (g i j)) := by
  intro pins s σ H x y v u Q I rx ry h
  obtain ⟨i, j, rfl, rfl, q⟩ := h
  obtain ⟨t, rfl⟩ := rx
  obtain ⟨t', rfl⟩ := ry
  exact rule i j t t' s _ _ ⟨.int (g i j), H, I.tok _, ⟨_, rfl⟩, q⟩
theorem opB0 {f : Value → Value → Sem Value} {g : Int → Int → Bool}
    (rule : ∀ (i j : Int) (t u : Tok) (s : Shared) (Q : Value → Shared → Prop) (E : Value → Shared → Prop), Q (.bool (g i j)) s → wpAny (model X.prog X.w) X.A (f (.int i t) (.int j u)) Q E s) :
    OpR X f (rI0 fun i j => .bl (g i j)) := by
  intro pins s σ H x y v u Q I rx ry h
  obtain ⟨i, j, rfl, rfl, q⟩ := h
  obtain ⟨t, rfl⟩ := rx
  obtain ⟨t', rfl⟩ := ry
  exact rule i j t t' s _ _ ⟨.bl (g i j), H, I, rfl, q⟩
def CDiv (i j : Int) : Prop := 0 < j ∧ j < 1073741824
def CPow (i j : Int) : Prop := 0 ≤ j ∧ j ≤ 1000000 ∧ i.natAbs < 2 ^ 64
def CMul (i j : Int) : Prop := (-(2 ^ 64) < i ∧ i < 2 ^ 64) ∨ (-(2 ^ 64) < j ∧ j < 2 ^ 64)
theorem CMul.ok {i j : Int} (h : CMul i j) : IntMulOk i j := by
  rcases h with ⟨h1, h2⟩ | ⟨h1, h2⟩
  · exact .of_left (intBits_le_64 h1 h2)
  · exact .of_right (intBits_le_64 h1 h2)
theorem op_add : OpR X (binaryOp .Add) (rI0 fun i j => .int (i + j)) := opI0 fun _ _ _ _ _ _ _ q => add_int q
theorem op_sub : OpR X (binaryOp .Sub) (rI0 fun i j => .int (i - j)) := opI0 fun _ _ _ _ _ _ _ q => sub_int q
theorem op_mul : OpR X (binaryOp .Mult) (rI CMul fun i j => .int (i * j)) := opI fun _ _ _ _ _ _ _ hc q => mul_int q hc.ok
theorem op_fdiv : OpR X (binaryOp .FloorDiv) (rI CDiv fun i j => .int (i / j)) := opI fun i j _ _ _ _ _ hc q => by
  have h1 : (0 : Int) < j := hc.1
  have h2 : j < 1073741824 := hc.2
  exact floordiv_int (by omega) (by rw [Int.fdiv_eq_ediv_of_nonneg i (by omega)]; exact q) (.inl (PyProof.noPylong_small (by omega)))
theorem op_mod : OpR X (binaryOp .Mod) (rI (fun _ j => 0 < j) fun i j => .int (i % j)) := opI fun i j _ _ _ _ _ hc q => by
  have h1 : (0 : Int) < j := hc
  exact mod_int' (by omega) (by rw [Int.fmod_eq_emod_of_nonneg i (by omega)]; exact q)
theorem op_pow : OpR X (binaryOp .Pow) (rI CPow fun i j => .int (i ^ j.toNat)) := opI fun _ _ _ _ _ _ _ hc q => pow_int_small hc.1 hc.2.1 hc.2.2 q
end
def scal : V → V → Bool
  | .non, .non => true | .non, .int _ => true | .int _, .non => true | .non, .bl _ => true | .bl _, .non => true | .non, .str _ => true | .str _, .non => true
  | .int _, .int _ => true | .bl _, .bl _ => true | .str _, .str _ => true | .byt _, .byt _ => true
  | .int _, .str _ => true | .str _, .int _ => true | .bl _, .str _ => true | .str _, .bl _ => true
  | _, _ => false
def rEq : R2 := fun x y H Q => scal x y = true ∧ Q (.bl (decide (x = y))) H
def rNe : R2 := fun x y H Q => scal x y = true ∧ Q (.bl (!decide (x = y))) H
theorem dec_int {i j : Int} : decide (V.int i = V.int j) = (i == j) := by
  rw [Bool.eq_iff_iff]
  simp
theorem dec_bl {i j : Bool} : decide (V.bl i = V.bl j) = (i == j) := by
  rw [Bool.eq_iff_iff]
  simp
theorem dec_str {i j : Str} : decide (V.str i = V.str j) = (i == j) := by
  rw [Bool.eq_iff_iff]
  simp
theorem dec_byt {i j : Array UInt8} : decide (V.byt i = V.byt j) = (i.toList == j.toList) := by
  rw [Bool.eq_iff_iff]
  cases i
  cases j
  simp
section
variable {X : Cx} {a b c : Expr} {ta tb tc : TE} {pos : Pos}
theorem fin_bl {pins : List (Addr × Obj)} {σ : St} {H : Hp} {s : Shared} {Q : VK} {k k' : Bool} (I : Inv X pins σ H s) (q : Q (.bl k) H) (e : k = k') : EP X pins σ Q (.bool k') s := by
  subst e
  exact ⟨.bl k, H, I, rfl, q⟩
theorem op_eq : OpR X (compareOp .Eq) rEq := by
  intro pins s σ H x y v u Q I rx ry h
  obtain ⟨hs, q⟩ := h
  cases x with
  | non =>
    cases rx
    cases y with
    | non => cases ry; exact PySem.EqNone.eq_none_none (fin_bl I q (by simp))
    | bl j => cases ry; exact PySem.EqNone.eq_none_bool (fin_bl I q (by simp))
    | int j => obtain ⟨t', rfl⟩ := ry; exact PySem.EqNone.eq_none_int (fin_bl I q (by simp))
    | str j => obtain ⟨t', rfl⟩ := ry; exact PySem.EqNone.eq_none_str (fin_bl I q (by simp))
    | _ => exact absurd (show false = true from hs) Bool.false_ne_true
  | bl i =>
    cases rx
    cases y with
    | non => cases ry; exact PySem.EqNone.eq_bool_none (fin_bl I q (by simp))
    | bl j => cases ry; exact eq_bool (fin_bl I q dec_bl)
    | str j => obtain ⟨t', rfl⟩ := ry; exact PySem.EqMixed.eq_bool_str (fin_bl I q (by simp))
    | _ => exact absurd (show false = true from hs) Bool.false_ne_true
  | int i =>
    obtain ⟨t, rfl⟩ := rx
    cases y with
    | non => cases ry; exact PySem.EqNone.eq_int_none (fin_bl I q (by simp))
    | int j => obtain ⟨t', rfl⟩ := ry; exact eq_int (fin_bl I q dec_int)
    | str j => obtain ⟨t', rfl⟩ := ry; exact PySem.EqMixed.eq_int_str (fin_bl I q (by simp))
    | _ => exact absurd (show false = true from hs) Bool.false_ne_true
  | str i =>
    obtain ⟨t, rfl⟩ := rx
    cases y with
    | non => cases ry; exact PySem.EqNone.eq_str_none (fin_bl I q (by simp))
    | bl j => cases ry; exact PySem.EqMixed.eq_str_bool (fin_bl I q (by simp))
    | int j => obtain ⟨t', rfl⟩ := ry; exact PySem.EqMixed.eq_str_int (fin_bl I q (by simp))
    | str j => obtain ⟨t', rfl⟩ := ry; exact eq_str (fin_bl I q dec_str)
    | _ => exact absurd (show false = true from hs) Bool.false_ne_true
  | byt i =>
    obtain ⟨t, rfl⟩ := rx
    cases y with
    | byt j => obtain ⟨t', rfl⟩ := ry; exact PySem.W.eq_bytes (fin_bl I q dec_byt)
    | _ => exact absurd (show false = true from hs) Bool.false_ne_true
  | _ => cases y <;> exact absurd (show false = true from hs) Bool.false_ne_true
theorem op_ne : OpR X (compareOp .NotEq) rNe := by
  intro pins s σ H x y v u Q I rx ry h
  obtain ⟨hs, q⟩ := h
  cases x with
  | non =>
    cases rx
    cases y with
    | non => cases ry; exact PySem.EqNone.ne_none_none (fin_bl I q (by simp))
    | bl j => cases ry; exact PySem.EqNone.ne_none_bool (fin_bl I q (by simp))
    | int j => obtain ⟨t', rfl⟩ := ry; exact PySem.EqNone.ne_none_int (fin_bl I q (by simp))
    | str j => obtain ⟨t', rfl⟩ := ry; exact PySem.EqNone.ne_none_str (fin_bl I q (by simp))
    | _ => exact absurd (show false = true from hs) Bool.false_ne_true
  | bl i =>
    cases rx
    cases y with
    | non => cases ry; exact PySem.EqNone.ne_bool_none (fin_bl I q (by simp))
    | bl j => cases ry; exact ne_bool (fin_bl I q (congrArg not dec_bl))
    | str j => obtain ⟨t', rfl⟩ := ry; exact PySem.EqMixed.ne_bool_str (fin_bl I q (by simp))
    | _ => exact absurd (show false = true from hs) Bool.false_ne_true
  | int i =>
    obtain ⟨t, rfl⟩ := rx
    cases y with
    | non => cases ry; exact PySem.EqNone.ne_int_none (fin_bl I q (by simp))
    | int j => obtain ⟨t', rfl⟩ := ry; exact ne_int (fin_bl I q (congrArg not dec_int))
    | str j => obtain ⟨t', rfl⟩ := ry; exact PySem.EqMixed.ne_int_str (fin_bl I q (by simp))
    | _ => exact absurd (show false = true from hs) Bool.false_ne_true
  | str i =>
    obtain ⟨t, rfl⟩ := rx
    cases y with
    | non => cases ry; exact PySem.EqNone.ne_str_none (fin_bl I q (by simp))
    | bl j => cases ry; exact PySem.EqMixed.ne_str_bool (fin_bl I q (by simp))
    | int j => obtain ⟨t', rfl⟩ := ry; exact PySem.EqMixed.ne_str_int (fin_bl I q (by simp))
    | str j => obtain ⟨t', rfl⟩ := ry; exact ne_str (fin_bl I q (congrArg not dec_str))
    | _ => exact absurd (show false = true from hs) Bool.false_ne_true
  | byt i =>
    obtain ⟨t, rfl⟩ := rx
    cases y with
    | byt j => obtain ⟨t', rfl⟩ := ry; exact PySem.W.ne_bytes (fin_bl I q (congrArg not dec_byt))
    | _ => exact absurd (show false = true from hs) Bool.false_ne_true
  | _ => cases y <;> exact absurd (show false = true from hs) Bool.false_ne_true
theorem op_lt : OpR X (compareOp .Lt) (rI0 fun i j => .bl (decide (i < j))) := opB0 fun _ _ _ _ _ _ _ q => lt_int q
theorem op_gt : OpR X (compareOp .Gt) (rI0 fun i j => .bl (decide (j < i))) := opB0 fun _ _ _ _ _ _ _ q => gt_int q
theorem nomark (b : Expr) {op : CmpOp} (h : op ≠ .In := by decide) (h2 : op ≠ .NotIn := by decide) : behindInMarks op b = false := by
  have e1 : (op == CmpOp.In) = false := by cases op <;> first | rfl | exact absurd rfl h
  have e2 : (op == CmpOp.NotIn) = false := by cases op <;> first | rfl | exact absurd rfl h2
  cases b <;> simp [behindInMarks, e1, e2]
theorem pe_cmpR {op : CmpOp} {r : R2} (ho : OpR X (compareOp op) r) (ha : PE X a ta) (hb : PE X b tb) (hm : behindInMarks op b = false) : PE X (.Compare a [op] [b] pos) (tOp r ta tb) := by
  intro pins s σ H Q I h
  exact wpAny_Compare1 (binT ha hb I h fun v u s2 x y H2 I2 rx ry q => ho pins s2 σ H2 x y v u Q I2 rx ry q) hm
def tTest (t : TE) : TT := fun σ H Q => t σ H fun x H' => ∃ k, x = .bl k ∧ Q k H'
theorem pt_cmpR {op : CmpOp} {r : R2} (ho : OpR X (compareOp op) r) (ha : PE X a ta) (hb : PE X b tb) (hm : behindInMarks op b = false) : PT X (.Compare a [op] [b] pos) (tTest (tOp r ta tb)) := by
  intro pins s σ H Q I h
  refine wpAny_isTrue_Compare1 (thn (ha pins s σ H _ I h) fun v s1 ⟨x, H1, I1, r1, q1⟩ => thn (hb pins s1 σ H1 _ I1 q1) fun u s2 ⟨y, H2, I2, r2, q2⟩ =>
    thn (ho pins s2 σ H2 x y v u _ I2 r1 r2 q2) fun c s3 ⟨z, H3, I3, r3, k, e, q3⟩ => ?_) hm
  subst e
  cases r3
  exact wpAny_truthy_bool ⟨H3, I3, q3⟩
theorem line63 : (sizeLine : Nat) < 2 ^ 63 := by rw [sizeLine_eq]; decide
theorem vals1 {x : V} {us : List Value} (r : Vals [x] us) : ∃ u, us = [u] ∧ RelV x u := by
  cases r with
  | cons r1 r2 => cases r2; exact ⟨_, rfl, r1⟩
theorem vals2 {x y : V} {us : List Value} (r : Vals [x, y] us) : ∃ u w', us = [u, w'] ∧ RelV x u ∧ RelV y w' := by
  cases r with
  | cons r1 r2 =>
    cases r2 with
    | cons r3 r4 => cases r4; exact ⟨_, _, rfl, r1, r3⟩
theorem call_abs : CallR X (.builtin "abs") (fun xs H Q => ∃ i, xs = [.int i] ∧ Q (.int (if i < 0 then -i else i)) H) := by
  intro pins s σ H xs us Q I r h
  obtain ⟨i, rfl, q⟩ := h
  obtain ⟨u, rfl, t, rfl⟩ := vals1 r
  exact call_abs_int fun u tk => ⟨.int (if i < 0 then -i else i), H, I.tok _, ⟨_, rfl⟩, q⟩
theorem call_max2 (hc : X.calm = true) : CallR X (.builtin "max") (fun xs H Q => ∃ i j, xs = [.int i, .int j] ∧ Q (.int (if j > i then j else i)) H) := by
  intro pins s σ H xs us Q I r h
  obtain ⟨i, j, rfl, q⟩ := h
  obtain ⟨u, w', rfl, ⟨t, rfl⟩, ⟨t', rfl⟩⟩ := vals2 r
  refine max_two_ints (I.ok.hd hc) fun h' tk k => ⟨_, H, I.kept k, ?_, q⟩
  by_cases hj : j > i
  · rw [if_pos hj, if_pos hj]; exact ⟨_, rfl⟩
  · rw [if_neg hj, if_neg hj]; exact ⟨_, rfl⟩
theorem call_min2 (hc : X.calm = true) : CallR X (.builtin "min") (fun xs H Q => ∃ i j, xs = [.int i, .int j] ∧ Q (.int (if j < i then j else i)) H) := by
  intro pins s σ H xs us Q I r h
  obtain ⟨i, j, rfl, q⟩ := h
  obtain ⟨u, w', rfl, ⟨t, rfl⟩, ⟨t', rfl⟩⟩ := vals2 r
  refine min_two_ints (I.ok.hd hc) fun h' tk k => ⟨_, H, I.kept k, ?_, q⟩
  by_cases hj : j < i
  · rw [if_pos hj, if_pos hj]; exact ⟨_, rfl⟩
  · rw [if_neg hj, if_neg hj]; exact ⟨_, rfl⟩
end
end L2
namespace L2
open PySem PySem.Spec PyProof.Rows
structure ObjM (h : Heap) (x dx C : Addr) (mA : Str → Option Value) : Prop where
  obj : h.get? x = some (PySem.W.instObj C dx)
  ns : h.Ns1 dx mA
  ne : dx ≠ x
theorem lookIn_ns {h : Heap} {dx : Addr} {mA : Str → Option Value} (n : h.Ns1 dx mA) : ∃ od, h.get? dx = some od ∧ ∀ name, PySem.W.lookIn name od = some (mA name) := by
  obtain ⟨o, es, ep, ho, hd, hk, _, hm⟩ := n
  refine ⟨o, ho, fun name => ?_⟩
  have e := hm name
  unfold nsFind findBy at e
  rw [← Array.find?_toList] at e
  unfold PySem.W.lookIn
  rw [hd]
  dsimp only
  split
  · rename_i y q
    rw [q] at e
    exact congrArg some e
  · rename_i q
    rw [q] at e
    have a : es.toList.any (·.refKey) = false := by
      rw [List.any_eq_false]
      intro y hy
      obtain ⟨z, t, hkey⟩ := hk y (Array.mem_toList_iff.mp hy)
      simp [DictEntry.refKey, hkey]
    have a' : ¬ es.toList.any (·.refKey) = true := by rw [a]; exact Bool.false_ne_true
    rw [if_neg a']
    exact congrArg some e
theorem ObjM.look {h : Heap} {x dx C : Addr} {mA : Str → Option Value} (I : ObjM h x dx C mA) : ∃ od, PySem.W.InstAt h x (PySem.W.instObj C dx) C (some od) ∧ ∀ name, PySem.W.lookIn name od = some (mA name) :=
  let ⟨od, ho, hl⟩ := lookIn_ns I.ns
  ⟨od, ⟨I.obj, rfl, rfl, ho⟩, hl⟩
section
variable {prog : Program} {w : World} {A : Around} {E : Value → Shared → Prop} {s : Shared} {K : PySem.W.Frag} {x dx C f : Addr} {mA : Str → Option Value} {name : Str} {v : Value}
theorem get_map {expr : Bool} {Q : Value → Shared → Prop} (X : K.In s.heap) (I : ObjM s.heap x dx C mA) (hg : PySem.W.plainGet K C name = true) (hh : PySem.W.hasDictIn K C = true)
    (ha : PySem.W.findIn K (.ref C) name = some none) (hv : mA name = some v) (hv' : PySem.W.handedIn v = true) (h : Q v { s with toks := s.toks + 1 }) :
    wpAny (model prog w) A (getAttr (.ref x) name expr) Q E s := by
  obtain ⟨od, J, hl⟩ := I.look
  exact PySem.W.get_value X J (PySem.W.plainGet_of hg).1 (PySem.W.findObj_own hh ha rfl (by rw [hl, hv])) hv' h
theorem get_meth {pl : Sem Bool} {Q : Value × List Value → Shared → Prop} (X : K.In s.heap) (I : ObjM s.heap x dx C mA) (hg : PySem.W.plainGet K C name = true)
    (hf : PySem.W.findIn K (.ref C) name = some (some (.ref f))) (ht : PySem.W.isFn K (.ref f) = true) (hv : mA name = none) (h : Q (.ref f, [.ref x]) s) :
    wpAny (model prog w) A (getMethod (.ref x) name pl) Q E s := by
  obtain ⟨od, J, hl⟩ := I.look
  exact PySem.W.method_fn X J (PySem.W.plainGet_of hg).1 (PySem.W.plainGet_of hg).2 hf (beq_iff_eq.mp ht) (by show (PySem.W.lookIn name od).map (·.isSome) = some false; rw [hl, hv]; rfl) h
theorem set_map {ns : List Str} {Q : Unit → Shared → Prop} (X : K.In s.heap) (I : ObjM s.heap x dx C mA)
    (hs : PySem.W.findIn K (.ref C) "__setattr__" = some (some (.builtin "object.__setattr__"))) (hp : PySem.W.plainOver K C = true) (ht : PySem.W.takerIn K C name = some none) (hh : PySem.W.hasDictIn K C = true)
    (hw : PySem.Within mA ns) (hsz : ns.length ≤ sizeLine)
    (h : ∀ h', ObjM h' x dx C (fun y => if y = name then some v else mA y) → Heap.SameBut dx s.heap h' → Q () { s with heap := h', toks := s.toks + 2 }) :
    wpAny (model prog w) A (setAttr (.ref x) name v) Q E s := by
  obtain ⟨od, J, hl⟩ := I.look
  refine PySem.W.set_plain X J hs (PySem.W.osa_open (s := { s with toks := s.toks + 1 }) (r := none) X J hp ht fun b => ?_)
  obtain ⟨cd, hc, hd'⟩ := PySem.W.any_some hh
  have hx : s.heap.get? x = some ⟨.ref C, some dx, .plain, #[]⟩ := I.obj
  refine wpAny_bind (wpAny_pure (wpAny_bind (wpAny_bind (wpAny_loadPart hx (wpAny_bind (PySem.W.Looks.here (s := { s with toks := s.toks + 1 }) (PySem.W.looks_clsIn X hc) ?_))))))
  rw [hd']
  refine wpAny_pure (a := some dx) (wpAny_bind (wpAny_pure (wpAny_bind ?_)))
  refine wpAny_nsSet1 (s := { s with toks := s.toks + 1 }) I.ns fun h' hn2 hs2 => ?_
  obtain ⟨oD, esD, epD, hoD, hdD, hcD⟩ := hn2.count (PySem.Within.cons name v hw)
  refine wpAny_bind (wpAny_lookBehind hoD (by rw [hdD]; exact pastItsLine_dict (Nat.le_trans hcD (by rw [List.length_cons]; omega))) ?_)
  exact wpAny_pure (h _ ⟨(hs2.2 _ (Ne.symm I.ne)).trans I.obj, hn2, I.ne⟩ hs2)
theorem make_map {R : Result → Shared → Prop} {vs : List Value} {kw : List (Str × Value)} (X : K.In s.heap) (hm : PySem.W.makesIn K C = true)
    (hi : PySem.W.findIn K (.ref C) "__init__" = some (some (.ref f))) (hf : PySem.W.typeIn K (.ref f) = some (.type "function"))
    (h : codeAny (model prog w) (A.under (.builtin "type.__call__" ⟨.ref C :: vs, kw⟩)) (.call (.ref f) ⟨.ref (s.heap.objs.size + 1) :: vs, kw⟩) (PySem.W.InitBack (s.heap.objs.size + 1) R)
      { s with heap := (s.heap.push PySem.W.emptyDict).push (PySem.W.instObj C s.heap.objs.size) }) :
    codeAny (model prog w) A (.call (.ref C) ⟨vs, kw⟩) R s := by
  obtain ⟨hh, g, d, t, os⟩ := s
  exact PySem.W.make_core (PySem.W.makes_of X hm) (PySem.W.looks_findIn X hi) (fun self => PySem.W.bind_fn X self hf) (.inl rfl) h
end
def putF (f : Str) (v : V) : List (Str × V) → List (Str × V)
  | [] => [(f, v)]
  | (g, x) :: r => if g = f then (g, v) :: r else (g, x) :: putF f v r
theorem lookup_putF (f g : Str) (v : V) : ∀ fs : List (Str × V), (putF f v fs).lookup g = if g = f then some v else fs.lookup g
  | [] => by
    show List.lookup g [(f, v)] = _
    by_cases h : g = f
    · have hb : (g == f) = true := beq_iff_eq.mpr h
      simp only [List.lookup, hb, if_pos h]
    · have hb : (g == f) = false := beq_eq_false_iff_ne.mpr h
      simp only [List.lookup, hb, if_neg h]
  | (k, x) :: r => by
    have ih := lookup_putF f g v r
    rw [show putF f v ((k, x) :: r) = (if k = f then (k, v) :: r else (k, x) :: putF f v r) from rfl]
    by_cases hk : k = f
    · rw [if_pos hk]
      by_cases h : g = k
      · have hb : (g == k) = true := beq_iff_eq.mpr h
        simp only [List.lookup, hb, if_pos (h.trans hk)]
      · have hb : (g == k) = false := beq_eq_false_iff_ne.mpr h
        simp only [List.lookup, hb, if_neg (fun e : g = f => h (e.trans hk.symm))]
    · rw [if_neg hk]
      by_cases h : g = k
      · have hb : (g == k) = true := beq_iff_eq.mpr h
        simp only [List.lookup, hb, if_neg (fun e : g = f => hk (h.symm.trans e))]
      · have hb : (g == k) = false := beq_eq_false_iff_ne.mpr h
        simp only [List.lookup, hb]
        exact ih
theorem keys_putF (f : Str) (v : V) : ∀ fs : List (Str × V), f ∈ (putF f v fs).map (·.1) ∧ ∀ g, g ∈ fs.map (·.1) → g ∈ (putF f v fs).map (·.1)
  | [] => ⟨by simp [putF], fun g h => by simp at h⟩
  | (k, x) :: r => by
    obtain ⟨i1, i2⟩ := keys_putF f v r
    rw [show putF f v ((k, x) :: r) = (if k = f then (k, v) :: r else (k, x) :: putF f v r) from rfl]
    by_cases hk : k = f
    · rw [if_pos hk]
      subst hk
      exact ⟨by simp, fun g h => by simpa using h⟩
    · rw [if_neg hk]
      refine ⟨?_, fun g h => ?_⟩
      · rw [List.map_cons]
        exact List.mem_cons_of_mem _ i1
      · rw [List.map_cons] at h ⊢
        rcases List.mem_cons.mp h with e | e
        · exact List.mem_cons.mpr (.inl e)
        · exact List.mem_cons_of_mem _ (i2 g e)
theorem length_putF (f : Str) (v : V) : ∀ fs : List (Str × V), (putF f v fs).length ≤ fs.length + 1
  | [] => by simp [putF]
  | (k, x) :: r => by
    have ih := length_putF f v r
    rw [show putF f v ((k, x) :: r) = (if k = f then (k, v) :: r else (k, x) :: putF f v r) from rfl]
    by_cases hk : k = f
    · rw [if_pos hk, List.length_cons, List.length_cons]; omega
    · rw [if_neg hk, List.length_cons, List.length_cons]; omega
theorem RelO.some_of {v : V} {o : Option Value} (r : RelO (some v) o) : ∃ u, o = some u ∧ RelV v u := by
  cases o with
  | none => exact (show False from r).elim
  | some u => exact ⟨u, rfl, r⟩
theorem RelO.none_of {o : Option Value} (r : RelO none o) : o = none := by
  cases o with
  | none => rfl
  | some u => exact (show False from r).elim
theorem handed_of {v : V} {u : Value} (r : RelV v u) : PySem.W.handedIn u = true := by
  cases v with
  | non => cases (show u = Value.none from r); rfl
  | bl b => cases (show u = Value.bool b from r); rfl
  | int i => obtain ⟨t, e⟩ := (show ∃ t, u = Value.int i t from r); cases e; rfl
  | str x => obtain ⟨t, e⟩ := (show ∃ t, u = Value.str x t from r); cases e; rfl
  | byt b => obtain ⟨t, e⟩ := (show ∃ t, u = Value.bytes b t from r); cases e; rfl
  | flt b => obtain ⟨t, e⟩ := (show ∃ t, u = Value.float b t from r); cases e; rfl
  | ref a => cases (show u = Value.ref a from r); rfl
  | ty n => cases (show u = Value.type n from r); rfl
section
variable {P : Program} {w : World} {H H' : Hp} {h h' : Heap} {a C dx : Addr} {fs fs' : List (Str × V)}
theorem ins_get (hok : HOk P w H h) (e : H a = some (.ins C dx fs)) : ∃ mA, ObjM h a dx C mA ∧ (∀ f, RelO (fs.lookup f) (mA f)) ∧ PySem.Within mA (fs.map (·.1)) ∧ fs.length ≤ 1000 ∧ H dx = some (.own a) := by
  obtain ⟨d, z, ne, ob, mA, n, r, q⟩ := (show ObjOk P w H h a (.ins C dx fs) from hok a _ e)
  exact ⟨mA, ⟨ob, n, ne⟩, r, q, z, d⟩
end
structure Cls (K : PySem.W.Frag) (C : Addr) : Prop where
  pg : PySem.W.plainGet K C Str.empty = true
  hd : PySem.W.hasDictIn K C = true
  po : PySem.W.plainOver K C = true
  sa : PySem.W.findIn K (.ref C) "__setattr__" = some (some (.builtin "object.__setattr__"))
theorem Cls.get {K : PySem.W.Frag} {C : Addr} (c : Cls K C) (f : Str) : PySem.W.plainGet K C f = true := c.pg
def NoAttr (K : PySem.W.Frag) (C : Addr) (f : Str) : Prop := PySem.W.findIn K (.ref C) f = some none
theorem NoAttr.taker {K : PySem.W.Frag} {C : Addr} {f : Str} (n : NoAttr K C f) : PySem.W.takerIn K C f = some none := by
  unfold PySem.W.takerIn
  rw [show PySem.W.findIn K (.ref C) f = some none from n]
  rfl
structure Meth (K : PySem.W.Frag) (C : Addr) (m : Str) (f : Addr) : Prop where
  at_ : PySem.W.findIn K (.ref C) m = some (some (.ref f))
  fn : PySem.W.isFn K (.ref f) = true
  kp : PySem.W.keepIn K (.ref f) = true
section
variable {X : Cx} {pins : List (Addr × Obj)} {σ : St} {H : Hp} {s : Shared} {a C dx : Addr} {fs : List (Str × V)} {f : Str} {v : V} {A : Around} {E : Value → Shared → Prop}
theorem getattr_ok {b : Bool} {Q : Value → Shared → Prop} (I : Inv X pins σ H s) (e : H a = some (.ins C dx fs)) (c : Cls X.K C) (n : NoAttr X.K C f) (l : fs.lookup f = some v)
    (h : ∀ u s', Inv X pins σ H s' → RelV v u → Q u s') : wpAny (model X.prog X.w) A (getAttr (.ref a) f b) Q E s := by
  obtain ⟨mA, O, r, _, _, _⟩ := ins_get I.hok e
  obtain ⟨u, hu, ru⟩ := RelO.some_of (v := v) (o := mA f) (by rw [← l]; exact r f)
  exact get_map I.kIn O (c.get f) c.hd n hu (handed_of ru) (h u _ (I.tok _) ru)
theorem getmeth_ok {m : Str} {g : Addr} {pl : Sem Bool} {Q : Value × List Value → Shared → Prop} (I : Inv X pins σ H s) (e : H a = some (.ins C dx fs)) (c : Cls X.K C) (k : Meth X.K C m g) (l : fs.lookup m = none)
    (h : Q (.ref g, [.ref a]) s) : wpAny (model X.prog X.w) A (getMethod (.ref a) m pl) Q E s := by
  obtain ⟨mA, O, r, _, _, _⟩ := ins_get I.hok e
  have hn : mA m = none := RelO.none_of (by rw [← l]; exact r m)
  exact get_meth I.kIn O (c.get m) k.at_ k.fn hn h
theorem setattr_ok {y : V} {u : Value} {Q : Unit → Shared → Prop} (I : Inv X pins σ H s) (e : H a = some (.ins C dx fs)) (c : Cls X.K C) (n : NoAttr X.K C f) (hl : fs.length < 1000) (ry : RelV y u)
    (h : ∀ s', Inv X pins σ (upd H a (.ins C dx (putF f y fs))) s' → Q () s') : wpAny (model X.prog X.w) A (setAttr (.ref a) f u) Q E s := by
  obtain ⟨mA, O, r, wi, _, ho⟩ := ins_get I.hok e
  have hz : (fs.map (·.1)).length ≤ sizeLine := by rw [List.length_map, sizeLine_eq]; omega
  refine set_map I.kIn O c.sa c.po n.taker c.hd wi hz fun h' O' sb => h _ ?_
  have hd : ∃ o, h'.get? dx = some o := let ⟨o, _, _, e', _⟩ := O'.ns; ⟨o, e'⟩
  refine I.write (x := a) (e := dx) (by rw [e]; exact True.intro) (.inr ho) (fun b q hb z => (sb.2 b hb).trans z) hd ?_
  refine ⟨by rw [upd_ne O.ne]; exact ho, ?_, O.ne, O'.obj, _, O'.ns, fun g => ?_, fun g hg => ?_⟩
  · have := length_putF f y fs; omega
  · show RelO ((putF f y fs).lookup g) (if g = f then some u else mA g)
    rw [lookup_putF]
    by_cases q : g = f
    · rw [if_pos q, if_pos q]; exact ry
    · rw [if_neg q, if_neg q]; exact r g
  · by_cases q : g = f
    · rw [q]; exact (keys_putF f y fs).1
    · refine (keys_putF f y fs).2 g (wi g fun z => hg ?_)
      show (if g = f then some u else mA g) = none
      rw [if_neg q]; exact z
theorem Inv.made (I : Inv X pins σ H s) : Inv X pins σ (upd (upd H s.heap.objs.size (.own (s.heap.objs.size + 1))) (s.heap.objs.size + 1) (.ins C s.heap.objs.size []))
    { s with heap := (s.heap.push PySem.W.emptyDict).push (PySem.W.instObj C s.heap.objs.size) } := by
  have e1 : (s.heap.push PySem.W.emptyDict).get? s.heap.objs.size = some PySem.W.emptyDict := Heap.get?_push_size s.heap rfl
  have e2 : ((s.heap.push PySem.W.emptyDict).push (PySem.W.instObj C s.heap.objs.size)).get? (s.heap.objs.size + 1) = some (PySem.W.instObj C s.heap.objs.size) := by
    have := Heap.get?_push_size (s.heap.push PySem.W.emptyDict) (o := PySem.W.instObj C s.heap.objs.size) rfl
    rwa [Heap.size_push] at this
  have e3 : (s.heap.push PySem.W.emptyDict).Ns s.heap.objs.size (fun _ => none) := ⟨PySem.W.emptyDict, #[], _, e1, rfl, (fun e he => absurd he (by simp)), fun _ => rfl⟩
  have I1 := I.laid (a := s.heap.objs.size) (o := .own (s.heap.objs.size + 1)) (h' := s.heap.push PySem.W.emptyDict) (t' := s.toks) (fun b u q => Heap.get?_push_of_some _ q) (Nat.le_refl _) ⟨_, e1⟩
  refine I1.laid (a := s.heap.objs.size + 1) (o := .ins C s.heap.objs.size []) (t' := s.toks) (fun b u q => Heap.get?_push_of_some _ q) (Nat.le_of_eq (Heap.size_push _ _)) ?_
  have ne : s.heap.objs.size ≠ s.heap.objs.size + 1 := Nat.ne_of_lt (Nat.lt_succ_self _)
  refine ⟨by rw [upd_ne ne, upd_same], Nat.zero_le _, ne, e2, fun _ => none, (Heap.Ns1.of_empty e3).at fun o q => Heap.get?_push_of_some _ q, fun _ => True.intro, fun y hy => absurd rfl hy⟩
theorem attr_of {prog : Program} {w : World} {env : Env} {e : Expr} {f : Str} {pos : Pos} {s : Shared} {Q : Value → Shared → Prop} (hb : attributeBase e f env (eval e env) = eval e env)
    (h : wpAny (model prog w) A (eval e env) (fun o s₁ => wpAny (model prog w) A (getAttr o f true) Q E s₁) E s) : wpAny (model prog w) A (eval (.Attribute e f pos) env) Q E s :=
  Attribute_any_ h (by rw [arm_eval_Attribute, hb])
end
def tFld (K : PySem.W.Frag) (ta : TE) (f : Str) : TE := fun σ H Q => ta σ H fun x H1 => ∃ a C dx fs v, x = .ref a ∧ H1 a = some (.ins C dx fs) ∧ Cls K C ∧ NoAttr K C f ∧ fs.lookup f = some v ∧ Q v H1
def sFld (K : PySem.W.Frag) (ta tv : TE) (f : Str) : TS := fun D σ H => tv σ H fun y H1 => ta σ H1 fun x H2 => ∃ a C dx fs, x = .ref a ∧ H2 a = some (.ins C dx fs) ∧ Cls K C ∧ NoAttr K C f ∧ fs.length < 1000 ∧
  D.nx σ (upd H2 a (.ins C dx (putF f y fs)))
section
variable {X : Cx} {o e value : Expr} {f : Str} {pos pos' tpos : Pos} {ta tv : TE}
theorem pe_fld (he : PE X e ta) (hb : attributeBase e f X.env (eval e X.env) = eval e X.env) : PE X (.Attribute e f pos) (tFld X.K ta f) := by
  intro pins s σ H Q I h
  refine attr_of hb (thn (he pins s σ H _ I h) fun u s1 ⟨x, H1, I1, rx, a, C, dx, fs, v, ex, ea, c, n, l, q⟩ => ?_)
  subst ex
  obtain rfl : u = Value.ref a := rx
  exact getattr_ok I1 ea c n l fun u' s2 I2 ru => ⟨v, H1, I2, ru, q⟩
theorem ps_fld (ha : PE X o ta) (hv : PE X value tv) (hs : swapsWith value (some (.Attribute o f pos')) pos.line X.env = pure false) : PS X (.Assign [.Attribute o f pos'] value pos) (sFld X.K ta tv f) := by
  intro pins s σ H D I h
  refine plainObj_wpAny_Assign_Attribute (thn (hv pins s σ H _ I h) fun u s1 ⟨y, H1, I1, ry, q⟩ => thn (ha pins s1 σ H1 _ I1 q) fun ov s2 ⟨x, H2, I2, rx, a, C, dx, fs, ex, ea, c, n, l, q2⟩ => ?_) hs
  subst ex
  obtain rfl : ov = Value.ref a := rx
  exact setattr_ok I2 ea c n l ry fun s3 I3 => ⟨σ, _, I3, q2⟩
end
section
variable {X : Cx} {pins : List (Addr × Obj)} {σ : St} {H : Hp} {s : Shared} {A : Around} {E : Value → Shared → Prop} {Q : Value → Shared → Prop} {c : Value} {b : Bool}
inductive TyOf (K : PySem.W.Frag) (H : Hp) : V → Value → Prop where
  | non : TyOf K H .non (.type "NoneType")
  | bl (x : Bool) : TyOf K H (.bl x) (.type "bool")
  | int (i : Int) : TyOf K H (.int i) (.type "int")
  | str (x : Str) : TyOf K H (.str x) (.type "str")
  | flt (x : UInt64) : TyOf K H (.flt x) (.type "float")
  | lst {a : Addr} {xs : List V} (e : H a = some (.lst xs)) : TyOf K H (.ref a) (.type "list")
  | frz {a : Addr} {o : Obj} {xs : List V} (e : H a = some (.frz o (.lst xs))) : TyOf K H (.ref a) (.type "list")
  | tup {a : Addr} {xs : List V} (e : H a = some (.tup xs)) : TyOf K H (.ref a) (.type "tuple")
  | dK {a : Addr} {kvs : List (Key × V)} (e : H a = some (.dK kvs)) : TyOf K H (.ref a) (.type "dict")
  | dT {a : Addr} {kvs : List (List Key × V)} (e : H a = some (.dT kvs)) : TyOf K H (.ref a) (.type "dict")
  | ins {a C dx : Addr} {fs : List (Str × V)} (e : H a = some (.ins C dx fs)) (cl : Cls K C) (ha : PySem.W.findIn K (.ref C) "__class__" = some (some (.builtin "object.__class__")))
      (hn : PySem.W.specialIn K (.builtin "object.__class__") "__get__" = some (some (.builtin "getset_descriptor.__get__"))) (htk : PySem.W.takesIn K (.builtin "object.__class__") = some true)
      (hm : PySem.W.mroIn K C (.type "object") = some true) : TyOf K H (.ref a) (.ref C)
theorem isinst_ok {x : V} {u t : Value} (I : Inv X pins σ H s) (rx : RelV x u) (ty : TyOf X.K H x t) (e : PySem.W.kitOne X.K t c = some b) (h : ∀ tk, Q (.bool b) { s with toks := tk }) :
    wpAny (model X.prog X.w) A (call (.builtin "isinstance") [u, c]) Q E s := by
  cases ty with
  | non => cases (show u = Value.none from rx); exact PySem.W.kia_one PySem.W.kitx_none I.kIn True.intro e (fun z => nomatch z) h
  | bl y => cases (show u = Value.bool y from rx); exact PySem.W.kia_one PySem.W.kitx_bool I.kIn True.intro e (fun z => nomatch z) h
  | int i => obtain ⟨t, q⟩ := (show ∃ t, u = Value.int i t from rx); cases q; exact PySem.W.kia_one PySem.W.kitx_int I.kIn True.intro e (fun z => nomatch z) h
  | str y => obtain ⟨t, q⟩ := (show ∃ t, u = Value.str y t from rx); cases q; exact PySem.W.kia_one PySem.W.kitx_str I.kIn True.intro e (fun z => nomatch z) h
  | flt y => obtain ⟨t, q⟩ := (show ∃ t, u = Value.float y t from rx); cases q; exact PySem.W.kia_one PySem.W.kitx_float I.kIn True.intro e (fun z => nomatch z) h
  | @lst a xs ea =>
    cases (show u = Value.ref a from rx)
    obtain ⟨_, _, n, _, h1⟩ := (show ObjOk X.prog X.w H s.heap a (.lst xs) from I.hok a _ ea)
    exact PySem.W.kia_one PySem.W.kitx_list I.kIn ⟨_, h1, rfl⟩ e (fun z => nomatch z) h
  | @frz a ob xs ea =>
    cases (show u = Value.ref a from rx)
    obtain ⟨_, _, _, n, _, h1⟩ := (show ObjOk X.prog X.w H s.heap a (.frz ob (.lst xs)) from I.hok a _ ea)
    exact PySem.W.kia_one PySem.W.kitx_list I.kIn ⟨_, h1, rfl⟩ e (fun z => nomatch z) h
  | @tup a xs ea =>
    cases (show u = Value.ref a from rx)
    obtain ⟨_, _, _, p⟩ := (show ObjOk X.prog X.w H s.heap a (.tup xs) from I.hok a _ ea)
    obtain ⟨o, h1, h2, _⟩ := p
    exact PySem.W.kia_one PySem.W.kitx_tuple I.kIn ⟨o, h1, h2⟩ e (fun z => nomatch z) h
  | @dK a kvs ea =>
    cases (show u = Value.ref a from rx)
    obtain ⟨_, _, vs, _, p⟩ := (show ObjOk X.prog X.w H s.heap a (.dK kvs) from I.hok a _ ea)
    obtain ⟨o, es, ep, h1, h2, _⟩ := p
    exact PySem.W.kia_one PySem.W.kitx_dict I.kIn ⟨o, h1, h2.1⟩ e (fun z => nomatch z) h
  | @dT a kvs ea =>
    cases (show u = Value.ref a from rx)
    obtain ⟨_, _, xs, _, o, es, ep, h1, h2, _⟩ := (show ObjOk X.prog X.w H s.heap a (.dT kvs) from I.hok a _ ea)
    exact PySem.W.kia_one PySem.W.kitx_dict I.kIn ⟨o, h1, h2.1⟩ e (fun z => nomatch z) h
  | @ins a C dx fs ea cl ha hn htk hm =>
    cases (show u = Value.ref a from rx)
    obtain ⟨mA, O, _⟩ := ins_get I.hok ea
    obtain ⟨od, J, _⟩ := O.look
    exact PySem.W.kia_one (PySem.W.kitx_own (cl.get _) cl.hd ha hn htk hm) I.kIn J e (fun z => nomatch z) h
end
end L2
namespace L2
open PySem PySem.Spec PyProof.Rows
structure Room (k : Nat) (A : Around) : Prop where
  hd : A.handled = none
  dp : A.depth + 3 * k + 5 < recursionLimit
  un : A.units + 16 * k + 200 < cLine
theorem Room.mono {j k : Nat} {A : Around} (r : Room k A) (h : j ≤ k) : Room j A := ⟨r.hd, by have := r.dp; omega, by have := r.un; omega⟩
theorem Room.deeper {k : Nat} {A : Around} (r : Room (k + 1) A) (env : Env) : Room k (A.deeper env) :=
  ⟨r.hd, by have := r.dp; show A.depth + 1 + 3 * k + 5 < _; omega, by have := r.un; show A.units + 3 + 16 * k + 200 < _; omega⟩
theorem make_depth {A : Around} {C : Addr} {us : List Value} {kw : List (Str × Value)} : (A.under (.builtin "type.__call__" ⟨.ref C :: us, kw⟩)).depth = A.depth + 1 := by
  first | rfl | simp [Around.under, Code.weight, Code.isCreation, Code.isGuard, Code.isCaller, Code.frames, Code.isFrame, guardIds]
theorem make_units {A : Around} {C : Addr} {us : List Value} {kw : List (Str × Value)} : (A.under (.builtin "type.__call__" ⟨.ref C :: us, kw⟩)).units = A.units + 1 := by
  first | rfl | simp [Around.under, Code.cUnits, Code.frames, Code.isFrame]
theorem Room.make {k : Nat} {A : Around} (r : Room (k + 1) A) (C : Addr) (us : List Value) (kw : List (Str × Value)) : Room k (A.under (.builtin "type.__call__" ⟨.ref C :: us, kw⟩)) :=
  ⟨r.hd, by have := r.dp; rw [make_depth]; omega, by have := r.un; rw [make_units]; omega⟩
theorem Room.depth {k : Nat} {A : Around} (r : Room k A) : A.depth < recursionLimit := by have := r.dp; omega
theorem Room.units {k : Nat} {A : Around} (r : Room k A) : A.units + 64 < cLine := by have := r.un; omega
def tNil : TA := fun _ H Q => Q [] H
def tCons (ta : TE) (tr : TA) : TA := fun σ H Q => ta σ H fun x H1 => tr σ H1 fun xs H2 => Q (x :: xs) H2
section
variable {X : Cx} {e : Expr} {es : List Expr} {te : TE} {t : TA} {pos : Pos}
theorem pa_nil : PA X [] tNil := fun _ _ _ _ H Q I h => Calls.spliced_nil ⟨[], H, I, .nil, h⟩
theorem pa_cons (ha : PE X e te) (hr : PA X es t) (hs : starEach (e :: es) X.env = (false, eval e X.env) :: starEach es X.env := by rfl) : PA X (e :: es) (tCons te t) := by
  intro pos pins s σ H Q I h
  rw [hs]
  show wpAny _ _ (spliced ((false, eval e X.env) :: backTo pos (starEach es X.env))) _ _ s
  refine Calls.spliced_cons (thn (ha pins s σ H _ I h) fun u s1 ⟨x, H1, I1, r1, q1⟩ => ?_)
  exact thn (hr pos pins s1 σ H1 _ I1 q1) fun us s2 ⟨xs, H2, I2, r2, q2⟩ => ⟨x :: xs, H2, I2, .cons r1 r2, q2⟩
def tTup (t : TA) : TE := fun σ H Q => t σ H fun xs H1 => xs.length ≤ sizeLine ∧ ∀ p, H1 p = none → Q (.ref p) (upd H1 p (.tup xs))
def tLst (t : TA) : TE := fun σ H Q => t σ H fun xs H1 => xs.length ≤ sizeLine ∧ ∀ p, H1 p = none → Q (.ref p) (upd H1 p (.lst xs))
theorem pe_tup {x1} (h : PA X es t) : PE X (.Tuple es x1 pos) (tTup t) := by
  intro pins s σ H Q I hq
  refine wpAny_Tuple_spliced (thn (h pos pins s σ H _ I hq) fun us s1 ⟨xs, H1, I1, r, z, q⟩ => ⟨by rw [← r.length]; exact z, ?_⟩)
  have hf : H1 s1.heap.objs.size = none := I1.hok.fresh (Nat.le_refl _)
  refine ⟨.ref s1.heap.objs.size, upd H1 s1.heap.objs.size (.tup xs), I1.laid (t' := s1.toks) (fun b u e => Heap.get?_push_of_some _ e) (Nat.le_refl _) ?_, rfl, q _ hf⟩
  exact ⟨z, us, r, ⟨_, Heap.get?_push_size _ rfl, rfl, _, rfl⟩⟩
theorem pe_lst (h : PA X es t) : PE X (.List es pos) (tLst t) := by
  intro pins s σ H Q I hq
  refine wpAny_List_spliced (thn (h pos pins s σ H _ I hq) fun us s1 ⟨xs, H1, I1, r, z, q⟩ => ⟨by rw [← r.length]; exact z, ?_⟩)
  have hf : H1 s1.heap.objs.size = none := I1.hok.fresh (Nat.le_refl _)
  refine ⟨.ref s1.heap.objs.size, upd H1 s1.heap.objs.size (.lst xs), I1.laid (t' := s1.toks) (fun b u e => Heap.get?_push_of_some _ e) (Nat.le_refl _) ?_, rfl, q _ hf⟩
  exact ⟨z, us, 0, r, Heap.get?_push_size _ rfl⟩
end
abbrev Sp := List V → Hp → VK → XK → Prop
abbrev CXT := List Env → Hp → Shared → XK → Value → Shared → Prop
structure Env0 (P : Program) (w : World) (K : PySem.W.Frag) (mg : Str → Option Value) (base : Heap) (A : Around) (outer : List Env) (s : Shared) (H : Hp) : Prop where
  frames : A.frames = some outer
  mod : Mod K mg base
  bs : ∀ b o, base.get? b = some o → s.heap.get? b = some o ∧ H b = none
  bsz : base.objs.size ≤ s.heap.objs.size
  funs : s.heap.FunFrames base outer
  frf : ∀ b ∈ frs outer, H b = none
  hok : HOk P w H s.heap
  bare : AllBare s.gens
def CE (outer : List Env) (P : Program) (w : World) (H : Hp) (s : Shared) (Q : VK) (u : Value) (s' : Shared) : Prop :=
  ∃ v H', s'.os = s.os ∧ AllBare s'.gens ∧ Un (frs outer) [] H H' s.heap s'.heap ∧ HOk P w H' s'.heap ∧ RelV v u ∧ Q v H'
def CR (CX : CXT) (outer : List Env) (P : Program) (w : World) (H : Hp) (s : Shared) (Q : VK) (E : XK) (r : Result) (s' : Shared) : Prop :=
  match r with
  | .ok (.ret u) => CE outer P w H s Q u s'
  | .ok _ => False
  | .error e => CX outer H s E e s'
structure FnOk (P : Program) (w : World) (K : PySem.W.Frag) (mg : Str → Option Value) (base : Heap) (CX : CXT) (k : Nat) (f : Addr) (fd : FuncData) (ps : List Str) (sp : Sp) : Prop where
  len : ∀ vs H Q E, sp vs H Q E → vs.length = ps.length
  run : ∀ (A : Around) (outer : List Env) (s : Shared) (H : Hp) (args : Args) (us : List Value) (vs : List V) (Q : VK) (E : XK), Room k A → Env0 P w K mg base A outer s H → BindsTo s fd args (ps.zip us) → Vals vs us → sp vs H Q E →
    codeAny (model P w) A (.call (.ref f) args) (CR CX outer P w H s Q E) s
theorem FnOk.mono {P : Program} {w : World} {K : PySem.W.Frag} {mg : Str → Option Value} {base : Heap} {CX : CXT} {j k : Nat} {f : Addr} {fd : FuncData} {ps : List Str} {sp : Sp} (F : FnOk P w K mg base CX j f fd ps sp) (h : j ≤ k) :
    FnOk P w K mg base CX k f fd ps sp := ⟨F.len, fun A outer s H args us vs Q E hr => F.run A outer s H args us vs Q E (hr.mono h)⟩
theorem FnOk.imp {P : Program} {w : World} {K : PySem.W.Frag} {mg : Str → Option Value} {base : Heap} {CX : CXT} {k : Nat} {f : Addr} {fd : FuncData} {ps : List Str} {sp sp' : Sp} (F : FnOk P w K mg base CX k f fd ps sp)
    (h : ∀ vs H Q E, sp' vs H Q E → sp vs H Q E) : FnOk P w K mg base CX k f fd ps sp' :=
  ⟨fun vs H Q E q => F.len vs H Q E (h _ _ _ _ q), fun A outer s H args us vs Q E hr he hb hv hs => F.run A outer s H args us vs Q E hr he hb hv (h _ _ _ _ hs)⟩
theorem Env0.make {P : Program} {w : World} {K : PySem.W.Frag} {mg : Str → Option Value} {base : Heap} {A : Around} {outer : List Env} {s : Shared} {H : Hp} (e : Env0 P w K mg base A outer s H) (C : Addr) (us : List Value) (kw : List (Str × Value)) :
    Env0 P w K mg base (A.under (.builtin "type.__call__" ⟨.ref C :: us, kw⟩)) outer s H := ⟨by first | exact e.frames | (simpa [Around.under, Code.envs, Code.isFrame, pushEnvs] using e.frames), e.mod, e.bs, e.bsz, e.funs, e.frf, e.hok, e.bare⟩
section
variable {X : Cx} {pins : List (Addr × Obj)} {σ : St} {H : Hp} {s s' : Shared}
theorem Inv.env0 (I : Inv X pins σ H s) : Env0 X.prog X.w X.K X.mg X.base X.A X.stack s H :=
  ⟨I.ok.frames, I.ok.mod, I.bs, Nat.le_trans I.ok.bsz I.sz, I.stack, I.stkFree, I.hok, I.bare⟩
theorem Inv.after {Q : VK} {u : Value} (I : Inv X pins σ H s) (h : CE X.stack X.prog X.w H s Q u s') : EP X pins σ Q u s' := by
  obtain ⟨v, H', os, bare, un, hok, r, q⟩ := h
  obtain ⟨hh, g, d, t, os'⟩ := s'
  obtain rfl : os' = s.os := os
  exact ⟨v, H', I.call (h' := hh) (g' := g) (d' := d) (t' := t) (ch := []) un hok bare (fun b z => absurd z (by simp)), r, q⟩
end
def tCall (sp : Sp) (dvs : List V) (E : XK) (t : TA) : TE := fun σ H Q => t σ H fun vs H1 => sp (vs ++ dvs) H1 Q E
def tMake (C : Addr) (sp : Sp) (dvs : List V) (E : XK) (t : TA) : TE := fun σ H Q => t σ H fun vs H1 => ∀ x dx, H1 x = none → H1 dx = none → dx ≠ x →
  sp (.ref x :: (vs ++ dvs)) (upd (upd H1 dx (.own x)) x (.ins C dx [])) (fun v H2 => v = .non ∧ Q (.ref x) H2) E
def Binds (K : PySem.W.Frag) (fd : FuncData) (ps : List Str) (ds : List Value) : Prop :=
  ∀ (s : Shared) (us : List Value), K.In s.heap → (us ++ ds).length = ps.length → BindsTo s fd ⟨us, []⟩ (ps.zip (us ++ ds))
theorem Binds.all {K : PySem.W.Frag} {fd : FuncData} {ps : List Str} (h : ∀ us : List Value, us.length = ps.length → bindArgs fd ⟨us, []⟩ = pure (ps.zip us)) : Binds K fd ps [] := fun s us _ hl => by
  rw [List.append_nil] at hl ⊢
  exact .of_eq (h us hl)
def Passes (CX : CXT) (X : Cx) (E : XK) : Prop := ∀ (pins : List (Addr × Obj)) (σ : St) (H : Hp) (s : Shared) (e : Value) (s' : Shared), Inv X pins σ H s → CX X.stack H s E e s' → X.xe e s'
section
variable {X : Cx} {CX : CXT} {k : Nat} {f C : Addr} {fd : FuncData} {ps : List Str} {sp : Sp} {dvs : List V} {ds : List Value} {E : XK} {x m : Str} {p pos apos : Pos} {e o : Expr} {es : List Expr} {ta : TE} {t : TA}
theorem run_fn {pins : List (Addr × Obj)} {σ : St} {H : Hp} {s : Shared} {Q : VK} {us : List Value} {vs : List V} (F : FnOk X.prog X.w X.K X.mg X.base CX k f fd ps sp) (hr : Room k X.A) (hb : Binds X.K fd ps ds) (hd : Vals dvs ds) (hx : Passes CX X E)
    (I : Inv X pins σ H s) (r : Vals vs us) (h : sp (vs ++ dvs) H Q E) : wpAny (model X.prog X.w) X.A (call (.ref f) us) (EP X pins σ Q) X.xe s := by
  have r2 : Vals (vs ++ dvs) (us ++ ds) := r.append hd
  have hl : (us ++ ds).length = ps.length := by rw [← r2.length]; exact F.len _ _ _ _ h
  refine wpAny_call (codeAny_mono (F.run X.A X.stack s H ⟨us, []⟩ (us ++ ds) (vs ++ dvs) Q E hr I.env0 (hb s us I.kIn hl) r2 h) fun r s' hq => ?_)
  cases r with
  | error e => exact hx pins σ H s e s' I hq
  | ok fl =>
    cases fl with
    | ret u => exact I.after hq
    | next => exact False.elim hq
    | brk => exact False.elim hq
    | cont => exact False.elim hq
theorem pe_call (F : FnOk X.prog X.w X.K X.mg X.base CX k f fd ps sp) (hr : Room k X.A) (hg : Gl X x) (hm : X.mg x = some (.ref f)) (hk : PySem.W.keepIn X.K (.ref f) = true) (hb : Binds X.K fd ps ds) (hd : Vals dvs ds) (hx : Passes CX X E)
    (ha : PA X (e :: es) t) (hdb : (x == ("__debug__" : Str)) = false := by decide) (he : starEach (e :: es) X.env = (false, eval e X.env) :: starEach es X.env := by rfl) (hpl : (backTo pos (starEach es X.env)).any (·.1) = false := by rfl) :
    PE X (.Call (.Name x p) (e :: es) [] pos) (tCall sp dvs E t) := by
  intro pins s σ H Q I h
  refine wpAny_Call_Name_kw (ld_glob I hg hm ?_ hdb)
  refine PySem.W.callWith_K (h₀ := X.base) I.ok.mod.kin hk (thn (ha pos pins s σ H _ I h) fun us s1 ⟨vs, H1, I1, r, q⟩ => ⟨I1.kIn, ?_⟩) he hpl
  exact run_fn F hr hb hd hx I1 r q
structure Mk (K : PySem.W.Frag) (C f : Addr) : Prop where
  makes : PySem.W.makesIn K C = true
  init : PySem.W.findIn K (.ref C) "__init__" = some (some (.ref f))
  fn : PySem.W.isFn K (.ref f) = true
  kp : PySem.W.keepIn K (.ref C) = true
theorem run_make {pins : List (Addr × Obj)} {σ : St} {H : Hp} {s : Shared} {Q : VK} {us : List Value} {vs : List V} (M : Mk X.K C f) (F : FnOk X.prog X.w X.K X.mg X.base CX k f fd ps sp) (hr : Room (k + 1) X.A) (hb : Binds X.K fd ps ds) (hd : Vals dvs ds)
    (hx : Passes CX X E) (I : Inv X pins σ H s) (r : Vals vs us)
    (h : ∀ x dx, H x = none → H dx = none → dx ≠ x → sp (.ref x :: (vs ++ dvs)) (upd (upd H dx (.own x)) x (.ins C dx [])) (fun v H2 => v = .non ∧ Q (.ref x) H2) E) :
    wpAny (model X.prog X.w) X.A (call (.ref C) us) (EP X pins σ Q) X.xe s := by
  have hq := h (s.heap.objs.size + 1) s.heap.objs.size (I.hok.fresh (Nat.le_succ _)) (I.hok.fresh (Nat.le_refl _)) (Nat.ne_of_lt (Nat.lt_succ_self _))
  have I2 := Inv.made (C := C) I
  have r2 : Vals (V.ref (s.heap.objs.size + 1) :: (vs ++ dvs)) (Value.ref (s.heap.objs.size + 1) :: (us ++ ds)) := .cons rfl (r.append hd)
  have hl : (Value.ref (s.heap.objs.size + 1) :: us ++ ds).length = ps.length := by
    have e := r2.length
    rw [F.len _ _ _ _ hq] at e
    exact e.symm
  refine wpAny_call (make_map (f := f) I.kIn M.makes M.init (beq_iff_eq.mp M.fn) (codeAny_mono (F.run _ X.stack _ _ ⟨Value.ref (s.heap.objs.size + 1) :: us, []⟩ (Value.ref (s.heap.objs.size + 1) :: (us ++ ds)) _ _ E (hr.make C us [])
    (I2.env0.make C us []) (hb _ (Value.ref (s.heap.objs.size + 1) :: us) I2.kIn hl) r2 hq) fun r s' hq' => ?_))
  cases r with
  | error e => exact hx pins σ _ _ e s' I2 hq'
  | ok fl =>
    cases fl with
    | ret u =>
      obtain ⟨v, H', I3, rv, ev, q3⟩ := I2.after hq'
      subst ev
      exact ⟨rv, ⟨V.ref (s.heap.objs.size + 1), H', I3, rfl, q3⟩⟩
    | next => exact False.elim hq'
    | brk => exact False.elim hq'
    | cont => exact False.elim hq'
theorem pe_make (M : Mk X.K C f) (F : FnOk X.prog X.w X.K X.mg X.base CX k f fd ps sp) (hr : Room (k + 1) X.A) (hg : Gl X x) (hm : X.mg x = some (.ref C)) (hb : Binds X.K fd ps ds) (hd : Vals dvs ds) (hx : Passes CX X E)
    (ha : PA X (e :: es) t) (hdb : (x == ("__debug__" : Str)) = false := by decide) (he : starEach (e :: es) X.env = (false, eval e X.env) :: starEach es X.env := by rfl) (hpl : (backTo pos (starEach es X.env)).any (·.1) = false := by rfl) :
    PE X (.Call (.Name x p) (e :: es) [] pos) (tMake C sp dvs E t) := by
  intro pins s σ H Q I h
  refine wpAny_Call_Name_kw (ld_glob I hg hm ?_ hdb)
  refine PySem.W.callWith_K (h₀ := X.base) I.ok.mod.kin M.kp (thn (ha pos pins s σ H _ I h) fun us s1 ⟨vs, H1, I1, r, q⟩ => ⟨I1.kIn, ?_⟩) he hpl
  exact run_make M F hr hb hd hx I1 r q
end
section
variable {X : Cx} {CX : CXT} {k : Nat} {f C : Addr} {fd : FuncData} {ps ks : List Str} {sp : Sp} {E : XK} {x m : Str} {p pos apos kpos : Pos} {e o : Expr} {es : List Expr} {kws : List Keyword} {te ta : TE} {t tk : TA} {nm : Option Str}
variable {g : List Value → List Value → List Value} {gV : List V → List V → List V}
end
structure FnScope (N P : List Str) (sc : Scope) : Prop where
  kind : sc.kind = .function
  co : sc.isCoroutine = false
  gen : sc.isGenerator = false
  nd : N.Nodup
  pre : N.take P.length = P
  par : ∀ x ∈ P, sc.names.lookup x = some .local ∨ sc.names.lookup x = some .cell
  nofree : ∀ y ∈ sc.names, y.2 ≠ .free
theorem bindL_out {kindOf : Str → Option NameKind} {x : Str} : ∀ {binds : List (Str × Value)} {m : Str → Option Value}, (∀ v, (x, v) ∉ binds) → bindL kindOf binds m x = m x
  | [], _, _ => rfl
  | (n, v) :: r, m, h => by
    unfold bindL
    rw [bindL_out fun w hw => h w (List.mem_cons_of_mem _ hw)]
    split
    · have : x ≠ n := by rintro rfl; exact h v List.mem_cons_self
      simp [this]
    · rfl
theorem bindC_out {kindOf : Str → Option NameKind} {x : Str} : ∀ {binds : List (Str × Value)} {m : Str → Option Value}, (∀ v, (x, v) ∉ binds) → bindC kindOf binds m x = m x
  | [], _, _ => rfl
  | (n, v) :: r, m, h => by
    unfold bindC
    rw [bindC_out fun w hw => h w (List.mem_cons_of_mem _ hw)]
    split
    · rfl
    · have : x ≠ n := by rintro rfl; exact h v List.mem_cons_self
      simp [this]
theorem bindL_get {kindOf : Str → Option NameKind} {x : Str} {v : Value} : ∀ {P : List Str} {vs : List Value} {i : Nat} {m : Str → Option Value}, P.Nodup → P[i]? = some x → vs[i]? = some v → kindOf x = some .local →
    bindL kindOf (P.zip vs) m x = some v
  | [], _, _, _, _, h, _, _ => by simp at h
  | _ :: _, [], _, _, _, _, h, _ => by simp at h
  | p :: P, w :: vs, 0, m, nd, h1, h2, hk => by
    simp at h1 h2; subst h1; subst h2
    show bindL kindOf ((p, w) :: P.zip vs) m p = _
    unfold bindL
    rw [bindL_out fun v hv => (List.nodup_cons.mp nd).1 (List.of_mem_zip hv).1, if_pos hk]
    simp
  | p :: P, w :: vs, i + 1, m, nd, h1, h2, hk => by
    show bindL kindOf ((p, w) :: P.zip vs) m x = _
    unfold bindL
    exact bindL_get (i := i) (List.nodup_cons.mp nd).2 (by simpa using h1) (by simpa using h2) hk
theorem bindC_get {kindOf : Str → Option NameKind} {x : Str} {v : Value} : ∀ {P : List Str} {vs : List Value} {i : Nat} {m : Str → Option Value}, P.Nodup → P[i]? = some x → vs[i]? = some v → kindOf x ≠ some .local →
    bindC kindOf (P.zip vs) m x = some v
  | [], _, _, _, _, h, _, _ => by simp at h
  | _ :: _, [], _, _, _, _, h, _ => by simp at h
  | p :: P, w :: vs, 0, m, nd, h1, h2, hk => by
    simp at h1 h2; subst h1; subst h2
    show bindC kindOf ((p, w) :: P.zip vs) m p = _
    unfold bindC
    rw [bindC_out fun v hv => (List.nodup_cons.mp nd).1 (List.of_mem_zip hv).1, if_neg hk]
    simp
  | p :: P, w :: vs, i + 1, m, nd, h1, h2, hk => by
    show bindC kindOf ((p, w) :: P.zip vs) m x = _
    unfold bindC
    exact bindC_get (i := i) (List.nodup_cons.mp nd).2 (by simpa using h1) (by simpa using h2) hk
def start (N : List Str) (vs : List V) : St := vs.map some ++ List.replicate (N.length - vs.length) none
def cxOf (CX : CXT) (P : Program) (w : World) (K : PySem.W.Frag) (mg : Str → Option Value) (base : Heap) (N : List Str) (qual : Str) (scope : Scope) (f : Addr) (cd : Value) (A : Around) (outer : List Env) (s : Shared) (H : Hp) (E : XK) : Cx where
  prog := P
  w := w
  K := K
  mg := mg
  base := base
  A := A.deeper (envOfC qual scope s.heap.objs.size f cd)
  N := N
  s₀ := s
  H₀ := H
  env := envOfC qual scope s.heap.objs.size f cd
  outer := outer
  stack := envOfC qual scope s.heap.objs.size f cd :: outer
  ex := []
  calm := true
  fn := fun _ => true
  pn := []
  xe := fun e s' => wpAny (model P w) (A.deeper (envOfC qual scope s.heap.objs.size f cd)) (leaving (envOfC qual scope s.heap.objs.size f cd) e) (fun _ s'' => CX outer H s E e s'') (fun e' s'' => CX outer H s E e' s'') s'
theorem cell_has {sc : Scope} {n : Nat} {x : Str} (h : sc.names.lookup x = some .cell) : ∃ c, (cellsFrom n sc.names []).lookup x = some c := by
  have q := PySem.W.cellsFrom_some sc.names n [] (.inl h)
  exact Option.isSome_iff_exists.mp q
theorem inv_start {CX : CXT} {P : Program} {w : World} {K : PySem.W.Frag} {mg : Str → Option Value} {base : Heap} {N ps : List Str} {qual : Str} {scope : Scope} {f : Addr} {cd : Value} {A : Around} {outer : List Env} {s s1 : Shared} {H : Hp} {E : XK} {us : List Value} {vs : List V}
    (S : FnScope N ps scope) (hd : A.handled = none) (e0 : Env0 P w K mg base A outer s H) (hl : vs.length = ps.length) (r : Vals vs us)
    (x : InCallC s s.heap.objs.size (bindL (envOfC qual scope s.heap.objs.size f cd).kindOf (ps.zip us) fun _ => none) (cellsFrom (s.heap.objs.size + 1) scope.names []) (bindC (envOfC qual scope s.heap.objs.size f cd).kindOf (ps.zip us) fun _ => none) s1) :
    Inv (cxOf CX P w K mg base N qual scope f cd A outer s H E) [] (start N vs) H s1 := by
  have hpl : ps.length ≤ N.length := by have := congrArg List.length S.pre; rw [List.length_take] at this; omega
  obtain ⟨h1, tk, rfl, hk⟩ := x.done
  have noA : ∀ b : Addr, b ∉ (cxOf CX P w K mg base N qual scope f cd A outer s H E).ex := fun b z => absurd (show b ∈ ([] : List Addr) from z) (by simp)
  refine ⟨⟨e0.mod, S.kind, rfl, rfl, Nat.le_refl _, fun y z c h1 h2 => ?_, fun y hy => ?_, fun y c _ h => ?_, fun _ => hd, Around.frames_deeper e0.frames, .inr ⟨rfl, rfl⟩, fun b z => absurd z (noA b), e0.bs, e0.bsz, fun b _ _ => noA b, fun b z => absurd z (noA b), e0.funs, e0.frf⟩,
    rfl, e0.bare, Un.kept hk, ⟨_, x.toInCall.ns, fun i y v h1 h2 h3 => ?_⟩, fun y c h => ⟨_, x.cell y c h⟩, e0.hok.fresh (Nat.le_refl _), fun y c h => ?_, fun p hp => absurd (show p ∈ ([] : List (Addr × Obj)) from hp) (by simp), e0.hok.kept hk, ?_⟩
  · exact name_of_addr x.apart (PySem.mem_of_lookup h1) (PySem.mem_of_lookup h2)
  · have hy : scope.names.lookup y = some .cell ∨ scope.names.lookup y = some .free := hy
    rcases hy with hy | hy
    · exact cell_has hy
    · exact absurd rfl (S.nofree _ (PySem.mem_of_lookup hy))
  · exact Nat.le_of_lt (x.above y c (PySem.mem_of_lookup h))
  · have hi : i < vs.length := by
      unfold start at h2
      by_cases hi : i < vs.length
      · exact hi
      · rw [List.getElem?_append_right (by simpa using hi)] at h2
        rw [List.getElem?_replicate] at h2
        split at h2 <;> cases h2
    have ha : vs[i]? = some v := by
      unfold start at h2
      rw [List.getElem?_append_left (by simpa using hi), List.getElem?_map] at h2
      cases e : vs[i]? with
      | none => rw [e] at h2; cases h2
      | some a => rw [e] at h2; cases h2; rfl
    obtain ⟨u, hu, rv⟩ := r.get ha
    have hp : ps[i]? = some y := by
      rw [← S.pre, List.getElem?_take_of_lt (by omega)]; exact h1
    have ndP : ps.Nodup := by rw [← S.pre]; exact S.nd.sublist (List.take_sublist _ _)
    refine ⟨u, rv, ?_⟩
    rcases S.par y (List.mem_of_getElem? hp) with k | k
    · exact .inl ⟨k, bindL_get ndP hp hu k⟩
    · obtain ⟨c, e⟩ := cell_has (n := s.heap.objs.size + 1) k
      refine .inr ⟨.inl k, c, e, ?_⟩
      have q := x.cell y c e
      rw [bindC_get ndP hp hu (by show scope.names.lookup y ≠ _; rw [k]; decide)] at q
      exact q
  · exact e0.hok.fresh (Nat.le_of_lt (x.above y c (PySem.mem_of_lookup h)))
  · unfold start
    show _ = N.length
    rw [List.length_append, List.length_map, List.length_replicate]
    omega
theorem fn_of {CX : CXT} {P : Program} {w : World} {K : PySem.W.Frag} {mg : Str → Option Value} {base : Heap} {k : Nat} {f : Addr} {name qual : Str} {params : Arguments} {body : List Stmt} {scope : Scope} {dV kV doc pm cdv ct oc : Value} {an od : Option Addr}
    {osl : Array (Option Value)} {N ps : List Str} {sp : Sp} (lk : K.lookup f = some ⟨oc, od, .func (PySem.W.fnOf name qual params body scope dV kV doc pm an cdv ct), osl⟩) (hcd : PySem.W.codeIn K cdv qual = true) (S : FnScope N ps scope)
    (len : ∀ vs H Q E, sp vs H Q E → vs.length = ps.length)
    (hbody : ∀ (A : Around) (outer : List Env) (s : Shared) (H : Hp) (vs : List V) (Q : VK) (E : XK), Room k (A.deeper (envOfC qual scope s.heap.objs.size f cdv)) → sp vs H Q E →
      ∃ t, PSs (cxOf CX P w K mg base N qual scope f cdv A outer s H E) body t ∧ t { nx := fun _ H' => Q .non H', rt := Q } (start N vs) H) :
    FnOk P w K mg base CX (k + 1) f (PySem.W.fnOf name qual params body scope dV kV doc pm an cdv ct) ps sp := by
  refine ⟨len, fun A outer s H args us vs Q E hr e0 hb r hsp => ?_⟩
  have hl := len _ _ _ _ hsp
  have KX : K.In s.heap := e0.mod.kin.keeps fun b o e => (e0.bs b o e).1
  have lim : s.heap.NoLimit := e0.mod.nolimit.keeps fun b o e => (e0.bs b o e).1
  have hkind : ∀ y ∈ ps.zip us, scope.names.lookup y.1 = some .local ∨ (scope.names.lookup y.1 = some .cell ∧ ((cellsFrom (s.heap.objs.size + 1) scope.names []).lookup y.1).isSome = true) := fun ⟨n, v⟩ hy => by
    rcases S.par n (List.of_mem_zip hy).1 with q | q
    · exact .inl q
    · exact .inr ⟨q, PySem.W.cellsFrom_some _ _ _ (.inl q)⟩
  refine codeAny_call_function hr.depth (KX _ _ lk) rfl S.co S.gen rfl (PySem.W.codeRec_of KX hcd) (hb _ _ _ _ ?_)
  refine wpAny_newFunctionEnv_cells S.kind hkind fun env he s1 x => ?_
  subst he
  refine ⟨lim.keeps x.toInCall.keep, codeAny_func ?_⟩
  obtain ⟨t, ht, hq⟩ := hbody A outer s H vs Q E (hr.deeper _) hsp
  have I : Inv (cxOf CX P w K mg base N qual scope f cdv A outer s H E) [] (start N vs) H s1 := inv_start S hr.hd e0 hl r x
  refine wpAny_mono (ht [] s1 (start N vs) H _ I hq) (fun fl s' hs => ?_) fun e s' hs => hs
  have fin : ∀ {σ' : St} {H' : Hp} {v : V} {u : Value}, Inv (cxOf CX P w K mg base N qual scope f cdv A outer s H E) [] σ' H' s' → RelV v u → Q v H' → CE outer P w H s Q u s' :=
    fun {σ' H' v u} J rv q => ⟨v, H', J.os, J.bare, J.base, J.hok, rv, q⟩
  cases fl with
  | ret u =>
    obtain ⟨v, σ', H', J, rv, q⟩ := hs
    exact fin J rv q
  | next =>
    obtain ⟨σ', H', J, q⟩ := hs
    exact fin (v := V.non) (u := Value.none) J rfl q
  | brk =>
    obtain ⟨_, _, _, q⟩ := hs
    exact False.elim q
  | cont =>
    obtain ⟨_, _, _, q⟩ := hs
    exact False.elim q
end L2
namespace L2
open PySem PySem.Spec PyProof.Rows
section
variable {X : Cx} {x : Str} {p pos : Pos} {e : Expr} {es : List Expr} {t : TA} {id T : String} {r : List V → Hp → VK → Prop}
def tCB (r : List V → Hp → VK → Prop) (t : TA) : TE := fun σ H Q => t σ H fun vs H1 => r vs H1 Q
theorem pe_callB (hc : CallR X (.builtin id) r) (hg : Gl X x) (hm : X.mg x = none) (hv : bootBuiltins x = some (.builtin id)) (ha : PA X (e :: es) t) (hn : x ≠ "__name__" := by decide) (hdb : (x == ("__debug__" : Str)) = false := by decide)
    (he : starEach (e :: es) X.env = (false, eval e X.env) :: starEach es X.env := by rfl) (hpl : (backTo pos (starEach es X.env)).any (·.1) = false := by rfl) : PE X (.Call (.Name x p) (e :: es) [] pos) (tCB r t) := by
  intro pins s σ H Q I h
  refine wpAny_Call_Name_kw (ld_blt I hg hm hv ?_ hn hdb)
  exact PyProof.Rows.callWith_builtin1 (thn (ha pos pins s σ H _ I h) fun us s1 ⟨vs, H1, I1, r1, q1⟩ => hc pins s1 σ H1 vs us Q I1 r1 q1) he hpl
theorem pe_callTy (hc : CallR X (.type T) r) (hg : Gl X x) (hm : X.mg x = none) (hv : bootBuiltins x = some (.type T)) (ha : PA X (e :: es) t) (hn : x ≠ "__name__" := by decide) (hdb : (x == ("__debug__" : Str)) = false := by decide)
    (he : starEach (e :: es) X.env = (false, eval e X.env) :: starEach es X.env := by rfl) (hpl : (backTo pos (starEach es X.env)).any (·.1) = false := by rfl) : PE X (.Call (.Name x p) (e :: es) [] pos) (tCB r t) := by
  intro pins s σ H Q I h
  refine wpAny_Call_Name_kw (ld_blt I hg hm hv ?_ hn hdb)
  exact PyProof.Rows.callWith_type1 (thn (ha pos pins s σ H _ I h) fun us s1 ⟨vs, H1, I1, r1, q1⟩ => hc pins s1 σ H1 vs us Q I1 r1 q1) he hpl
end
end L2
namespace HT
open PySem PyProof.Rows
section
open PySem.SeqAt
open PySem.AutoSeq1 (wpAny_loadPart')
open PySem.MeetsSeq PySem.MeetsSeq2 PySem.MeetsSeq3
end
section
variable {prog : Program} {w : World} {A : Around} {E : Value → Shared → Prop} {s : Shared}
theorem cat_tup {t b : Addr} {vs ws : List Value} {Q : Value → Shared → Prop} (ht : IsTup s.heap t vs.toArray) (hb : IsTup s.heap b ws.toArray) (hv : vs ≠ [])
    (h1 : ws = [] → Q (.ref t) s) (h2 : ws ≠ [] → Q (.ref s.heap.objs.size) { s with heap := s.heap.push { cls := .type "tuple", data := .seq (vs ++ ws).toArray } })
    (hsz : vs.length + ws.length ≤ sizeLine) : wpAny (model prog w) A (binaryOp .Add (.ref t) (.ref b)) Q E s := by
  obtain ⟨⟨cls, dd, data, sl⟩, ho, hc, n, hd⟩ := id ht
  obtain ⟨⟨cls2, dd2, data2, sl2⟩, ho2, hc2, n2, hd2⟩ := id hb
  simp only at hc hd hc2 hd2
  subst hc hd hc2 hd2
  have e : vs.toArray ++ ws.toArray = (vs ++ ws).toArray := by simp
  by_cases hw : ws = []
  · exact concat_meets ⟨_, ho, rfl⟩ ⟨_, ho2, rfl⟩ noFill_tuple_add seq_tuple_add PySem.F.slot_tuple_add PySem.F.entry_tuple_add (PySem.F.args_tuple_add_2 _ _)
      (tuple_addW1 t b vs.toArray ws.toArray n n2 dd dd2 sl sl2 (by simpa using hv) (by simp [hw])) ⟨ho, ho2, h1 hw⟩
  · refine concat_meets ⟨_, ho, rfl⟩ ⟨_, ho2, rfl⟩ noFill_tuple_add seq_tuple_add PySem.F.slot_tuple_add PySem.F.entry_tuple_add (PySem.F.args_tuple_add_2 _ _)
      (tuple_addW2 t b vs.toArray ws.toArray n n2 dd dd2 sl sl2 (by simpa using hv) (by simpa using hw) (by rw [List.size_toArray, List.size_toArray]; exact hsz)) ⟨ho, ho2, ?_⟩
    rw [e]
    exact h2 hw
def sIx (n d : Nat) : Option Int → Nat
  | none => d
  | some v => if v < 0 then (v + (n : Int)).toNat else min v.toNat n
theorem sIx_none (n d : Nat) : sIx n d none = d := rfl
theorem sIx_nat (n d k : Nat) : sIx n d (some (k : Int)) = min k n := by
  show (if (k : Int) < 0 then ((k : Int) + (n : Int)).toNat else min (k : Int).toNat n) = min k n
  rw [if_neg (by omega), Int.toNat_natCast]
theorem sIx_le (n d : Nat) (hd : d ≤ n) (o : Option Int) : sIx n d o ≤ n := by
  cases o with
  | none => exact hd
  | some v =>
    show (if v < 0 then (v + (n : Int)).toNat else min v.toNat n) ≤ n
    by_cases hv : v < 0
    · rw [if_pos hv]; omega
    · rw [if_neg hv]; exact Nat.min_le_right _ _
theorem clip_eq (v : Int) (n d : Nat) : (if v < 0 then max (v + (n : Int)) 0 else min v (n : Int)) = ((sIx n d (some v) : Nat) : Int) := by
  show (if v < 0 then max (v + (n : Int)) 0 else min v (n : Int)) = (((if v < 0 then (v + (n : Int)).toNat else min v.toNat n) : Nat) : Int)
  by_cases hv : v < 0
  · simp only [if_pos hv]; omega
  · simp only [if_neg hv]; omega
theorem adjust_gen (lo hi : Option Int) (n : Nat) : Builtin.Slice.sliceAdjust lo hi 1 (n : Int) = (((sIx n 0 lo : Nat) : Int), ((sIx n n hi : Nat) : Int)) := by
  have h1 : ¬ ((1 : Int) < 0) := by omega
  unfold Builtin.Slice.sliceAdjust
  simp only [h1, if_false]
  refine Prod.ext ?_ ?_
  · cases lo with
    | none => rfl
    | some v => exact clip_eq v n 0
  · cases hi with
    | none => rfl
    | some v => exact clip_eq v n n
theorem places_gen (i j : Nat) : Builtin.Slice.slicePlaces (i : Int) (j : Int) 1 = j - i := by
  unfold Builtin.Slice.slicePlaces
  have h1 : (1 : Int) > 0 := by omega
  simp only [h1, if_true, Int.ediv_one]
  split <;> omega
theorem slicePart_ {v : Value} {o : Option Int} {Q : Option Int → Shared → Prop} (p : IsPart v o) (h : Q o s) : wpAny (model prog w) A (Builtin.Slice.slicePartIndex v) Q E s := by
  cases p with
  | none => exact slicePart_none h
  | int i t => exact slicePart_int h
theorem sliceApplied_gen {sl : Addr} {vl vu : Value} {lo hi : Option Int} {n : Nat} {Q : Int × Int × Nat → Shared → Prop} (hs : s.heap.IsSliceOf sl vl vu .none) (pl : IsPart vl lo) (pu : IsPart vu hi)
    (h : Q (((sIx n 0 lo : Nat) : Int), 1, sIx n n hi - sIx n 0 lo) s) : wpAny (model prog w) A (Builtin.Slice.sliceApplied (.ref sl) (pure (n : Int))) Q E s := by
  obtain ⟨os, hos, hcs, hds⟩ := id hs
  unfold Builtin.Slice.sliceApplied Builtin.Slice.sliceFields
  refine wpAny_bind (wpAny_bind (wpAny_field hos hds (x := vl) rfl (wpAny_bind (wpAny_field hos hds (x := vu) rfl (wpAny_bind (wpAny_field hos hds (x := .none) rfl (wpAny_pure ?_)))))))
  refine wpAny_bind (slicePart_none ?_)
  show wpAny _ _ (if ((1 : Int) == 0) = true then _ else _) _ _ s
  rw [if_neg (by decide)]
  refine wpAny_bind (slicePart_ pl (wpAny_bind (slicePart_ pu (wpAny_bind (wpAny_pure ?_)))))
  show wpAny _ _ (match Builtin.Slice.sliceAdjust lo hi 1 (n : Int) with | (lo, hi) => pure (lo, (1 : Int), Builtin.Slice.slicePlaces lo hi 1)) _ _ s
  rw [adjust_gen lo hi n]
  show wpAny _ _ (pure (((sIx n 0 lo : Nat) : Int), (1 : Int), Builtin.Slice.slicePlaces ((sIx n 0 lo : Nat) : Int) ((sIx n n hi : Nat) : Int) 1)) _ _ s
  rw [places_gen]
  exact wpAny_pure h
theorem pick_gen (xs : Array Value) (i k : Nat) : ((List.range k).filterMap fun (m : Nat) => xs[((i : Int) + (m : Int) * 1).toNat]?).toArray = ((xs.toList.drop i).take k).toArray := by
  have e : (fun (m : Nat) => xs[((i : Int) + (m : Int) * 1).toNat]?) = fun m => xs[i + m]? := by
    funext m
    have : ((i : Int) + (m : Int) * 1).toNat = i + m := by omega
    rw [this]
  rw [e]
  have := pick_run xs i k
  rw [List.filterMap_map] at this
  have e2 : ((fun x => xs[x]?) ∘ fun x => i + x) = fun m => xs[i + m]? := rfl
  rw [e2] at this
  rw [this]
theorem getItem_tuple_cut {t sl : Addr} {items : Array Value} {vl vu : Value} {lo hi : Option Int} {Q : Value → Shared → Prop} (ht : IsTup s.heap t items) (hs : s.heap.IsSliceOf sl vl vu .none) (pl : IsPart vl lo) (pu : IsPart vu hi)
    (hw : ¬ (sIx items.size 0 lo = 0 ∧ sIx items.size items.size hi = items.size))
    (h : Q (.ref s.heap.objs.size) { s with heap := s.heap.push { cls := .type "tuple", data := .seq ((items.toList.drop (sIx items.size 0 lo)).take (sIx items.size items.size hi - sIx items.size 0 lo)).toArray } })
    (hsz : items.size ≤ sizeLine) : wpAny (model prog w) A (getItem (.ref t) (.ref sl)) Q E s := by
  have htake : sizeOk (.seq ((items.toList.drop (sIx items.size 0 lo)).take (sIx items.size items.size hi - sIx items.size 0 lo)).toArray) := by
    show ((items.toList.drop (sIx items.size 0 lo)).take (sIx items.size items.size hi - sIx items.size 0 lo)).toArray.size ≤ sizeLine
    rw [List.size_toArray, List.length_take, List.length_drop, Array.length_toList]
    omega
  have hj : sIx items.size items.size hi ≤ items.size := sIx_le _ _ (Nat.le_refl _) hi
  obtain ⟨os, hos, hcs, hds⟩ := id hs
  have hTs : s.TypeIs (.ref sl) "slice" := ⟨os, hos, hcs⟩
  unfold getItem
  try with_reducible refine wpAny_holding ?_
  first | refine wpAny_bind (wpAny_pure ?_) | skip
  refine wpAny_bind (wpAny_sequenceKey ht.typeIs (by decide) ?_)
  refine wpAny_bind (wpAny_callSpecial?_slot (name := Str.ofString "__getitem__") ht.typeIs PyProof.Rows.slot_tuple_getitem
    (wpAny_call_entry PyProof.Rows.slot_tuple_getitem ht.typeIs entry_tuple_getitem ?_ (args_tuple_getitem _ _)))
  show wpAny _ _ (Builtin.Tuple.tupleItemsOf (.ref t) >>= _) _ _ s
  refine wpAny_bind (tupleItemsOf_ ht ?_)
  refine wpAny_bind (wpAny_typeOf hTs ?_)
  rw [if_pos (by decide)]
  refine wpAny_bind (sliceApplied_gen hs pl pu ?_)
  have hno : ¬ ((((sIx items.size 0 lo : Nat) : Int) == 0 && (1 : Int) == 1 && (sIx items.size items.size hi - sIx items.size 0 lo) == items.size) = true) := by
    intro q
    rw [Bool.and_eq_true, Bool.and_eq_true] at q
    have q1 : ((sIx items.size 0 lo : Nat) : Int) = 0 := eq_of_beq q.1.1
    have q2 : sIx items.size items.size hi - sIx items.size 0 lo = items.size := eq_of_beq q.2
    exact hw ⟨by omega, by omega⟩
  show wpAny _ _ (if (((sIx items.size 0 lo : Nat) : Int) == 0 && (1 : Int) == 1 && (sIx items.size items.size hi - sIx items.size 0 lo) == items.size) = true then _ else _) _ _ s
  rw [if_neg hno, pick_gen]
  first
    | exact wpAny_bind (m := Builtin.Tuple.tupleExact _) (wpAny_newObj_type (wpAny_pure ⟨_, rfl, wpAny_pure h⟩) htake)
    | exact wpAny_bind (m := Builtin.Tuple.tupleExact _) (wpAny_newObj_type (wpAny_bind (wpAny_pure (wpAny_pure ⟨_, rfl, wpAny_pure h⟩))) htake)
    | exact wpAny_bind (wpAny_bind (m := Builtin.Tuple.tupleExact _) (wpAny_newObj_type (wpAny_pure (wpAny_pure ⟨_, rfl, wpAny_pure h⟩)) htake))
    | exact wpAny_bind (wpAny_bind (m := Builtin.Tuple.tupleExact _) (wpAny_newObj_type (wpAny_pure ⟨_, rfl, wpAny_pure h⟩) htake))
end
end HT
namespace L2
open PySem PySem.Spec PyProof.Rows
abbrev TO := St → Hp → (Option Int → Hp → Prop) → Prop
def PO (X : Cx) (e : Option Expr) (t : TO) : Prop :=
  ∀ (pins : List (Addr × Obj)) (s : Shared) (σ : St) (H : Hp) (Q : Option Int → Hp → Prop), Inv X pins σ H s → t σ H Q →
    wpAny (model X.prog X.w) X.A (evalPart e X.env) (fun u s' => ∃ o H', Inv X pins σ H' s' ∧ IsPart u o ∧ Q o H') X.xe s
def tNoPart : TO := fun _ H Q => Q none H
def tPart (t : TE) : TO := fun σ H Q => t σ H fun x H1 => ∃ i, x = .int i ∧ Q (some i) H1
theorem intsAre_of {ns : List Int} : ∀ {us : List Value}, Vals (ns.map V.int) us → IntsAre us ns := by
  induction ns with
  | nil => intro us r; rw [List.map_nil] at r; cases r; exact .nil
  | cons n ns ih =>
    intro us r
    rw [List.map_cons] at r
    cases r with
    | cons r1 r2 =>
      obtain ⟨t, e⟩ := r1
      subst e
      exact .cons n t (ih r2)
section
variable {X : Cx} {e : Expr} {te : TE} {lo hi : Option Expr} {tl th : TO} {pos p2 : Pos}
theorem po_none : PO X none tNoPart := by
  intro pins s σ H Q I h
  rw [evalPart_none]
  exact wpAny_pure ⟨none, H, I, .none, h⟩
theorem po_some (h : PE X e te) : PO X (some e) (tPart te) := by
  intro pins s σ H Q I hw
  rw [evalPart_some]
  refine thn (h pins s σ H _ I hw) fun u s1 ⟨x, H1, I1, r1, q1⟩ => ?_
  obtain ⟨i, rfl, q⟩ := q1
  obtain ⟨t, rfl⟩ := r1
  exact ⟨some i, H1, I1, .int i t, q⟩
def SlR (X : Cx) (r : V → Option Int → Option Int → Hp → VK → Prop) : Prop :=
  ∀ (pins : List (Addr × Obj)) (s : Shared) (σ : St) (H : Hp) (x : V) (v vl vu : Value) (lo hi : Option Int) (sl : Addr) (Q : VK), Inv X pins σ H s → RelV x v → s.heap.IsSliceOf sl vl vu .none → IsPart vl lo → IsPart vu hi → r x lo hi H Q →
    ∃ T id, typeLookup (.type T) "__getitem__" = pure (some (.builtin id)) ∧ s.TypeIs v T ∧ wpAny (model X.prog X.w) X.A (getItem v (.ref sl)) (EP X pins σ Q) X.xe s
def tSl (r : V → Option Int → Option Int → Hp → VK → Prop) (te : TE) (tl th : TO) : TE := fun σ H Q => te σ H fun x H1 => tl σ H1 fun l H2 => th σ H2 fun u H3 => r x l u H3 Q
theorem pe_slice {r : V → Option Int → Option Int → Hp → VK → Prop} (hr : SlR X r) (he : PE X e te) (hl : PO X lo tl) (hu : PO X hi th) : PE X (.Subscript e (.Slice lo hi none p2) pos) (tSl r te tl th) := by
  intro pins s σ H Q I h
  refine Subscript_ (thn (he pins s σ H _ I h) fun v s1 ⟨x, H1, I1, r1, q1⟩ => ?_)
  refine wpAny_Slice (thn (hl pins s1 σ H1 _ I1 q1) fun vl s2 ⟨l, H2, I2, pl, q2⟩ => thn (hu pins s2 σ H2 _ I2 q2) fun vu s3 ⟨u, H3, I3, pu, q3⟩ => ?_)
  rw [evalPart_none]
  refine wpAny_pure ?_
  have I4 : Inv X pins σ H3 { s3 with heap := s3.heap.push { cls := .type "slice", data := .fields #[vl, vu, .none] } } := I3.kept (t' := s3.toks) fun b ob q => Heap.get?_push_of_some _ q
  obtain ⟨T, id, hT, ht, hg⟩ := hr pins { s3 with heap := s3.heap.push { cls := .type "slice", data := .fields #[vl, vu, .none] } } σ H3 x v vl vu l u s3.heap.objs.size Q I4 r1 (Heap.IsSliceOf.new ..) pl pu q3
  show wpAny (model X.prog X.w) X.A (subscriptTail e (.Slice lo hi none p2) v (.ref s3.heap.objs.size)) (EP X pins σ Q) X.xe { s3 with heap := s3.heap.push { cls := .type "slice", data := .fields #[vl, vu, .none] } }
  exact tail_any (ops := [.ref s3.heap.objs.size, v]) ht hT hg (by with_unfolding_all rfl)
def cutV (xs : List V) (lo hi : Option Int) : List V := (xs.drop (HT.sIx xs.length 0 lo)).take (HT.sIx xs.length xs.length hi - HT.sIx xs.length 0 lo)
theorem cutV_length (xs : List V) (lo hi : Option Int) : (cutV xs lo hi).length ≤ xs.length := by
  unfold cutV
  rw [List.length_take, List.length_drop]
  omega
def rSlT (K : PySem.W.Frag) : V → Option Int → Option Int → Hp → VK → Prop := fun x lo hi H Q => ∃ a xs, x = .ref a ∧ SqT K H a xs ∧
  ¬ (HT.sIx xs.length 0 lo = 0 ∧ HT.sIx xs.length xs.length hi = xs.length) ∧ ∀ p, H p = none → Q (.ref p) (upd H p (.tup (cutV xs lo hi)))
theorem sl_tup : SlR X (rSlT X.K) := by
  intro pins s σ H x v vl vu lo hi sl Q I rx hs pl pu h
  obtain ⟨a, xs, rfl, hx, hw, q⟩ := h
  cases rx
  obtain ⟨its, r, ht, hz⟩ := I.tuple hx
  have hlen : its.toArray.size = xs.length := by rw [List.size_toArray]; exact r.length.symm
  refine ⟨"tuple", _, PyProof.Rows.slot_tuple_getitem.lookup, ht.typeIs, ?_⟩
  refine HT.getItem_tuple_cut ht hs pl pu (by rw [hlen]; exact hw) ?_ (by rw [hlen]; exact hz)
  rw [hlen]
  refine ⟨.ref s.heap.objs.size, _, I.laid (t' := s.toks) (o := .tup (cutV xs lo hi)) (fun b ob q => Heap.get?_push_of_some _ q) (Nat.le_refl _) ?_, rfl, q _ (I.hok.fresh (Nat.le_refl _))⟩
  exact ⟨Nat.le_trans (cutV_length xs lo hi) hz, _, (r.drop (HT.sIx xs.length 0 lo)).take (HT.sIx xs.length xs.length hi - HT.sIx xs.length 0 lo), IsTup.new _ _⟩
def rCatT (K : PySem.W.Frag) : R2 := fun x y H Q => ∃ a b xs ys, x = .ref a ∧ y = .ref b ∧ SqT K H a xs ∧ SqT K H b ys ∧ xs ≠ [] ∧ xs.length + ys.length ≤ sizeLine ∧
  (ys = [] → Q (.ref a) H) ∧ (ys ≠ [] → ∀ p, H p = none → Q (.ref p) (upd H p (.tup (xs ++ ys))))
theorem Vals.nil_iff {xs : List V} {us : List Value} (r : Vals xs us) : us = [] ↔ xs = [] := by
  cases r with
  | nil => simp
  | cons _ _ => simp
theorem op_catT : OpR X (binaryOp .Add) (rCatT X.K) := by
  intro pins s σ H x y v u Q I rx ry h
  obtain ⟨a, b, xs, ys, rfl, rfl, ha, hb, hx, hz, q1, q2⟩ := h
  cases rx
  cases ry
  obtain ⟨its, r1, p1, _⟩ := I.tuple ha
  obtain ⟨its2, r2, p2, _⟩ := I.tuple hb
  refine HT.cat_tup p1 p2 (fun z => hx (r1.nil_iff.mp z)) (fun z => ⟨.ref a, H, I, rfl, q1 (r2.nil_iff.mp z)⟩) (fun z => ?_) (by rw [← r1.length, ← r2.length]; exact hz)
  refine ⟨.ref s.heap.objs.size, _, I.laid (t' := s.toks) (o := .tup (xs ++ ys)) (fun b ob q => Heap.get?_push_of_some _ q) (Nat.le_refl _) ?_, rfl, q2 (fun w => z (r2.nil_iff.mpr w)) _ (I.hok.fresh (Nat.le_refl _))⟩
  exact ⟨by rw [List.length_append]; exact hz, _, r1.append r2, IsTup.new _ _⟩
end
end L2
namespace L2
open PySem PySem.Spec PyProof.Rows
def ixN (n : Nat) (i : Int) : Option Nat := if 0 ≤ i then (if i < n then some i.toNat else none) else if -(n : Int) ≤ i then some (i + n).toNat else none
def atI {α : Type} (xs : List α) (i : Int) : Option α := (ixN xs.length i).bind fun j => xs[j]?
theorem ixN_seq {n : Nat} {i : Int} {j : Nat} (h : ixN n i = some j) : seqIndex? i n = some j ∧ j < n ∧ -(n : Int) ≤ i ∧ i < n := by
  unfold ixN at h
  by_cases h0 : 0 ≤ i
  · rw [if_pos h0] at h
    by_cases h1 : i < n
    · rw [if_pos h1] at h
      have e : i.toNat = j := Option.some.inj h
      exact ⟨by rw [seqIndex_of h0 h1, e], by omega, by omega, h1⟩
    · rw [if_neg h1] at h; cases h
  · rw [if_neg h0] at h
    by_cases h1 : -(n : Int) ≤ i
    · rw [if_pos h1] at h
      have e : (i + n).toNat = j := Option.some.inj h
      exact ⟨by rw [seqIndex_neg (by omega) h1, e], by omega, h1, by omega⟩
    · rw [if_neg h1] at h; cases h
theorem atI_get {α : Type} {xs : List α} {i : Int} {v : α} (h : atI xs i = some v) : ∃ j, seqIndex? i xs.length = some j ∧ xs[j]? = some v ∧ j < xs.length ∧ -(xs.length : Int) ≤ i ∧ i < xs.length := by
  unfold atI at h
  cases e : ixN xs.length i with
  | none => rw [e] at h; cases h
  | some j =>
    rw [e] at h
    obtain ⟨h1, h2, h3, h4⟩ := ixN_seq e
    exact ⟨j, h1, h, h2, h3, h4⟩
theorem atI_nat {α : Type} {xs : List α} {j : Nat} {v : α} (h : xs[j]? = some v) : atI xs (j : Int) = some v := by
  have hj : j < xs.length := (List.getElem?_eq_some_iff.mp h).1
  have e : ixN xs.length (j : Int) = some j := by
    unfold ixN
    rw [if_pos (by omega), if_pos (by omega)]; simp
  unfold atI; rw [e]; exact h
def PlainIx (b : Expr) : Prop := ∀ o i, subscripted b false o i = operate [o, i] (getItem o i)
def IxR (X : Cx) (r : R2) : Prop :=
  ∀ (value slice : Expr) (pins : List (Addr × Obj)) (s : Shared) (σ : St) (H : Hp) (x y : V) (v u : Value) (Q : VK), Inv X pins σ H s → RelV x v → RelV y u → r x y H Q →
    subscripted slice false v u = operate [v, u] (getItem v u) → wpAny (model X.prog X.w) X.A (subscriptTail value slice v u) (EP X pins σ Q) X.xe s
def MtR (X : Cx) (id : String) (r : V → List V → Hp → VK → Prop) : Prop :=
  ∀ (pins : List (Addr × Obj)) (s : Shared) (σ : St) (H : Hp) (x : V) (xs : List V) (v : Value) (us : List Value) (Q : VK), Inv X pins σ H s → RelV x v → Vals xs us → r x xs H Q →
    wpAny (model X.prog X.w) X.A (call (.builtin id) (v :: us)) (EP X pins σ Q) X.xe s
section
variable {X : Cx} {a b : Expr} {ta tb : TE} {pos : Pos}
theorem pe_ix {r : R2} (hr : IxR X r) (ha : PE X a ta) (hb : PE X b tb) (hs : PlainIx b) : PE X (.Subscript a b pos) (tOp r ta tb) := by
  intro pins s σ H Q I h
  exact Subscript_ (binT ha hb I h fun v u s2 x y H2 I2 rx ry q => hr a b pins s2 σ H2 x y v u Q I2 rx ry q (hs _ _))
def rIxL (K : PySem.W.Frag) : R2 := fun x y H Q => ∃ p xs i v, x = .ref p ∧ y = .int i ∧ SqL K H p xs ∧ atI xs i = some v ∧ Q v H
def rIxT (K : PySem.W.Frag) : R2 := fun x y H Q => ∃ p xs i v, x = .ref p ∧ y = .int i ∧ SqT K H p xs ∧ atI xs i = some v ∧ Q v H
theorem ix_list : IxR X (rIxL X.K) := by
  intro value slice pins s σ H x y v u Q I rx ry h hs
  obtain ⟨p, xs, i, z, rfl, rfl, hq, he, q⟩ := h
  cases rx
  obtain ⟨t, rfl⟩ := ry
  obtain ⟨its, r, pl, hz⟩ := I.list hq
  obtain ⟨j, h1, h2, h3, h4, h5⟩ := atI_get he
  obtain ⟨w, ew, rw'⟩ := r.get h2
  have hl := r.length
  have hn := line63
  have fin : EP X pins σ Q w s := ⟨z, H, I, rw', q⟩
  by_cases h0 : 0 ≤ i
  · have hj : i.toNat = j := by
      rw [seqIndex_of h0 h5] at h1
      exact Option.some.inj h1
    exact item_listR pl.isList h0 (by omega) (by rw [hj]; simpa using ew) fin hs
  · have hj : (i + (its.toArray.size : Int)).toNat = j := by
      rw [seqIndex_neg (by omega) h4] at h1
      rw [List.size_toArray, ← hl]
      exact Option.some.inj h1
    exact subscriptTail_builtinR (x := w) pl.isList.typeIs slot_list_getitem.lookup
      (wpAny_getItem_list_neg (Q := fun r s' => r = w ∧ EP X pins σ Q r s') pl.isList (by omega) (by rw [List.size_toArray] <;> omega) (by omega) (by rw [hj]; simpa using ew) ⟨rfl, fin⟩) hs
theorem ix_tup : IxR X (rIxT X.K) := by
  intro value slice pins s σ H x y v u Q I rx ry h hs
  obtain ⟨p, xs, i, z, rfl, rfl, hq, he, q⟩ := h
  cases rx
  obtain ⟨t, rfl⟩ := ry
  obtain ⟨its, r, pl, hz⟩ := I.tuple hq
  obtain ⟨j, h1, h2, h3, h4, h5⟩ := atI_get he
  obtain ⟨w, ew, rw'⟩ := r.get h2
  have hl := r.length
  have hn := line63
  have fin : EP X pins σ Q w s := ⟨z, H, I, rw', q⟩
  exact subscriptTail_builtinR (x := w) pl.typeIs slot_tuple_getitem.lookup
    (getItem_tuple (j := j) (Q := fun r s' => r = w ∧ EP X pins σ Q r s') pl (by omega) (by omega) (by rw [List.size_toArray, ← hl]; exact h1) (by simpa using ew) ⟨rfl, fin⟩) hs
theorem slice_bounds (lo hi : Option Int) (n : Nat) : (sliceBounds lo hi none n).1 = ((HT.sIx n 0 lo : Nat) : Int) ∧ (sliceBounds lo hi none n).2.1 = ((HT.sIx n n hi : Nat) : Int) ∧ (sliceBounds lo hi none n).2.2 = 1 := by
  refine ⟨?_, ?_, rfl⟩
  · cases lo with
    | none => simp [sliceBounds, HT.sIx]
    | some i =>
      simp only [sliceBounds, HT.sIx, Option.getD_none, show (1 : Int) > 0 by decide, if_true]
      by_cases h : i < 0
      · simp only [h, if_true] <;> omega
      · simp only [h, if_false] <;> omega
  · cases hi with
    | none => simp [sliceBounds, HT.sIx]
    | some i =>
      simp only [sliceBounds, HT.sIx, Option.getD_none, show (1 : Int) > 0 by decide, if_true]
      by_cases h : i < 0
      · simp only [h, if_true] <;> omega
      · simp only [h, if_false] <;> omega
theorem slicePick_cut (its : List Value) (lo hi : Option Int) : slicePick its.toArray lo hi none = ((its.drop (HT.sIx its.length 0 lo)).take (HT.sIx its.length its.length hi - HT.sIx its.length 0 lo)).toArray := by
  obtain ⟨h1, h2, h3⟩ := slice_bounds lo hi its.toArray.size
  unfold slicePick
  rw [h1, h2, h3]
  simp only [sliceRange_one, pick_run, List.size_toArray] <;> rfl
def rSlL (K : PySem.W.Frag) : V → Option Int → Option Int → Hp → VK → Prop := fun x lo hi H Q => ∃ a xs, x = .ref a ∧ SqL K H a xs ∧ ∀ p, H p = none → Q (.ref p) (upd H p (.lst (cutV xs lo hi)))
theorem sl_list : SlR X (rSlL X.K) := by
  intro pins s σ H x v vl vu lo hi sl Q I rx hs pl pu h
  obtain ⟨a, xs, rfl, hx, q⟩ := h
  cases rx
  obtain ⟨its, r, ht, hz⟩ := I.list hx
  have hlen := r.length
  refine ⟨"list", _, slot_list_getitem.lookup, ht.isList.typeIs, ?_⟩
  refine wpAny_getItem_list_slice ht.isList hs pl pu .none (by simp) ?_ (by rw [List.size_toArray] <;> omega)
  rw [slicePick_cut, ← hlen]
  refine ⟨.ref s.heap.objs.size, _, I.laid (t' := s.toks) (o := .lst (cutV xs lo hi)) (fun b ob q => Heap.get?_push_of_some _ q) (Nat.le_refl _) ?_, rfl, q _ (I.hok.fresh (Nat.le_refl _))⟩
  exact ⟨Nat.le_trans (cutV_length xs lo hi) hz, _, 0, (r.drop (HT.sIx xs.length 0 lo)).take (HT.sIx xs.length xs.length hi - HT.sIx xs.length 0 lo), Heap.get?_push_size _ rfl⟩
theorem call_len_seq : CallR X (.builtin "len") (fun xs H Q => ∃ p ys, xs = [.ref p] ∧ (SqL X.K H p ys ∨ SqT X.K H p ys) ∧ Q (.int ys.length) H) := by
  intro pins s σ H xs us Q I r h
  obtain ⟨p, ys, rfl, hq, q⟩ := h
  obtain ⟨u, rfl, rx⟩ := vals1 r
  cases rx
  have hn := line63
  rcases hq with hq | hq
  · obtain ⟨its, r', pl, hz⟩ := I.list hq
    have hlen := r'.length
    exact Calls.call_len_list pl.isList (by simp only [List.size_toArray] <;> omega) ⟨.int ys.length, H, I.tok _, ⟨s.toks + 1, by rw [List.size_toArray, hlen]⟩, q⟩
  · obtain ⟨its, r', pl, hz⟩ := I.tuple hq
    have hlen := r'.length
    exact len_tuple pl (by simp only [List.size_toArray] <;> omega) ⟨.int ys.length, H, I.tok _, ⟨s.toks + 1, by rw [List.size_toArray, hlen]⟩, q⟩
def tyV (K : PySem.W.Frag) (T : String) (x : V) (H : Hp) : Prop := match x with
  | .str _ => T = "str"
  | .int _ => T = "int"
  | .ref p => (T = "list" ∧ ∃ xs, SqL K H p xs) ∨ (T = "tuple" ∧ ∃ o, K.lookup p = some o ∧ o.cls = .type "tuple" ∧ o.dict = none) ∨
      (T = "dict" ∧ ((∃ kvs, H p = some (.dK kvs)) ∨ ∃ kvs, H p = some (.dT kvs))) ∨ (T = "set" ∧ ∃ S n, H p = some (.set S n))
  | _ => False
theorem tyV_is {pins : List (Addr × Obj)} {σ : St} {H : Hp} {s : Shared} {T : String} {x : V} {v : Value} (I : Inv X pins σ H s) (r : RelV x v) (ty : tyV X.K T x H) :
    s.TypeIs v T ∧ ∀ a, v = .ref a → ∃ ob, s.heap.get? a = some ob ∧ ob.dict = none := by
  cases x with
  | str z =>
    obtain ⟨t, rfl⟩ := r
    cases (show T = "str" from ty)
    exact ⟨typeIs_str s z t, fun _ e => nomatch e⟩
  | int i =>
    obtain ⟨t, rfl⟩ := r
    cases (show T = "int" from ty)
    exact ⟨typeIs_int s i t, fun _ e => nomatch e⟩
  | ref p =>
    cases r
    rcases ty with ⟨rfl, xs, hq⟩ | ⟨rfl, o, hk, hc, hd⟩ | ⟨rfl, hk⟩ | ⟨rfl, S, n, hk⟩
    · obtain ⟨its, _, pl, _⟩ := I.list hq
      refine ⟨pl.isList.typeIs, fun a e => ?_⟩
      cases e
      obtain ⟨o, n, e, c, hd, _⟩ := pl
      exact ⟨o, e, hd⟩
    · refine ⟨⟨o, I.kIn p o hk, hc⟩, fun a e => ?_⟩
      cases e
      exact ⟨o, I.kIn _ o hk, hd⟩
    · have z : ∃ o, s.heap.get? p = some o ∧ o.ExactDict := by
        rcases hk with ⟨kvs, hk⟩ | ⟨kvs, hk⟩
        · obtain ⟨_, _, _, _, o, _, _, e, ex, _⟩ := I.hok p _ hk
          exact ⟨o, e, ex⟩
        · obtain ⟨_, _, _, _, o, _, _, e, ex, _⟩ := I.hok p _ hk
          exact ⟨o, e, ex⟩
      obtain ⟨o, e, ex⟩ := z
      refine ⟨⟨o, e, ex.1⟩, fun a e2 => ?_⟩
      cases e2
      exact ⟨o, e, ex.2.1⟩
    · obtain ⟨o, _, _, _, e, ex, _⟩ := I.hok p _ hk
      refine ⟨⟨o, e, ex.1⟩, fun a e2 => ?_⟩
      cases e2
      exact ⟨o, e, ex.2.1⟩
  | _ => exact False.elim ty
def tBM (K : PySem.W.Frag) (T : String) (r : V → List V → Hp → VK → Prop) (to : TE) (t : TA) : TE := fun σ H Q => to σ H fun x H1 => tyV K T x H1 ∧ t σ H1 fun xs H2 => r x xs H2 Q
variable {o e : Expr} {es : List Expr} {to : TE} {t : TA} {name : Str} {apos cpos : Pos} {T id : String} {r : V → List V → Hp → VK → Prop}
theorem pe_bm (pa : PlainAttrs T) (slot : Slot T name id) (hty : typeOf (.builtin id) = pure (.type "method_descriptor")) (hm : MtR X id r) (ho : PE X o to) (ha : PA X (e :: es) t)
    (hbase : attributeBase o name X.env (eval o X.env) = eval o X.env := by rfl)
    (hfew : ((backTo cpos (starEach (e :: es) X.env)).all (fun x => !x.1) && (backToKw cpos (keywordEach [] X.env)).all (fun x => x.1.isSome)
      && decide ((e :: es).length + ([] : List Keyword).length + (if ([] : List Keyword).isEmpty then 0 else 1) < 30)) = true := by rfl)
    (hline : (apos.endLine == cpos.line) = true := by rfl) (hs : starEach (e :: es) X.env = (false, eval e X.env) :: starEach es X.env := by rfl) (hplain : (backTo cpos (starEach es X.env)).any (·.1) = false := by rfl) :
    PE X (.Call (.Attribute o name apos) (e :: es) [] cpos) (tBM X.K T r to t) := by
  intro pins s σ H Q I h
  refine wpAny_Call_method_late hbase hfew hline rfl (thn (ho pins s σ H _ I h) fun v s1 ⟨x, H1, I1, r1, ty, q1⟩ => ?_)
  obtain ⟨h1, h2⟩ := tyV_is I1 r1 ty
  refine ⟨T, id, pa, slot, hty, h1, h2, ?_⟩
  have hA := ha cpos pins s1 σ H1 _ I1 q1
  rw [hs] at hA ⊢
  refine Calls.callWith_builtin (by show (false || (backTo cpos (starEach es X.env)).any (·.1)) = false; rw [hplain] <;> rfl) (Calls.evalArgs_plain ?_)
  exact thn hA fun us s2 ⟨vs, H2, I2, r2, q2⟩ => hm pins s2 σ H2 x vs v us Q I2 r1 r2 q2
end
end L2
namespace L2
open PySem PySem.Spec PyProof.Rows
def MtM (X : Cx) (id : String) (r : V → List V → Hp → VK → Prop) : Prop :=
  ∀ (pins : List (Addr × Obj)) (s : Shared) (σ : St) (H : Hp) (x : V) (xs : List V) (v : Value) (us : List Value) (Q : VK), Inv X pins σ H s → RelV x v → Vals xs us → r x xs H Q →
    wpAny (model X.prog X.w) X.A (call (.builtin id) (v :: us)) (EP X pins σ Q) X.xe s
theorem Vals.one : ∀ {x : V} {us : List Value}, Vals [x] us → ∃ u, us = [u] ∧ RelV x u
  | _, _, .cons r .nil => ⟨_, rfl, r⟩
section
variable {X : Cx} {pins : List (Addr × Obj)} {σ : St} {H : Hp} {s : Shared} {l b : Addr} {xs ys zs : List V}
theorem Inv.lset {its its' : List Value} {n : Nat} {f : Array Value → Array Value} {t' : Nat} (I : Inv X pins σ H s) (hH : H l = some (.lst xs))
    (e : s.heap.get? l = some { cls := .type "list", data := .seq its.toArray n }) (hf : f its.toArray = its'.toArray) (hv : Vals ys its') (hz : ys.length ≤ sizeLine) :
    Inv X pins σ (upd H l (.lst ys)) { s with heap := s.heap.update l (Obj.mapSeq f), toks := t' } := by
  have q := PySem.IsL.update e f
  rw [hf] at q
  refine I.write (x := l) (e := l) (by rw [hH]; exact trivial) (.inl rfl) (fun b' u hb hu => (Heap.get?_update_other s.heap (Obj.mapSeq f) (Ne.symm hb)).trans hu) ⟨_, q⟩ ?_
  exact ⟨hz, its', _, hv, q⟩
theorem Inv.lstM (I : Inv X pins σ H s) (hH : H l = some (.lst xs)) : xs.length ≤ sizeLine ∧ ∃ (its : List Value) (n : Nat), Vals xs its ∧ xs.length = its.length ∧ s.heap.get? l = some { cls := .type "list", data := .seq its.toArray n } := by
  obtain ⟨z, its, n, r, e⟩ := I.hok l _ hH
  exact ⟨z, its, n, r, r.length, e⟩
end
section
variable {X : Cx}
def rAppend : V → List V → Hp → VK → Prop := fun x vs H Q => ∃ l xs y, x = .ref l ∧ vs = [y] ∧ H l = some (.lst xs) ∧ xs.length < sizeLine ∧ Q .non (upd H l (.lst (xs ++ [y])))
theorem mt_append : MtM X "list.append" rAppend := by
  intro pins s σ H x vs v us Q I rx rv h
  obtain ⟨l, xs, y, rfl, rfl, hH, hz, q⟩ := h
  cases rx
  obtain ⟨u, rfl, ru⟩ := rv.one
  obtain ⟨z, its, n, r, hl, e⟩ := I.lstM hH
  refine call_meets F.slot_list_append ⟨_, e, rfl⟩ F.entry_list_append (F.args_list_append_2 _ _) (PySem.list_append l its.toArray n u (by rw [List.size_toArray]; omega)) ⟨e, ?_⟩
  refine ⟨.non, _, I.lset (its' := its ++ [u]) hH e (by simp) (r.append (.cons ru .nil)) ?_, rfl, q⟩
  rw [List.length_append, List.length_singleton]
  omega
end
section
variable {prog : Program} {w : World} {A : Around} {E : Value → Shared → Prop} {s : Shared}
end
section
variable {X : Cx}
end
end L2
namespace Att
open PySem PySem.W PySem.Calls PyProof.Rows
theorem ints_of_wellAll {P : Params} {h : Heap} : ∀ (ns : List Int) (vs : List Value), WellAll P h vs (ns.map WData.int) → IntsAre vs ns := by
  intro ns
  induction ns with
  | nil =>
    intro vs w
    rw [List.map_nil] at w
    cases w
    exact .nil
  | cons n ns ih =>
    intro vs w
    rw [List.map_cons] at w
    cases w with
    | cons a b =>
      cases a
      exact .cons _ _ (ih _ b)
theorem script_of {l : OpenLaw} {n : Nat} (hn : l.most = some n) {P : Params} {h : Heap} {args : List WData} {vals : List Value}
    (hpre : l.row.toRowW.claim.pre args = true) (hwl : WellAll P h vals args) :
    ∃ a vs ns, vals = [Value.ref a] ∧ args = [WData.list (ns.map WData.int)] ∧ h.get? a = some { cls := .type "list", data := .seq vs.toArray } ∧ IntsAre vs ns ∧ ns.length ≤ n := by
  have hsh : WShape.hasAll [] args [.list .int] = true := (pre_splitW hpre).1
  have hc : l.pre.holds [] { args := args } = true := (pre_splitW hpre).2
  obtain ⟨d, r, rfl, h1, h2⟩ := hasAllW_cons hsh
  obtain rfl := hasAllW_nil h2
  obtain ⟨xs, rfl, h3⟩ := hasW_list h1
  obtain ⟨ns, rfl⟩ := items_int h3
  have hlen : ns.length ≤ n := by
    unfold OpenLaw.pre at hc
    have h4 : (WTm.not (.lt (.lit (.int (n : Int))) (.len (.arg 0)))).holds [] { args := [.list (ns.map .int)] } = true := by
      have h4 := (holds_andW hc).1
      rw [hn] at h4
      exact h4
    have h5 := condW_of h4 (w_not (w_lt w_lit (w_len_list (w_arg rfl))))
    rw [List.length_map] at h5
    refine Nat.le_of_not_lt fun q => ?_
    have q' : (n : Int) < ((ns.length : Nat) : Int) := by omega
    first
      | (rw [decide_eq_true q'] at h5; exact absurd h5 (by decide))
      | (simp at h5; omega)
  cases hwl with
  | cons w1 w2 =>
    cases w2
    cases w1 with
    | list ho hall => exact ⟨_, _, ns, rfl, rfl, ho, ints_of_wellAll ns _ hall, hlen⟩
theorem post_true (l : OpenLaw) (args : List WData) : l.row.toRowW.claim.post args (.bool true) args = true :=
  postW_of (r := l.row.toRowW) (X := (true == true))
    (show WShape.has [] (.bool true) .bool = true by first | rfl | decide | simp [WShape.has, WShape.arms, WShape.armsAll])
    (show (WTm.eq .res (.lit (.bool true))).value [] { args := args, res := some (.bool true), after := args } = some (.bool (true == true)) from w_eq_bool (w_res rfl) w_lit) rfl
theorem attach_call {l : OpenLaw} {n : Nat} {q : Program} {loose : List Str} {XP : (Str → Option Value) → Heap → Prop} {YP : World → Heap → Prop} {d : DefRec}
    (hn : l.most = some n) (hdf : d.params.defaults = [])
    (call : ∀ (w : World) (s₀ s₁ : Shared) (mg mb : Str → Option Value) (fa : Addr) (o : Obj) (pm cd doc : Value) (a : Addr) (vs : List Value) (ns : List Int),
      Ground q loose [] XP w s₀ mg mb s₁.heap → YP w s₁.heap →
      s₁.heap.get? fa = some o → o.data = .func (docDef d.name d.params d.body d.scope pm cd doc) → s₁.heap.CodeRec cd d.name → mg d.name = some (.ref fa) →
      s₁.heap.get? a = some { cls := .type "list", data := .seq vs.toArray } → IntsAre vs ns → ns.length ≤ n → s₁.gens = #[] →
      codeAny (model l.prog w) callerA (.call (.ref fa) ⟨[.ref a], []⟩) (fun r s' => r = .ok (.ret (.bool true)) ∧ OldK s₁.heap s'.heap ∧ s'.os = s₁.os ∧ AllBare s'.gens) s₁) :
    WalkO q loose XP YP l.row.toRowW d [] (fun f vs => PySem.call f vs) := by
  intro w s₀ s₁ mg mb G Y fa o pm cd doc dV kV ho hd hcd hD hmg hg args vals as hpre hlay hrd hwl hlo
  obtain rfl : dV = .none := Dflts.none hD hdf
  obtain rfl : kV = .none := Dflts.noKw hD
  obtain ⟨a, vs, ns, rfl, rfl, hobj, hints, hlen⟩ := script_of hn hpre hwl
  refine enter_call (codeAny_mono (call w s₀ s₁ mg mb fa o pm cd doc a vs ns G Y ho (fd_plain hd) hcd hmg hobj hints hlen hg) fun r s' hq => ?_)
  obtain ⟨rfl, h2, h3, h4⟩ := hq
  exact ⟨.inl ⟨.bool true, .bool true, [], rfl, fun _ => rfl, .bool true, post_true l _, fun _ => ⟨List.Pairwise.nil, fun _ hm => (nomatch hm)⟩⟩, h2, h3, h4⟩
section
variable {prog : Program} {w : World} {A : Around} {E : Value → Shared → Prop} {s : Shared} {K : Frag}
end
end Att
namespace L2
open PySem PySem.Spec PyProof.Rows
theorem vals_ints : ∀ {vs : List Value} {ns : List Int}, IntsAre vs ns → Vals (ns.map V.int) vs
  | _, _, .nil => .nil
  | _, _, .cons n t h => .cons ⟨t, rfl⟩ (vals_ints h)
end L2
namespace L2
open PySem PySem.Spec PyProof.Rows
end L2
namespace L2
open PySem PySem.Spec PyProof.Rows
def inClass (s : Stmt) (j : Nat) : Stmt := match s with
  | .ClassDef _ _ _ body _ _ _ _ _ _ _ => body.getD j (.Pass ⟨0, 0, 0, 0⟩)
  | _ => .Pass ⟨0, 0, 0, 0⟩
def defArgs (s : Stmt) : Arguments := match s with
  | .FunctionDef _ a _ _ _ _ _ _ _ _ => a
  | _ => { posonlyargs := [], args := [], vararg := none, kwonlyargs := [], kw_defaults := [], kwarg := none, defaults := [] }
def defBody (s : Stmt) : List Stmt := match s with
  | .FunctionDef _ _ b _ _ _ _ _ _ _ => b
  | _ => []
def defScope (s : Stmt) : Scope := match s with
  | .FunctionDef _ _ _ _ _ _ sc _ _ _ => sc
  | _ => { kind := .function, names := [], isGenerator := false, isCoroutine := false }
abbrev CX0 : CXT := fun _ _ _ _ _ _ => False
abbrev E0 : XK := fun _ _ _ => False
theorem pass0 {X : Cx} : Passes CX0 X E0 := fun _ _ _ _ _ _ _ h => h.elim
structure Fun (K : PySem.W.Frag) (x qual : Str) (st : Stmt) (f : Addr) (fd : FuncData) : Prop where
  ex : ∃ (oc : Value) (od : Option Addr) (kV doc pm : Value) (an : Option Addr) (cdv ct : Value) (osl : Array (Option Value)),
    fd = PySem.W.fnOf x qual (defArgs st) (defBody st) (defScope st) .none kV doc pm an cdv ct ∧ K.lookup f = some ⟨oc, od, .func fd, osl⟩ ∧ PySem.W.codeIn K cdv qual = true
  kp : PySem.W.keepIn K (.ref f) = true
section
variable {P : Program} {w : World} {K : PySem.W.Frag} {mg : Str → Option Value} {base : Heap}
theorem Fun.ok {x qual : Str} {st : Stmt} {f : Addr} {fd : FuncData} {N ps : List Str} {k : Nat} {sp : Sp} (F : Fun K x qual st f fd) (S : FnScope N ps (defScope st)) (len : ∀ vs H Q E, sp vs H Q E → vs.length = ps.length)
    (hbody : ∀ (cdv : Value) (A : Around) (outer : List Env) (s : Shared) (H : Hp) (vs : List V) (Q : VK) (E : XK), Room k (A.deeper (envOfC qual (defScope st) s.heap.objs.size f cdv)) → sp vs H Q E →
      ∃ t, PSs (cxOf CX0 P w K mg base N qual (defScope st) f cdv A outer s H E).nox (defBody st) t ∧ t { nx := fun _ H' => Q .non H', rt := Q } (start N vs) H) : FnOk P w K mg base CX0 (k + 1) f fd ps sp := by
  obtain ⟨oc, od, kV, doc, pm, an, cdv, ct, osl, rfl, lk, hcd⟩ := F.ex
  refine fn_of lk hcd S len fun A outer s H vs Q E hr hsp => ?_
  obtain ⟨t, h, q⟩ := hbody cdv A outer s H vs Q E hr hsp
  exact ⟨t, h.nox, q⟩
theorem Fun.binds {x qual : Str} {st : Stmt} {f : Addr} {fd : FuncData} {ps : List Str} (F : Fun K x qual st f fd)
    (h : ∀ (kV doc pm : Value) (an : Option Addr) (cdv ct : Value) (us : List Value), us.length = ps.length → bindArgs (PySem.W.fnOf x qual (defArgs st) (defBody st) (defScope st) .none kV doc pm an cdv ct) ⟨us, []⟩ = pure (ps.zip us)) : Binds K fd ps [] := by
  obtain ⟨oc, od, kV, doc, pm, an, cdv, ct, osl, rfl, lk, hcd⟩ := F.ex
  exact .all (h kV doc pm an cdv ct)
theorem fun_mk {x qual : Str} {st : Stmt} {f : Addr} {oc : Value} {od an : Option Addr} {osl : Array (Option Value)} {kV doc pm cdv ct : Value} (l : K.lookup f = some ⟨oc, od, .func (PySem.W.fnOf x qual (defArgs st) (defBody st) (defScope st) .none kV doc pm an cdv ct), osl⟩)
    (c : PySem.W.codeIn K cdv qual = true) (k : PySem.W.keepIn K (.ref f) = true) : Fun K x qual st f (PySem.W.fnOf x qual (defArgs st) (defBody st) (defScope st) .none kV doc pm an cdv ct) := ⟨⟨oc, od, kV, doc, pm, an, cdv, ct, osl, rfl, l, c⟩, k⟩
end
section
variable {X : Cx}
theorem pv (i : Nat) {x : Str} {pos : Pos} (hN : X.N[i]? = some x := by rfl) (hv : Vis X.env.scope x := by first | exact Or.inl rfl | exact Or.inr (Or.inl rfl) | exact Or.inr (Or.inr rfl)) (hd : (x == ("__debug__" : Str)) = false := by decide)
    (hcd : (x == ("__classdict__" : Str)) = false := by decide) : PE X (.Name x pos) (tVar i) := pe_var hN hv hd hcd
end
theorem iteF {A B : Prop} (h : B) : if false = true then A else B := by
  rw [if_neg Bool.false_ne_true]
  exact h
theorem iteT {A B : Prop} (h : A) : if true = true then A else B := by
  rw [if_pos rfl]
  exact h
theorem ite2 {c A B : Prop} [Decidable c] (h1 : c → A) (h2 : ¬ c → B) : if c then A else B := by
  by_cases h : c
  · rw [if_pos h]
    exact h1 h
  · rw [if_neg h]
    exact h2 h
theorem iteNS {c A B : Prop} [Decidable c] (hc : c) (h : B) : if (!decide c) = true then A else B := by
  rw [decide_eq_true hc]
  exact iteF h
def Same (H H' : Hp) : Prop := ∀ b o, H b = some o → H' b = some o
theorem Same.refl (H : Hp) : Same H H := fun _ _ h => h
theorem Same.trans {H H1 H2 : Hp} (a : Same H H1) (b : Same H1 H2) : Same H H2 := fun c o h => b c o (a c o h)
end L2
namespace L2
open PySem PySem.Spec PyProof.Rows
section
variable {X : Cx}
theorem call_isinst : CallR X (.builtin "isinstance") (fun xs H Q => ∃ x t n b, xs = [x, .ty n] ∧ TyOf X.K H x t ∧ PySem.W.kitOne X.K t (.type n) = some b ∧ Q (.bl b) H) := by
  intro pins s σ H xs us Q I r h
  obtain ⟨x, t, n, b, rfl, ty, e, q⟩ := h
  obtain ⟨u, u2, rfl, rx, r2⟩ := vals2 r
  cases (show u2 = Value.type n from r2)
  exact isinst_ok I rx ty e fun tk => ⟨.bl b, H, I.tok _, rfl, q⟩
end
end L2
namespace L2
open PySem PySem.Spec PyProof.Rows
def cloOf (env : Env) : List (Str × NameKind) → List (Str × Addr) → List (Str × Addr)
  | [], cs => cs
  | (n, k) :: r, cs => cloOf env r (if k == .free then match env.cells.lookup n with | some a => (n, a) :: cs | none => cs else cs)
theorem closureFor_free {scope : Scope} {env : Env} (h : ∀ y ∈ scope.names, y.2 = .free → ∃ c, env.cells.lookup y.1 = some c) : closureFor scope env = pure (cloOf env scope.names []) := by
  have key : ∀ (l : List (Str × NameKind)) (cs : List (Str × Addr)), (∀ y ∈ l, y.2 = .free → ∃ c, env.cells.lookup y.1 = some c) →
      (forIn l cs (fun (x : Str × NameKind) (r : List (Str × Addr)) => (if (x.2 == NameKind.free) = true then (do let a ← cellOf env x.1; pure (ForInStep.yield ((x.1, a) :: r))) else pure (ForInStep.yield r) : Sem (ForInStep (List (Str × Addr)))))) = (pure (cloOf env l cs) : Sem _) := by
    intro l
    induction l with
    | nil => intro cs _; rfl
    | cons y r ih =>
      intro cs hy
      obtain ⟨n, k⟩ := y
      have hr : ∀ z ∈ r, z.2 = .free → ∃ c, env.cells.lookup z.1 = some c := fun z hz => hy z (List.mem_cons_of_mem _ hz)
      rw [List.forIn_cons]
      by_cases hk : (k == NameKind.free) = true
      · obtain ⟨c, hc⟩ := hy (n, k) List.mem_cons_self (by simpa using hk)
        have e : cellOf env n = pure c := by unfold cellOf; rw [hc]
        simp only [hk, if_true, e, pure_bind, cloOf, hc]
        exact ih _ hr
      · have hk' : (k == NameKind.free) = false := by simpa using hk
        simp only [hk', Bool.false_eq_true, if_false, pure_bind, cloOf]
        exact ih _ hr
  have e : closureFor scope env = (forIn scope.names ([] : List (Str × Addr)) (fun (x : Str × NameKind) (r : List (Str × Addr)) => (if (x.2 == NameKind.free) = true then (do let a ← cellOf env x.1; pure (ForInStep.yield ((x.1, a) :: r))) else pure (ForInStep.yield r) : Sem (ForInStep (List (Str × Addr))))) >>= fun cs => pure cs) := by
    unfold closureFor
    rfl
  rw [e, key scope.names [] h]
  all_goals rfl
theorem cloOf_sub {env : Env} : ∀ (l : List (Str × NameKind)) (cs : List (Str × Addr)), (∀ p ∈ cs, env.cells.lookup p.1 = some p.2) → ∀ p ∈ cloOf env l cs, env.cells.lookup p.1 = some p.2
  | [], cs, h, p, hp => h p hp
  | (n, k) :: r, cs, h, p, hp => by
    unfold cloOf at hp
    refine cloOf_sub r _ ?_ p hp
    split
    · split
      · rename_i a ea
        intro q hq
        rcases List.mem_cons.mp hq with e | hq
        · rw [e]; exact ea
        · exact h q hq
      · exact h
    · exact h
theorem cloOf_keeps {env : Env} : ∀ (l : List (Str × NameKind)) (cs : List (Str × Addr)) {y : Str}, (∃ p ∈ cs, p.1 = y) → ∃ p ∈ cloOf env l cs, p.1 = y
  | [], cs, y, h => h
  | (n, k) :: r, cs, y, ⟨p, hp, e⟩ => by
    unfold cloOf
    refine cloOf_keeps r _ ?_
    split
    · split
      · exact ⟨p, List.mem_cons_of_mem _ hp, e⟩
      · exact ⟨p, hp, e⟩
    · exact ⟨p, hp, e⟩
theorem cloOf_has {env : Env} : ∀ (l : List (Str × NameKind)) (cs : List (Str × Addr)) {y : Str} {c : Addr}, (y, NameKind.free) ∈ l → env.cells.lookup y = some c → ∃ p ∈ cloOf env l cs, p.1 = y
  | (n, k) :: r, cs, y, c, hm, hc => by
    unfold cloOf
    rcases List.mem_cons.mp hm with e | hm
    · cases e
      refine cloOf_keeps r _ ?_
      rw [if_pos (by rfl), hc]
      exact ⟨_, List.mem_cons_self, rfl⟩
    · exact cloOf_has r _ hm hc
theorem lookup_of_mem {α : Type} : ∀ {l : List (Str × α)} {p : Str × α}, p ∈ l → ∃ c, l.lookup p.1 = some c
  | q :: l, p, h => by
    obtain ⟨n, a⟩ := q
    rw [List.lookup_cons]
    split
    · exact ⟨_, rfl⟩
    · rename_i hne
      rcases List.mem_cons.mp h with e | h
      · subst e; simp at hne
      · exact lookup_of_mem h
theorem cloOf_lookup {env : Env} {l : List (Str × NameKind)} {y : Str} {c : Addr} (hm : (y, NameKind.free) ∈ l) (hc : env.cells.lookup y = some c) : (cloOf env l []).lookup y = some c := by
  obtain ⟨p, hp, e⟩ := cloOf_has l [] hm hc
  obtain ⟨c', e'⟩ := lookup_of_mem hp
  rw [e] at e'
  have q := cloOf_sub l [] (fun _ z => nomatch z) _ (PySem.mem_of_lookup e')
  rw [hc] at q
  rw [e']
  exact q.symm
theorem cloOf_lookup_sub {env : Env} {l : List (Str × NameKind)} {y : Str} {c : Addr} (h : (cloOf env l []).lookup y = some c) : env.cells.lookup y = some c :=
  cloOf_sub l [] (fun _ z => nomatch z) _ (PySem.mem_of_lookup h)
theorem relabel_free {env : Env} : ∀ {names : List (Str × NameKind)} {x : Str} {k : NameKind}, (names.map fun (n, k) => if (k == NameKind.free && env.scope.kind == .function && env.kindOf n == some .cell) then (n, NameKind.cell) else (n, k)).lookup x = some k →
    ∃ k', names.lookup x = some k' ∧ (k' = k ∨ k' = .free)
  | [], _, _, h => by simp at h
  | (n, k0) :: r, x, k, h => by
    have ih := @relabel_free env r x k
    have h : List.lookup x ((if (k0 == NameKind.free && env.scope.kind == .function && env.kindOf n == some .cell) = true then (n, NameKind.cell) else (n, k0)) :: _) = some k := h
    cases hx : x == n with
    | true =>
      refine ⟨k0, by simp only [List.lookup_cons, hx], ?_⟩
      by_cases hc : (k0 == NameKind.free && env.scope.kind == .function && env.kindOf n == some .cell) = true
      · refine .inr ?_
        simp only [Bool.and_eq_true] at hc
        exact beq_iff_eq.mp hc.1.1
      · rw [if_neg hc] at h
        simp only [List.lookup_cons, hx] at h
        exact .inl (Option.some.inj h)
    | false =>
      have h2 : List.lookup x (r.map fun (n, k) => if (k == NameKind.free && env.scope.kind == .function && env.kindOf n == some .cell) then (n, NameKind.cell) else (n, k)) = some k := by
        by_cases hc : (k0 == NameKind.free && env.scope.kind == .function && env.kindOf n == some .cell) = true
        · rw [if_pos hc] at h; simp only [List.lookup_cons, hx] at h; exact h
        · rw [if_neg hc] at h; simp only [List.lookup_cons, hx] at h; exact h
      obtain ⟨k', e1, e2⟩ := ih h2
      exact ⟨k', by simp only [List.lookup_cons, hx]; exact e1, e2⟩
theorem relabel_of_free {env : Env} : ∀ {names : List (Str × NameKind)} {x : Str}, names.lookup x = some .free →
    (names.map fun (n, k) => if (k == NameKind.free && env.scope.kind == .function && env.kindOf n == some .cell) then (n, NameKind.cell) else (n, k)).lookup x = some .cell ∨
    (names.map fun (n, k) => if (k == NameKind.free && env.scope.kind == .function && env.kindOf n == some .cell) then (n, NameKind.cell) else (n, k)).lookup x = some .free
  | [], _, h => by simp at h
  | (n, k0) :: r, x, h => by
    have ih := @relabel_of_free env r x
    show List.lookup x ((if (k0 == NameKind.free && env.scope.kind == .function && env.kindOf n == some .cell) = true then (n, NameKind.cell) else (n, k0)) :: _) = some .cell ∨ List.lookup x ((if (k0 == NameKind.free && env.scope.kind == .function && env.kindOf n == some .cell) = true then (n, NameKind.cell) else (n, k0)) :: _) = some .free
    cases hx : x == n with
    | true =>
      simp only [List.lookup_cons, hx] at h
      by_cases hc : (k0 == NameKind.free && env.scope.kind == .function && env.kindOf n == some .cell) = true
      · rw [if_pos hc]; simp only [List.lookup_cons, hx]; simp
      · rw [if_neg hc]; simp only [List.lookup_cons, hx]; exact .inr (by rw [Option.some.inj h])
    | false =>
      simp only [List.lookup_cons, hx] at h
      by_cases hc : (k0 == NameKind.free && env.scope.kind == .function && env.kindOf n == some .cell) = true
      · rw [if_pos hc]; simp only [List.lookup_cons, hx]; exact ih h
      · rw [if_neg hc]; simp only [List.lookup_cons, hx]; exact ih h
def Cx.blk (X : Cx) (N' : List Str) (scope : Scope) (C : Addr) (fp : List Addr) (s : Shared) (H : Hp) : Cx :=
  { X with N := N', s₀ := s, H₀ := H, env := compEnvC scope (cloOf X.env scope.names []) C X.env, outer := X.stack, ex := fp, fn := fun _ => false, pn := [], xe := fun _ _ => False }
structure BlkScope (N : List Str) (sc scope : Scope) (x : Str) (N' : List Str) (fv : List Nat) : Prop where
  nocell : ∀ y ∈ scope.names, y.2 ≠ .cell
  kind : scope.kind = .function
  names : ∀ y ∈ scope.names, y.2 = .local → scope.names.lookup y.1 = some .local
  loc : scope.names.lookup x = some .local
  free : ∀ y ∈ scope.names, y.2 = .free → sc.names.lookup y.1 = some .cell ∨ sc.names.lookup y.1 = some .free
  nd : N'.Nodup
  hd : N'[0]? = some x
  len : N'.length = fv.length + 1
  at_ : ∀ j, j < fv.length → (N'[j + 1]?).isSome = true ∧ N'[j + 1]? = (fv[j]?).bind (fun i => N[i]?) ∧ (N'[j + 1]?).bind (fun y => scope.names.lookup y) = some .free
def blkVals (fv : List Nat) (σ : St) : St := fv.map fun k => (σ[k]?).join
abbrev testsOf (ifs : List Expr) (env : Env) : Sem Bool := forIn ifs true fun c r => if r = true then do let ok ← isTrue c env (eval c env); pure (ForInStep.yield ok) else pure (ForInStep.yield r)
def PTs (X : Cx) (ifs : List Expr) (t : TT) : Prop :=
  ∀ (pins : List (Addr × Obj)) (s : Shared) (σ : St) (H : Hp) (Q : Bool → Hp → Prop), Inv X pins σ H s → t σ H Q → wpAny (model X.prog X.w) X.A (testsOf ifs X.env) (TP X pins σ Q) X.xe s
def tAll : TT := fun _ H Q => Q true H
theorem pts_nil {X : Cx} : PTs X [] tAll := fun pins s σ H Q I h => wpAny_pure ⟨H, I, h⟩
def tLC (wi : TI) (fv : List Nat) (tt : TT) (te : TE) : TE := fun σ H Q => wi σ H fun J H1 => ∃ (W : Nat → List V → Hp → Prop) (n : Nat), W 0 [] H1 ∧ n ≤ sizeLine ∧ ∀ i ys H, W i ys H →
  (J.stop i H ∧ ∀ p, H p = none → Q (.ref p) (upd H p (.lst ys))) ∨
  (J.go i H ∧ i < n ∧ ∀ x H', J.yld i H x H' → tt (some x :: blkVals fv σ) H' fun c H2 => if c = true then te (some x :: blkVals fv σ) H2 fun y H3 => W (i + 1) (ys ++ [y]) H3 else W (i + 1) ys H2)
section
variable {X : Cx} {N' : List Str} {scope : Scope} {x : Str} {fv : List Nat}
theorem blk_inv {pins : List (Addr × Obj)} {σ : St} {H : Hp} {s : Shared} {fp : List Addr} {C : Addr} {h1 : Heap} {m : Str → Option Value} {tk : Nat} {pl : List (Addr × Obj)} (S : BlkScope X.N X.env.scope scope x N' fv) (I : Inv X pins σ H s)
    (hf : ∀ b ∈ fp, FpOk X pins H b) (hfo : ∀ b ∈ fp, b < s.heap.objs.size) (hC : s.heap.objs.size ≤ C) (kp : ∀ b o, s.heap.get? b = some o → h1.get? b = some o) (hn : h1.Ns C m)
    (hpl : ∀ p ∈ pl, h1.get? p.1 = some p.2 ∧ s.heap.objs.size ≤ p.1 ∧ p.1 ≠ C ∧ ∀ v, p.2.data ≠ .cell v) :
    Inv (X.blk N' scope C fp s H) pl (none :: blkVals fv σ) H { s with heap := h1, toks := tk } := by
  have clo : ∀ y c, (cloOf X.env scope.names []).lookup y = some c → X.env.cells.lookup y = some c := fun y c e => cloOf_lookup_sub e
  have cell : ∀ y c, (cloOf X.env scope.names []).lookup y = some c → ∃ v, s.heap.IsCell c v := fun y c e => I.cell y c (clo y c e)
  have lt : ∀ y c, (cloOf X.env scope.names []).lookup y = some c → c < s.heap.objs.size := fun y c e => by obtain ⟨v, q⟩ := cell y c e; exact q.lt
  have kc : ∀ c v, s.heap.IsCell c v → h1.IsCell c v := fun c v q => by obtain ⟨o, e, d⟩ := q; exact ⟨o, kp _ _ e, d⟩
  refine ⟨⟨I.ok.mod, S.kind, I.ok.glob, I.ok.blt, hC, fun y z c e1 e2 => I.ok.inj y z c (clo y c e1) (clo z c e2), fun y hy => ?_, fun y c e => ?_, I.ok.hd, I.ok.frames, .inl rfl, fun b hb => ⟨?_, fun y c e z => (hf b hb).2.2.2.2.1 y c (clo y c e) z⟩, fun b o e => I.bs b o e, Nat.le_trans I.ok.bsz I.sz, fun b o e hb => ?_, fun b hb hb2 => ?_, I.stack, I.stkFree⟩,
    rfl, I.bare, Un.kept kp, ⟨m, hn, fun i y v h1' h2 h3 => ?_⟩, fun y c e => ?_, I.hok.fresh hC, fun y c e => I.freeC y c (clo y c e), fun p hp => ?_, I.hok.kept kp, ?_⟩
  · have hy' : ∃ k, scope.names.lookup y = some k ∧ k = .free := by
      rcases hy with hy | hy
      · obtain ⟨k', e1, e2⟩ := relabel_free (env := X.env) (names := scope.names) (x := y) (k := .cell) hy
        rcases e2 with e2 | e2
        · exact absurd e2 (S.nocell _ (PySem.mem_of_lookup e1))
        · exact ⟨k', e1, e2⟩
      · obtain ⟨k', e1, e2⟩ := relabel_free (env := X.env) (names := scope.names) (x := y) (k := .free) hy
        rcases e2 with e2 | e2
        · exact ⟨k', e1, e2⟩
        · exact ⟨k', e1, e2⟩
    obtain ⟨k, e, rfl⟩ := hy'
    have hm := PySem.mem_of_lookup e
    obtain ⟨c, hc⟩ := I.ok.has y (S.free _ hm rfl)
    exact ⟨c, cloOf_lookup hm hc⟩
  · exact (Bool.false_ne_true (show false = true from e)).elim
  · exact Nat.ne_of_lt (Nat.lt_of_lt_of_le (hfo b hb) hC)
  · have e' := e
    rcases (hf b hb).2.2.2.1 with z | z
    · exact I.ok.noex b o e z
    · exact absurd (Nat.lt_of_lt_of_le (Heap.lt_size e) (Nat.le_trans I.ok.bsz z)) (Nat.lt_irrefl _)
  · have q := I.stkSub b hb2
    rcases List.mem_cons.mp q with z | z
    · exact (hf b hb).2.1 z
    · exact (hf b hb).2.2.1 z
  · cases i with
    | zero =>
      have z : (none : Option V) = some v := Option.some.inj h2
      cases z
    | succ j =>
      have h2' : (blkVals fv σ)[j]? = some (some v) := h2
      unfold blkVals at h2'
      rw [List.getElem?_map] at h2'
      cases ej : fv[j]? with
      | none => rw [ej] at h2'; cases h2'
      | some k =>
        rw [ej] at h2'
        have h4 : (σ[k]?).join = some v := Option.some.inj h2'
        have h5 : σ[k]? = some (some v) := by
          cases es : σ[k]? with
          | none => rw [es] at h4; cases h4
          | some w' => rw [es] at h4; rw [show w' = some v from h4]
        have hj : j < fv.length := (List.getElem?_eq_some_iff.mp ej).1
        obtain ⟨_, a1, a2⟩ := S.at_ j hj
        have h1'' : N'[j + 1]? = some y := h1'
        rw [h1''] at a1 a2
        rw [ej] at a1
        have a3 : X.N[k]? = some y := a1.symm
        have a4 : scope.names.lookup y = some .free := a2
        have hm := PySem.mem_of_lookup a4
        have kd : X.env.kindOf y = some .cell ∨ X.env.kindOf y = some .free := S.free _ hm rfl
        obtain ⟨mX, _, hlX⟩ := I.loc
        obtain ⟨u, ru, lk⟩ := hlX k y v a3 h5 (kd.elim (fun z => .inr (.inl z)) fun z => .inr (.inr z))
        refine ⟨u, ru, .inr ?_⟩
        rcases lk with ⟨z, _⟩ | ⟨_, c, hc, hcell⟩
        · rcases kd with z' | z' <;> rw [z'] at z <;> cases z
        · exact ⟨relabel_of_free (env := X.env) a4, c, cloOf_lookup hm hc, kc _ _ hcell⟩
  · obtain ⟨v, q⟩ := cell y c e
    exact ⟨v, kc _ _ q⟩
  · have hp' : p ∈ pl := hp
    obtain ⟨e, l1, l2, d⟩ := hpl p hp'
    exact ⟨e, I.hok.fresh l1, l2, fun z => absurd (I.stkSub _ z) (fun q => by
      rcases List.mem_cons.mp q with q | q
      · exact absurd I.lt (by rw [← q]; exact Nat.not_lt.mpr l1)
      · exact I.nofs l1 q), d⟩
  · show (none :: blkVals fv σ).length = N'.length
    rw [S.len]
    unfold blkVals
    simp
end
end L2
namespace L2
open PySem PySem.Spec PyProof.Rows
theorem nox {α : Type} {t : Sem α} {Q Q' : α → Shared → Prop} {M : Model} {A : Around} {E : Value → Shared → Prop} {s : Shared} (h : wpAny M A t Q (fun _ _ => False) s) (hQ : ∀ a s, Q a s → Q' a s) : wpAny M A t Q' E s := wpAny_mono h hQ fun _ _ f => f.elim
set_option maxHeartbeats 1600000 in
theorem pe_lc {X : Cx} {elt iter : Expr} {x : Str} {px : Pos} {ifs : List Expr} {scope : Scope} {pos : Pos} {N' : List Str} {fv : List Nat} {wi : TI} {tt : TT} {te : TE}
    (S : BlkScope X.N X.env.scope scope x N' fv) (hc : X.calm = true) (hi : PI X (.Name x px) iter wi)
    (ht : ∀ C fp s H, PTs (X.blk N' scope C fp s H) ifs tt) (he : ∀ C fp s H, PE (X.blk N' scope C fp s H) elt te)
    (hs : ∀ x, foldedSetIterable iter X.env x = pure x := by intro _; rfl) :
    PE X (.ListComp elt [⟨.Name x px, iter, ifs, 0⟩] scope pos) (tLC wi fv tt te) := by
  intro pins s σ H Q I h
  rw [eval_ListComp]
  refine wpAny_comprehension_free (use := none) rfl hs (closureFor_free fun y hy hk => I.ok.has y.1 (S.free y hy hk)) S.kind S.names
    (wpAny_mono (hi pins s σ H _ I h) (fun xv s1 h1 => wpAny_mono h1 (fun itv s2 h2 => ?_) fun _ _ e => e) fun _ _ e => e)
  obtain ⟨it, fp, tn, J, H2, rfl, I2, T, st2, f2, W, n, w0, hn, turn⟩ := h2
  refine wpAny_newObj_type (wpAny_newFunctionEnv S.nocell (by intro y hy; simp at hy) (fun h1 hns hsb => ?_) S.kind)
  dsimp only at hns hsb ⊢
  generalize hH : s2.heap.push { cls := .type "list", dict := none, data := .seq ([] : List Value).toArray } = G at hns hsb ⊢
  have hG : G.objs.size = s2.heap.objs.size + 1 := by rw [← hH, Heap.size_push]
  have kpG : ∀ b o, s2.heap.get? b = some o → G.get? b = some o := fun b o e => hH ▸ Heap.get?_push_of_some _ e
  have kp1 : ∀ b o, b < G.objs.size → G.get? b = some o → h1.get? b = some o := fun b o lt e => hsb.extBut b o (Nat.ne_of_lt lt) (Heap.get?_push_of_some _ e)
  have kp : ∀ b o, s2.heap.get? b = some o → h1.get? b = some o := fun b o e => kp1 b o (by rw [hG]; exact Nat.lt_succ_of_lt (Heap.lt_size e)) (kpG b o e)
  have hD : h1.PlainList s2.heap.objs.size #[] := ⟨_, kp1 _ _ (by rw [hG]; exact Nat.lt_succ_self _) (hH ▸ Heap.get?_push_size _ rfl)⟩
  have hDC : s2.heap.objs.size ≠ G.objs.size := by rw [hG]; exact Nat.ne_of_lt (Nat.lt_succ_self _)
  have hC : s2.heap.objs.size ≤ G.objs.size := by rw [hG]; exact Nat.le_succ _
  have hfo : ∀ b ∈ fp, b < s2.heap.objs.size := fun b hb => by obtain ⟨o, e, _⟩ := T.obj 0 _ st2 b hb; exact Heap.lt_size e
  have stat : ∀ {H' : Hp} {pl : List (Addr × Obj)}, (∀ b ∈ fp, H' b = none) → (∀ p ∈ pl, p.1 ∉ fp) → ∀ b ∈ fp, FpOk (X.blk N' scope G.objs.size fp s2 H2) pl H' b := fun {H' pl} hn hpl b hb => by
    obtain ⟨_, g1, g2, g3, g4, g5⟩ := f2 b hb
    refine ⟨hn b hb, Nat.ne_of_lt (Nat.lt_of_lt_of_le (hfo b hb) hC), fun z => ?_, .inl hb, fun y c e => g4 y c (cloOf_lookup_sub e), fun p hp e => ?_⟩
    · rcases List.mem_cons.mp (I2.stkSub b z) with q | q
      · exact g1 q
      · exact g2 q
    · exact hpl p hp (e ▸ hb)
  have hDf : s2.heap.objs.size ∉ fp := fun z => absurd (hfo _ z) (Nat.lt_irrefl _)
  have hlc : (X.blk N' scope G.objs.size fp s2 H2).env.scope.names.lookup x = some .local := lookup_relabel_local S.loc
  have hcl : ∀ y c, (X.blk N' scope G.objs.size fp s2 H2).env.cells.lookup y = some c → c ≠ s2.heap.objs.size := fun y c e z => by
    obtain ⟨v, q⟩ := I2.cell y c (cloOf_lookup_sub e)
    exact absurd q.lt (by rw [z]; exact Nat.lt_irrefl _)
  have pin1 : ∀ {s' : Shared} {H' : Hp} {ob : Obj} {i : Nat} {ys : List V}, Inv (X.blk N' scope G.objs.size fp s2 H2) [] (none :: blkVals fv σ) H' s' → s'.heap.get? s2.heap.objs.size = some ob → (∀ v, ob.data ≠ .cell v) → H' s2.heap.objs.size = none →
      Inv (X.blk N' scope G.objs.size fp s2 H2) [(s2.heap.objs.size, ob)] (none :: blkVals fv σ) H' s' := fun {s' H' ob i ys} J1 e d f => J1.pins_of fun p hp => by
    have z : p = (s2.heap.objs.size, ob) := by simpa using hp
    subst z
    refine ⟨e, f, hDC, fun z => ?_, d⟩
    rcases List.mem_cons.mp (I2.stkSub _ z) with q | q
    · exact absurd I2.lt (by rw [← q]; exact Nat.lt_irrefl _)
    · exact I2.nofs (Nat.le_refl _) q
  have loop : ∀ s3 : Shared, s3 = { s2 with heap := h1, toks := s2.toks + ([] : List (Str × Value)).length } →
      codeAny (model X.prog X.w) X.A (.compLoop (.ListComp elt [⟨.Name x px, iter, ifs, 0⟩] scope pos) 0 (.ref it) (.ref s2.heap.objs.size) (X.blk N' scope G.objs.size fp s2 H2).env)
        (compPost (model X.prog X.w) X.A X.xe none (EP X pins σ Q) (.ref s2.heap.objs.size) G.objs.size) s3 := by
    rintro s3 rfl
    refine codeAny_compLoop_tests (fun k s' => ∃ i ys H' its, k = n + 1 - i ∧ i ≤ n ∧ ys.length ≤ i ∧ Vals ys its ∧ s'.heap.PlainList s2.heap.objs.size its.toArray ∧
      Inv (X.blk N' scope G.objs.size fp s2 H2) [] (none :: blkVals fv σ) H' s' ∧ H' s2.heap.objs.size = none ∧ tn i s'.heap ∧ (∀ b ∈ fp, H' b = none) ∧ W i ys H') ?_ (n + 1)
      ⟨0, [], H2, [], rfl, Nat.zero_le _, Nat.le_refl _, .nil, hD, blk_inv S I2 f2 hfo hC kp hns (fun p hp => nomatch hp), I2.hok.fresh (Nat.le_refl _), T.keep _ _ _ st2 fun b _ o e => kp b o e, fun b hb => (f2 b hb).1, w0⟩
    rintro k s4 ⟨i, ys, H4, its, rfl, hin, hyi, rv, pl4, I4, fD4, st4, ff4, w4⟩
    obtain ⟨cnt, eD⟩ := id pl4
    have I4p := pin1 (i := i) (ys := ys) I4 eD (fun v z => by cases z) fD4
    have np : ∀ p ∈ [(s2.heap.objs.size, ({ cls := .type "list", data := .seq its.toArray cnt } : Obj))], p.1 ∉ fp := fun p hp => by
      have z : p = (s2.heap.objs.size, ({ cls := .type "list", data := .seq its.toArray cnt } : Obj)) := by simpa using hp
      subst z; exact hDf
    rcases turn i ys H4 w4 with ⟨stop, fin⟩ | ⟨go, hi2, step⟩
    · refine wpAny_mono (T.done (X.blk N' scope G.objs.size fp s2 H2) rfl rfl rfl hc i _ s4 _ H4 _ I4p (stat ff4 np) st4 stop) (fun r s5 ⟨hr, I5⟩ => ?_) fun _ _ e => e
      subst hr
      obtain ⟨m5, hm5, _⟩ := I5.loc
      have eD5 : s5.heap.get? s2.heap.objs.size = some { cls := .type "list", data := .seq its.toArray cnt } := (I5.pin _ (List.mem_append_right _ List.mem_cons_self)).1
      refine ⟨m5, hm5, fun h' sb => ⟨.ref s2.heap.objs.size, upd H4 s2.heap.objs.size (.lst ys), ?_, rfl, fin _ fD4⟩⟩
      have ltC : ∀ {b : Addr} {o : Obj}, s2.heap.get? b = some o → b ≠ G.objs.size := fun {b o} e => Nat.ne_of_lt (Nat.lt_of_lt_of_le (Heap.lt_size e) hC)
      have fD2 : H2 s2.heap.objs.size = none := I2.hok.fresh (Nat.le_refl _)
      have ltD : ∀ {b : Addr} {o : Obj}, s2.heap.get? b = some o → b ≠ s2.heap.objs.size := fun {b o} e => Nat.ne_of_lt (Heap.lt_size e)
      have B := I5.base
      refine I2.call' (s' := { s5 with heap := h' }) (ch := fp) I5.os ⟨fun b o e nb hb hx => ?_, fun b o e nb hb hx => ?_, fun b o e nb hx => ?_, fun b o e hx => ?_, fun b xs e => ?_, fun b o u e => ?_, fun b ps e => ?_⟩ ?_ I5.bare fun b hb => ?_
      · exact sb.extBut b o (ltC e) (B.keep b o e nb hb hx)
      · obtain ⟨sl, q⟩ := B.slot b o e nb hb hx
        exact ⟨sl, sb.extBut b _ (ltC e) q⟩
      · rw [upd_ne (ltD e)]; exact B.free b o e nb hx
      · obtain ⟨o', q⟩ := B.there b o e hx
        exact ⟨o', sb.extBut b o' (ltC e) q⟩
      · have e' : H2 b = some (.tup xs) := e
        rw [upd_ne (ne_of_none e' fD2)]; exact B.tups b xs e
      · have e' : H2 b = some (.frz o u) := e
        rw [upd_ne (ne_of_none e' fD2)]; exact B.frzs b o u e
      · have e' : H2 b = some (.tbl ps) := e
        rw [upd_ne (ne_of_none e' fD2)]; exact B.tbls b ps e
      · intro b u e
        by_cases hb : b = s2.heap.objs.size
        · subst hb
          rw [upd_same] at e
          cases e
          exact ⟨Nat.le_trans hyi (Nat.le_trans hin hn), its, cnt, rv, sb.extBut _ _ hDC eD5⟩
        · rw [upd_ne hb] at e
          have fC : H4 G.objs.size = none := I5.free
          refine (I5.hok b u e).stay (fun c v hc' q => sb.extBut c v ?_ q) (fun c q => by rw [upd_ne (ne_of_none q fD4)]; exact q) fun c xs q => by rw [upd_ne (ne_of_none q fD4)]; exact q
          rcases hc' with z | z
          · subst z; exact ne_of_none e fC
          · exact ne_of_none z fC
      · obtain ⟨_, g1, g2, g3, g4, g5⟩ := f2 b hb
        exact ⟨g3, g1, g4, g5⟩
    · refine wpAny_mono (T.item (X.blk N' scope G.objs.size fp s2 H2) rfl rfl rfl hc i _ s4 _ H4 _ I4p (stat ff4 np) st4 go) (fun r s5 ⟨u, hr, h5⟩ => ?_) fun _ _ e => e
      subst hr
      show wpAny _ _ (letOwnedTupleGo (.Name x px) (.ref it) u >>= fun _ => assign (.Name x px) (X.blk N' scope G.objs.size fp s2 H2).env u) _ _ s5
      refine wpAny_bind (wpAny_mono h5 (fun _ s6 ⟨xv, H6, I6, r6, y6, st6, ff6⟩ => ?_) fun _ _ e => e)
      have I6' := I6.pinned (stat ff6 np) (T.obj _ _ st6)
      have out : ∀ {σ' : St} {H' : Hp} {s' : Shared}, Inv (X.blk N' scope G.objs.size fp s2 H2) ([(s2.heap.objs.size, ({ cls := .type "list", data := .seq its.toArray cnt } : Obj))] ++ pinsAt fp s6.heap) σ' H' s' →
          s'.heap.PlainList s2.heap.objs.size its.toArray ∧ H' s2.heap.objs.size = none ∧ (∀ b ∈ fp, H' b = none) ∧ (∀ b ∈ fp, ∀ o, s6.heap.get? b = some o → s'.heap.get? b = some o) := fun {σ' H' s'} J1 => by
        have q := J1.pin (s2.heap.objs.size, ({ cls := .type "list", data := .seq its.toArray cnt } : Obj)) (List.mem_append_right _ (List.mem_append_left _ List.mem_cons_self))
        refine ⟨⟨cnt, q.1⟩, q.2.1, fun b hb => ?_, fun b hb o e => (J1.pin (b, o) (List.mem_append_right _ (List.mem_append_right _ (mem_pinsAt hb e)))).1⟩
        obtain ⟨o, e, d⟩ := T.obj _ _ st6 b hb
        exact (J1.pin (b, o) (List.mem_append_right _ (List.mem_append_right _ (mem_pinsAt hb e)))).2.1
      refine nox ((pg_name (X := X.blk N' scope G.objs.size fp s2 H2) (i := 0) S.nd S.hd (.inl hlc) (.inr hlc)) _ s6 _ H6 xv u (fun σ' H' => σ' = some xv :: blkVals fv σ ∧ H' = H6) I6' r6 ⟨rfl, rfl⟩) fun _ s7 ⟨σ7, H7, I7, e7, e7'⟩ => ?_
      subst e7 e7'
      refine nox (ht _ _ _ _ _ s7 _ H7 _ I7 (step xv H7 y6)) fun ok s8 ⟨H8, I8, q8⟩ => ?_
      cases ok with
      | false =>
        obtain ⟨o1, o2, o3, o4⟩ := out I8
        exact ⟨n + 1 - (i + 1), by omega, i + 1, ys, H8, its, rfl, hi2, Nat.le_succ_of_le hyi, rv, o1, (I8.pins_of (pins' := []) fun p hp => nomatch hp).weak (σ' := none :: blkVals fv σ) rfl (fun j v e => by
          cases j with
          | zero => cases (show (none : Option V) = some v from Option.some.inj e)
          | succ j => exact e), o2, T.keep _ _ _ st6 o4, o3, q8⟩
      | true =>
        refine nox (he _ _ _ _ _ s8 _ H8 _ I8 q8) fun yv s9 ⟨y, H9, I9, r9, q9⟩ => ?_
        obtain ⟨o1, o2, o3, o4⟩ := out I9
        have hlen := rv.length
        refine wpAny_list_append_plain (hsz := by rw [List.size_toArray, ← hlen]; exact Nat.le_trans hyi (Nat.le_trans hin hn)) o1 fun h' pl' sb' => ?_
        have I9' : Inv (X.blk N' scope G.objs.size fp s2 H2) [] (some xv :: blkVals fv σ) H9 { s9 with heap := h' } :=
          (I9.pins_of (pins' := []) fun p hp => nomatch hp).turned (t' := s9.toks) (it := s2.heap.objs.size) (fun b o hb e => sb'.extBut b o hb e) o2 hDC (.inr (Nat.le_refl _)) hcl (fun p hp => nomatch hp)
        refine ⟨n + 1 - (i + 1), by omega, i + 1, ys ++ [y], H9, its ++ [yv], rfl, hi2, by rw [List.length_append]; exact Nat.succ_le_succ hyi, rv.append (.cons r9 .nil), ?_, I9'.weak (σ' := none :: blkVals fv σ) rfl (fun j v e => by
          cases j with
          | zero => cases (show (none : Option V) = some v from Option.some.inj e)
          | succ j => exact e), o2, T.keep _ _ _ st6 fun b hb o e => sb'.extBut b o (fun z => hDf (z ▸ hb)) (o4 b hb o e), o3, q9⟩
        have e9 : (its ++ [yv]).toArray = its.toArray.push yv := by simp
        rw [e9]
        exact pl'
  exact codeAny_compStart_list (loop _ rfl) (T.self _ 0 _ _ _ (T.keep _ _ _ st2 fun b _ o e => kp b o e) (loop _ rfl))
end L2
namespace L2
open PySem PySem.Spec PyProof.Rows
end L2
namespace L2
open PySem PySem.Spec PyProof.Rows
end L2
namespace L2
open PySem PySem.Spec PyProof.Rows
open Builtin Builtin.Str
section
variable {X : Cx}
theorem call_sum_ints (hc : X.calm = true) : CallR X (.builtin "sum") (fun xs H Q => ∃ (p : Addr) (ns : List Int), xs = [.ref p] ∧ SqL X.K H p (ns.map V.int) ∧ Q (.int ns.sum) H) := by
  intro pins s σ H xs us Q I r h
  obtain ⟨p, ns, rfl, hq, q⟩ := h
  obtain ⟨u, rfl, rx⟩ := vals1 r
  cases (show u = Value.ref p from rx)
  obtain ⟨its, rv, pl, hz⟩ := I.list hq
  have ia : IntsAre its ns := intsAre_of rv
  obtain ⟨zs, ez⟩ := ia.allInts.items
  have hl : s.heap.IsList p (intItems zs) := ez ▸ pl.isList
  refine sum_intListG (I.ok.hd hc) hl fun h' tk t' hk => ⟨.int ns.sum, H, I.kept hk, ⟨t', ?_⟩, q⟩
  have en : ns = zs.toList.map (·.1) := (show numsOf its.toArray.toList = ns from ia.numsOf).symm.trans (by rw [ez, nums_intItems])
  rw [preSum_eq, List.take_of_length_le (by simp), en]
end
end L2
namespace L2
open PySem PySem.Spec PyProof.Rows
section
variable {X : Cx}
end
end L2
namespace L2
open PySem PySem.Spec PyProof.Rows
section
variable {X : Cx}
end
end L2
namespace L2
open PySem PySem.Spec PyProof.Rows
section
variable {l : List Env} {H : Hp} {B h h' hc : Heap} {P : Program} {w : World}
end
section
variable {X : Cx} {E : XK} {pins : List (Addr × Obj)} {σ : St} {H H' : Hp} {s s' : Shared}
end
section
variable {P : Program} {w : World} {K : PySem.W.Frag} {mg : Str → Option Value} {base : Heap}
end
end L2
namespace L2
open PySem PySem.Spec PyProof.Rows
section
variable {X : Cx} {E : XK}
end
end L2
namespace L2
open PySem PySem.Spec PyProof.Rows
section
variable {X : Cx} {pins : List (Addr × Obj)} {σ : St} {H H1 : Hp} {s s1 : Shared} {ev : Value}
end
section
variable {X : Cx} {k : Nat} {f C : Addr} {fd : FuncData} {ps : List Str} {sp : Sp} {dvs : List V} {ds : List Value} {x : Str} {p pos : Pos} {e : Expr} {es : List Expr} {t : TA}
end
section
variable {X : Cx} {e : Expr} {t : TX} {C CB : Addr} {cx y : Str} {np hpos pos py apos : Pos} {b₀ : Stmt} {suite : List Stmt} {th : TS} {j : Nat}
end
end L2
namespace L2
open PySem PySem.Spec PyProof.Rows PySem.Builtin PySem.Builtin.ObjectAttr PySem.Builtin.Getset_descriptor
section
variable {prog : Program} {w : World} {A : Around} {E : Value → Shared → Prop} {s : Shared} {K : PySem.W.Frag} {x D : Addr} {ox : Obj}
end
end L2
namespace L2
open PySem PySem.Spec PyProof.Rows
section
variable {K : PySem.W.Frag} {x D : Addr}
end
section
variable {X : Cx}
end
section
variable {X : Cx} {pins : List (Addr × Obj)} {σ : St} {H H1 : Hp} {s s1 : Shared} {ev : Value}
end
section
variable {X : Cx} {e : Expr} {t : TX} {C CB : Addr} {cx n : Str} {np hpos pos epos : Pos} {b₀ : Stmt} {suite : List Stmt} {th : TS} {i : Nat}
end
end L2
namespace L2
open PySem PySem.Spec PyProof.Rows
section
variable {P : Program} {w : World} {K : PySem.W.Frag} {H : Hp} {h : Heap} {a b : Addr} {xs ys : List V}
theorem sqT_raw (hok : HOk P w H h) (kin : K.In h) (q : SqT K H a xs) : ∃ its : List Value, Vals xs its ∧ IsTup h a its.toArray ∧ xs.length ≤ sizeLine := by
  rcases q with q | ⟨o, its, n, hk, hc, hs, hz, r⟩
  · obtain ⟨z, its, r, p⟩ := q.ok hok
    exact ⟨its, r, p, z⟩
  · refine ⟨its.toList, r, ⟨o, kin a o hk, hc, n, by simpa using hs⟩, ?_⟩
    have e := r.length
    simp only [Array.length_toList] at e
    omega
end
def EqIs (K : PySem.W.Frag) (n : Nat) (H : Hp) (x y : V) (b : Bool) : Prop :=
  ∀ (P : Program) (w : World) (A : Around) (s : Shared) (u v : Value), A.units + n < cLine → HOk P w H s.heap → K.In s.heap → RelV x u → RelV y v → SeqAt.EqAt A s u v b
def RcIs (K : PySem.W.Frag) (n : Nat) (H : Hp) (x y : V) (b : Bool) : Prop :=
  ∀ (P : Program) (w : World) (A : Around) (s : Shared) (u v : Value), A.units + n < cLine → HOk P w H s.heap → K.In s.heap → RelV x u → RelV y v → SeqAt.RcAt A s u v b
def NeIs (K : PySem.W.Frag) (n : Nat) (H : Hp) (x y : V) (b : Bool) : Prop :=
  ∀ (P : Program) (w : World) (A : Around) (s : Shared) (u v : Value), A.units + n < cLine → HOk P w H s.heap → K.In s.heap → RelV x u → RelV y v → SeqAt.RcNeAt A s u v (!b)
section
variable {K : PySem.W.Frag} {H : Hp} {a b : Addr} {n m : Nat} {x y : V} {r : Bool}
theorem tupRc {us vs : List V} {e : Nat → Bool} (ha : SqT K H a us) (hb : SqT K H b vs) (hl : us.length = vs.length) (he : ∀ (j : Nat) x y, us[j]? = some x → vs[j]? = some y → EqIs K n H x y (e j)) :
    RcIs K (n + 1) H (.ref a) (.ref b) ((List.range us.length).all e) ∧ NeIs K (n + 1) H (.ref a) (.ref b) ((List.range us.length).all e) := by
  have main : ∀ (P : Program) (w : World) (A : Around) (s : Shared) (u v : Value), A.units + (n + 1) < cLine → HOk P w H s.heap → K.In s.heap → RelV (.ref a) u → RelV (.ref b) v →
      SeqAt.RcAt A s u v ((List.range us.length).all e) ∧ SeqAt.RcNeAt A s u v (!(List.range us.length).all e) := by
    intro P w A s u v hA hok kin r1 r2
    cases r1
    cases r2
    obtain ⟨i1, v1, p1, _⟩ := sqT_raw hok kin ha
    obtain ⟨i2, v2, p2, _⟩ := sqT_raw hok kin hb
    have l1 := v1.length
    have l2 := v2.length
    have items : ∀ j (h1 : j < i1.toArray.size) (h2 : j < i2.toArray.size), SeqAt.EqAt A.in1 s i1.toArray[j] i2.toArray[j] (e j) := fun j h1 h2 => by
      have h1' : j < i1.length := by simpa using h1
      have h2' : j < i2.length := by simpa using h2
      have e1 : us[j]? = some us[j] := List.getElem?_eq_getElem (by omega)
      have e2 : vs[j]? = some vs[j] := List.getElem?_eq_getElem (by omega)
      obtain ⟨u, eu, ru⟩ := v1.get e1
      obtain ⟨v, ev, rv⟩ := v2.get e2
      have q := he j _ _ e1 e2 P w A.in1 s u v (by show A.units + 1 + n < cLine; omega) hok kin ru rv
      have z1 : i1.toArray[j] = u := by
        rw [List.getElem?_eq_getElem h1'] at eu
        simpa using Option.some.inj eu
      have z2 : i2.toArray[j] = v := by
        rw [List.getElem?_eq_getElem h2'] at ev
        simpa using Option.some.inj ev
      rw [z1, z2]
      exact q
    have ez : ((List.range (min i1.toArray.size i2.toArray.size)).all e && i1.toArray.size == i2.toArray.size) = (List.range us.length).all e := by
      have s1 : i1.toArray.size = us.length := by simp [l1]
      have s2 : i2.toArray.size = us.length := by simp [← l2, hl]
      rw [s1, s2, Nat.min_self]
      simp
    constructor
    · have q := SeqAt.RcAt.tuples (A := A) (s := s) (e := e) p1 p2 (by omega) items
      rw [ez] at q
      exact q
    · have q := SeqAt.RcNeAt.tuples (A := A) (s := s) (e := e) p1 p2 (by omega) items
      rw [ez] at q
      exact q
  exact ⟨fun P w A s u v h1 h2 h3 h4 h5 => (main P w A s u v h1 h2 h3 h4 h5).1, fun P w A s u v h1 h2 h3 h4 h5 => (main P w A s u v h1 h2 h3 h4 h5).2⟩
theorem eqIs_ref (h : RcIs K n H (.ref a) (.ref b) r) (hs : ∀ (P : Program) (w : World) (h : Heap), HOk P w H h → K.In h → a = b → r = true) : EqIs K n H (.ref a) (.ref b) r := by
  intro P w A s u v hA hok kin r1 r2
  have q := h P w A s u v hA hok kin r1 r2
  cases r1
  cases r2
  by_cases e : a = b
  · rw [hs P w s.heap hok kin e, e]
    exact SeqAt.EqAt.same _
  · exact SeqAt.EqAt.of_refs e q
end
section
variable {α β γ : Type} [DecidableEq α] [DecidableEq β] [DecidableEq γ]
end
section
variable {α : Type} [DecidableEq α] {K : PySem.W.Frag} {H : Hp}
theorem _root_.PySem.Paired.get {β γ : Type} {R : β → γ → Prop} : ∀ {xs : List β} {us : List γ}, Paired R xs us → ∀ {j : Nat} {u : γ}, us[j]? = some u → ∃ x, xs[j]? = some x ∧ R x u
  | _, _, .nil, j, u, e => by simp at e
  | _, _, .cons r t, 0, u, e => by simp at e; subst e; exact ⟨_, rfl, r⟩
  | _, _, .cons r t, j + 1, u, e => PySem.Paired.get t (j := j) (by simpa using e)
theorem _root_.PySem.Paired.get1 {β γ : Type} {R : β → γ → Prop} : ∀ {xs : List β} {us : List γ}, Paired R xs us → ∀ {j : Nat} {x : β}, xs[j]? = some x → ∃ u, us[j]? = some u ∧ R x u
  | _, _, .nil, j, u, e => by simp at e
  | _, _, .cons r t, 0, u, e => by simp at e; subst e; exact ⟨_, rfl, r⟩
  | _, _, .cons r t, j + 1, u, e => PySem.Paired.get1 t (j := j) (by simpa using e)
theorem _root_.PySem.Paired.len {β γ : Type} {R : β → γ → Prop} : ∀ {xs : List β} {us : List γ}, Paired R xs us → xs.length = us.length
  | _, _, .nil => rfl
  | _, _, .cons r t => by simp [PySem.Paired.len t]
end
section
variable {X : Cx} {α : Type} [DecidableEq α]
theorem hun {c : Nat} {k : Nat} {A : Around} (hr : Room k A) (h : c ≤ 60 := by decide) : A.units + c + 1 < cLine := by
  have := hr.units
  omega
end
end L2
namespace L2
open PySem PySem.Spec PyProof.Rows
section
variable {prog : Program} {w : World} {A : Around} {R : Result → Shared → Prop} {s : Shared}
end
section
variable {X : Cx} {N' : List Str} {scope : Scope} {mm : Nat} {fv : List Nat}
end
end L2
namespace L2
open PySem PySem.Spec PyProof.Rows
section
variable {X : Cx}
end
section
variable {X : Cx} {α : Type} [DecidableEq α]
end
structure GF (P : Program) (w : World) (K : PySem.W.Frag) (mg : Str → Option Value) (base : Heap) (CX : CXT) (k : Nat) (x : Str) (ps : List Str) (sp : Sp) where
  f : Addr
  fd : FuncData
  ok : FnOk P w K mg base CX k f fd ps sp
  bd : Binds K fd ps []
  kp : PySem.W.keepIn K (.ref f) = true
  mgx : mg x = some (.ref f)
section
variable {X : Cx} {CX : CXT} {j k : Nat} {x m : Str} {ps : List Str} {sp : Sp} {E : XK} {p pos apos : Pos} {e o : Expr} {es : List Expr} {t : TA} {ta : TE} {C : Addr}
theorem pc (G : GF X.prog X.w X.K X.mg X.base CX j x ps sp) (hr : Room k X.A) (ha : PA X (e :: es) t) (hx : Passes CX X E := by exact pass0) (hk : j ≤ k := by decide) (hg : Gl X x := by rfl)
    (hdb : (x == ("__debug__" : Str)) = false := by decide) (he : starEach (e :: es) X.env = (false, eval e X.env) :: starEach es X.env := by rfl) (hpl : (backTo pos (starEach es X.env)).any (·.1) = false := by rfl) :
    PE X (.Call (.Name x p) (e :: es) [] pos) (tCall sp [] E t) := pe_call G.ok (hr.mono hk) hg G.mgx G.kp G.bd .nil hx ha hdb he hpl
end
end L2
set_option maxHeartbeats 1000000
namespace L2
open PySem PySem.Spec PyProof.Rows
section
variable {K : PySem.W.Frag} {a : Addr} {xs : List V} {tt : TT} {te : TE} {bl : St} {Fin : List V → Hp → Prop} {H : Hp}
theorem tAllT {σ : St} {A B : Hp → Prop} (h : A H) : tAll σ H (fun c H2 => if c = true then A H2 else B H2) := by
  show if true = true then A H else B H
  exact @iteT (A H) (B H) h
end
end L2
namespace Lo
open PySem L2
theorem same_new {H : Hp} {p : Addr} {o : HO} (h : H p = none) : Same H (upd H p o) := fun b u e => by
  rw [upd_ne (ne_of_none e h)]
  exact e
def Kp (p : Addr) (H H' : Hp) : Prop := ∀ b o, b ≠ p → H b = some o → H' b = some o
theorem Kp.of {p : Addr} {H H' : Hp} (h : Same H H') : Kp p H H' := fun b o _ e => h b o e
theorem kp_upd {p : Addr} {H : Hp} {o : HO} : Kp p H (upd H p o) := fun b u n e => by
  rw [upd_ne n]
  exact e
end Lo
set_option maxHeartbeats 1000000
namespace Lo
open PySem L2
structure TxB (mg : Str → Option Value) : Prop where
  isi : mg "isinstance" = none
  int : mg "int" = none
  bool : mg "bool" = none
  str : mg "str" = none
  len : mg "len" = none
  range : mg "range" = none
  tuple : mg "tuple" = none
  list : mg "list" = none
  any : mg "any" = none
  all : mg "all" = none
  max : mg "max" = none
  sorted : mg "sorted" = none
section
variable (C : Kd → Addr) (CL : Addr) (K : PySem.W.Frag)
end
def cellAt (ns : List Int) (k : Nat) : Int := (ns[k]?).getD 0
def spCell (K : PySem.W.Frag) : Sp := fun vs H Q _ => ∃ a ns k, vs = [.ref a, .int (k : Nat)] ∧ SqL K H a ((ns : List Int).map V.int) ∧ Q (.int (cellAt ns k)) H
end Lo
namespace Lo
open PySem L2
end Lo
namespace Lo
open PySem L2
section
variable {K : PySem.W.Frag}
theorem kit_ii : PySem.W.kitOne K (.type "int") (.type "int") = some true := rfl
theorem kit_tt : PySem.W.kitOne K (.type "tuple") (.type "tuple") = some true := rfl
theorem kit_ib : PySem.W.kitOne K (.type "int") (.type "bool") = some false := by kernel_rfl
end
def spWhole : Sp := fun vs H Q _ => ∃ i, vs = [.int i] ∧ Q (.bl true) H
end Lo
namespace Lo
open PySem L2
end Lo
set_option maxHeartbeats 1000000
namespace Lo
open PySem L2
section
variable {K : PySem.W.Frag} {a : Addr} {tt : TT} {te : TE} {bl : St} {Fin : List V → Hp → Prop} {H : Hp}
end
end Lo
namespace Lo
open PySem L2
end Lo
namespace Lo
open PySem L2
theorem cut_ints (ns : List Int) (lo hi : Option Int) : ∃ cs : List Int, cutV (ns.map V.int) lo hi = cs.map V.int ∧ cs.length ≤ ns.length := by
  refine ⟨(ns.drop (HT.sIx (ns.map V.int).length 0 lo)).take (HT.sIx (ns.map V.int).length (ns.map V.int).length hi - HT.sIx (ns.map V.int).length 0 lo), ?_, ?_⟩
  · unfold cutV
    rw [List.map_take, List.map_drop]
  · rw [List.length_take, List.length_drop]
    omega
end Lo
set_option maxHeartbeats 1000000
namespace Lo
open PySem L2
section
variable {X : Cx}
theorem call_isinstT : CallR X (.builtin "isinstance") (fun xs H Q => ∃ a ys, xs = [.ref a, .ty "tuple"] ∧ SqT X.K H a ys ∧ Q (.bl true) H) := by
  intro pins s σ H xs us Q I r h
  obtain ⟨a, ys, rfl, hq, q⟩ := h
  obtain ⟨u, w', rfl, r1, r2⟩ := vals2 r
  cases r1
  cases r2
  obtain ⟨its, rv, ⟨o, ho, hc, n, hd⟩, hz⟩ := I.tuple hq
  exact PySem.W.kia_one PySem.W.kitx_tuple I.kIn ⟨_, ho, hc⟩ (kit_tt (K := X.K)) (fun z => nomatch z) fun tk => ⟨.bl true, H, I.tok tk, rfl, q⟩
end
end Lo
set_option maxHeartbeats 1000000
namespace Lo
open PySem L2
section
variable {C : Kd → Addr} {CL : Addr} {K : PySem.W.Frag} {H H' : Hp} {l pl pl' d : Addr} {ps ps' : List Pr} {own : List (Addr × List V)} {xs ys : List V}
end
end Lo
set_option maxHeartbeats 1000000
namespace Lo
open PySem L2
section
variable {X : Cx}
end
end Lo
set_option maxHeartbeats 1000000
namespace Lo
open PySem L2
end Lo
set_option maxHeartbeats 1000000
namespace Lo
open PySem L2
section
variable {C : Kd → Addr} {CL : Addr} {K : PySem.W.Frag} {H H' : Hp} {l pl : Addr} {ps : List Pr} {own : List (Addr × List V)}
end
end Lo
set_option maxHeartbeats 1000000
namespace L2
open PySem PySem.Spec PyProof.Rows
section
variable {κ : Type} [DecidableEq κ]
def valV (kvs : List (κ × V)) (k : κ) : Option V := (kvs.find? fun kv => decide (kv.1 = k)).map (·.2)
def putK (kvs : List (κ × V)) (k : κ) (v : V) : List (κ × V) :=
  if (kvs.any fun kv => decide (kv.1 = k)) = true then kvs.map (fun kv => if kv.1 = k then (kv.1, v) else kv) else kvs ++ [(k, v)]
theorem valV_pos {p : κ × V} {r : List (κ × V)} {k : κ} (e : p.1 = k) : valV (p :: r) k = some p.2 := by simp [valV, List.find?_cons, e]
theorem valV_neg {p : κ × V} {r : List (κ × V)} {k : κ} (e : ¬ p.1 = k) : valV (p :: r) k = valV r k := by simp [valV, List.find?_cons, e]
theorem valV_any (k : κ) : ∀ kvs : List (κ × V), (kvs.any fun kv => decide (kv.1 = k)) = (valV kvs k).isSome
  | [] => rfl
  | p :: r => by
    rw [List.any_cons]
    by_cases e : p.1 = k
    · simp only [valV_pos e, decide_eq_true e, Bool.true_or, Option.isSome_some]
    · rw [valV_neg e, decide_eq_false e, Bool.false_or]; exact valV_any k r
theorem length_putK (kvs : List (κ × V)) (k : κ) (v : V) : (putK kvs k v).length ≤ kvs.length + 1 := by
  unfold putK
  split
  · rw [List.length_map]; omega
  · rw [List.length_append, List.length_cons, List.length_nil]; omega
theorem RelO.isSome_eq {o : Option V} {u : Option Value} (r : RelO o u) : o.isSome = u.isSome := by
  cases o with
  | none => cases u with
    | none => rfl
    | some _ => exact (show False from r).elim
  | some _ => cases u with
    | none => exact (show False from r).elim
    | some _ => rfl
theorem RelO.getD {o : Option V} {u : Option Value} {d : V} {d' : Value} (r : RelO o u) (rd : RelV d d') : RelV (o.getD d) (u.getD d') := by
  cases o with
  | none => cases u with
    | none => exact rd
    | some _ => exact (show False from r).elim
  | some _ => cases u with
    | none => exact (show False from r).elim
    | some _ => exact r
theorem KV.val {kvs : List (κ × V)} {vs : List (κ × Value)} (r : KV kvs vs) (k : κ) : RelO (valV kvs k) (valueAt vs k) := by
  unfold KV at r
  induction r with
  | nil => exact True.intro
  | @cons p q ps qs h t ih =>
    obtain ⟨h1, h2⟩ := h
    by_cases e : p.1 = k
    · have e' : q.1 = k := h1.symm.trans e
      have b : valueAt (q :: qs) k = some q.2 := by simp [valueAt, List.find?_cons, e']
      rw [valV_pos e, b]; exact h2
    · have e' : ¬ q.1 = k := fun z => e (h1.trans z)
      have b : valueAt (q :: qs) k = valueAt qs k := by simp [valueAt, List.find?_cons, e']
      rw [valV_neg e, b]; exact ih
theorem KV.any {kvs : List (κ × V)} {vs : List (κ × Value)} (r : KV kvs vs) (k : κ) : (kvs.any fun kv => decide (kv.1 = k)) = vs.any fun kv => decide (kv.1 = k) := by
  unfold KV at r
  induction r with
  | nil => rfl
  | cons h t ih => rw [List.any_cons, List.any_cons, ih, h.1]
theorem KV.repl {kvs : List (κ × V)} {vs : List (κ × Value)} (r : KV kvs vs) (k : κ) {y : V} {u : Value} (ry : RelV y u) :
    KV (kvs.map fun kv => if kv.1 = k then (kv.1, y) else kv) (vs.map fun kv => if kv.1 = k then (kv.1, u) else kv) := by
  unfold KV at r ⊢
  induction r with
  | nil => exact .nil
  | @cons p q ps qs h t ih =>
    rw [List.map_cons, List.map_cons]
    refine .cons ?_ ih
    obtain ⟨h1, h2⟩ := h
    by_cases e : p.1 = k
    · rw [if_pos e, if_pos (h1.symm.trans e)]; exact ⟨h1, ry⟩
    · rw [if_neg e, if_neg (fun z => e (h1.trans z))]; exact ⟨h1, h2⟩
theorem KV.put {kvs : List (κ × V)} {vs : List (κ × Value)} (r : KV kvs vs) (k : κ) {y : V} {u : Value} (ry : RelV y u) : KV (putK kvs k y) (stored vs k u) := by
  unfold putK stored
  rw [r.any k]
  by_cases e : (vs.any fun kv => decide (kv.1 = k)) = true
  · rw [if_pos e, if_pos e]; exact r.repl k ry
  · rw [if_neg e, if_neg e]; exact Paired.snoc r ⟨rfl, ry⟩
theorem KV.length {kvs : List (κ × V)} {vs : List (κ × Value)} (r : KV kvs vs) : kvs.length = vs.length := Paired.length r
end
theorem kV_is {P : Program} {w : World} {k : Key} {u : Value} (r : RelV (kV k) u) : (mixKind P w).is k u = true := by
  cases k with
  | inl i => obtain ⟨t, e⟩ := (show ∃ t, u = Value.int i t from r); subst e; exact mixKind_int P w i t
  | inr x => obtain ⟨t, e⟩ := (show ∃ t, u = Value.str x t from r); subst e; exact mixKind_str P w x t
theorem items_are {P : Program} {w : World} : ∀ {ks : List Key} {us : List Value}, Vals (ks.map kV) us → ItemsAre (mixKind P w) ks us
  | [], _, r => by rw [List.map_nil] at r; cases r; exact .nil
  | k :: ks, _, r => by
    rw [List.map_cons] at r
    cases r with
    | cons h t => exact .cons (kV_is h) (items_are t)
abbrev KT (H : Hp) : List (List Key × V) → List (List Key × Addr × Value) → Prop := Paired fun p q => p.1 = q.1 ∧ H q.2.1 = some (.tup (p.1.map kV)) ∧ RelV p.2 q.2.2
theorem KT.val {H : Hp} {kvs : List (List Key × V)} {xs : List (List Key × Addr × Value)} (r : KT H kvs xs) (k : List Key) : RelO (valV kvs k) ((atKey xs k).map (·.2)) := by
  induction r with
  | nil => exact True.intro
  | @cons p q ps qs h t ih =>
    obtain ⟨h1, _, h2⟩ := h
    by_cases e : p.1 = k
    · have e' : q.1 = k := h1.symm.trans e
      have b : atKey (q :: qs) k = some q.2 := by simp [atKey, List.find?_cons, e']
      rw [valV_pos e, b]; exact h2
    · have e' : ¬ q.1 = k := fun z => e (h1.trans z)
      have b : atKey (q :: qs) k = atKey qs k := by simp [atKey, List.find?_cons, e']
      rw [valV_neg e, b]; exact ih
theorem KT.repl {H : Hp} {kvs : List (List Key × V)} {xs : List (List Key × Addr × Value)} (r : KT H kvs xs) (k : List Key) {y : V} {u : Value} (ry : RelV y u) :
    KT H (kvs.map fun kv => if kv.1 = k then (kv.1, y) else kv) (xs.map (putAt k u)) := by
  induction r with
  | nil => exact .nil
  | @cons p q ps qs h t ih =>
    rw [List.map_cons, List.map_cons]
    refine .cons ?_ ih
    obtain ⟨h1, h2, h3⟩ := h
    unfold putAt
    by_cases e : p.1 = k
    · rw [if_pos e, if_pos (h1.symm.trans e)]; exact ⟨h1, h2, ry⟩
    · rw [if_neg e, if_neg (fun z => e (h1.trans z))]; exact ⟨h1, h2, h3⟩
theorem KT.put {H : Hp} {kvs : List (List Key × V)} {xs : List (List Key × Addr × Value)} (r : KT H kvs xs) (k : List Key) {b : Addr} {y : V} {u : Value} (hb : H b = some (.tup (k.map kV))) (ry : RelV y u) :
    KT H (putK kvs k y) (storedH xs k b u) := by
  have e : (kvs.any fun kv => decide (kv.1 = k)) = (atKey xs k).isSome := by
    rw [valV_any, (r.val k).isSome_eq, Option.isSome_map]
  unfold putK storedH
  rw [e]
  by_cases q : (atKey xs k).isSome = true
  · rw [if_pos q, if_pos q]; exact r.repl k ry
  · rw [if_neg q, if_neg q]; exact Paired.snoc r ⟨rfl, hb, ry⟩
theorem KT.keeps {H H' : Hp} {kvs : List (List Key × V)} {xs : List (List Key × Addr × Value)} (r : KT H kvs xs) (ht : ∀ b ys, H b = some (.tup ys) → H' b = some (.tup ys)) : KT H' kvs xs :=
  Paired.mapP r fun _ _ z => ⟨z.1, ht _ _ z.2.1, z.2.2⟩
section
variable {P : Program} {w : World} {H : Hp} {h : Heap} {a : Addr}
theorem rd_of {u : HO} (ok : HOk P w H h) (e : Rd H a u) : ObjOk P w H h a u := e.ok ok
theorem dk_rd {kvs : List (Key × V)} (ok : HOk P w H h) (e : Rd H a (.dK kvs)) : kvs.length ≤ sizeLine ∧ (a == sysModules) = false ∧ ∃ vs, KV kvs vs ∧ h.DictOf (mixKind P w) a vs :=
  show ObjOk P w H h a (.dK kvs) from rd_of ok e
theorem dk_of {kvs : List (Key × V)} (ok : HOk P w H h) (e : H a = some (.dK kvs)) : kvs.length ≤ sizeLine ∧ (a == sysModules) = false ∧ ∃ vs, KV kvs vs ∧ h.DictOf (mixKind P w) a vs := dk_rd ok (.inl e)
theorem key_of {ks : List Key} (ok : HOk P w H h) (e : H a = some (.tup (ks.map kV))) : (tupleKind (mixKind P w)).is h ks a := by
  obtain ⟨_, its, r, o, h1, h2, n, h3⟩ := (show ObjOk P w H h a (.tup (ks.map kV)) from ok a _ e)
  exact ⟨o, its.toArray, n, h1, h2, h3, by simpa using items_are r⟩
theorem dt_rd {kvs : List (List Key × V)} (ok : HOk P w H h) (e : Rd H a (.dT kvs)) : kvs.length ≤ sizeLine ∧ (a == sysModules) = false ∧
    ∃ xs, KT H kvs xs ∧ h.DictOfH (tupleKind (mixKind P w)) a xs := by
  obtain ⟨z, y, xs, r, o, es, ep, h1, h2, h3, h4, h5⟩ := (show ObjOk P w H h a (.dT kvs) from rd_of ok e)
  refine ⟨z, y, xs, r, o, es, ep, h1, h2, h3, h4, fun x hx => ?_, h5⟩
  have all : ∀ {l : List (List Key × V)} {m : List (List Key × Addr × Value)}, KT H l m → ∀ x ∈ m, (tupleKind (mixKind P w)).is h x.1 x.2.1 := by
    intro l m q
    induction q with
    | nil => intro x hx; exact nomatch hx
    | @cons p q ps qs hq t ih =>
      intro x hx
      rcases List.mem_cons.mp hx with e | hx
      · subst e
        exact key_of ok (by rw [← hq.1]; exact hq.2.1)
      · exact ih x hx
  exact all r x hx
theorem dt_of {kvs : List (List Key × V)} (ok : HOk P w H h) (e : H a = some (.dT kvs)) : kvs.length ≤ sizeLine ∧ (a == sysModules) = false ∧
    ∃ xs, KT H kvs xs ∧ h.DictOfH (tupleKind (mixKind P w)) a xs := dt_rd ok (.inl e)
end
def DGet (H : Hp) (a : Addr) (y : V) (r : Option V) : Prop :=
  (∃ kvs k, Rd H a (.dK kvs) ∧ y = kV k ∧ r = valV kvs k) ∨ ∃ kvs k b, Rd H a (.dT kvs) ∧ y = .ref b ∧ H b = some (.tup (k.map kV)) ∧ r = valV kvs k
def DPut (H : Hp) (a : Addr) (y v : V) (H' : Hp) : Prop :=
  (∃ kvs k, H a = some (.dK kvs) ∧ y = kV k ∧ kvs.length < sizeLine ∧ H' = upd H a (.dK (putK kvs k v))) ∨
  ∃ kvs k b, H a = some (.dT kvs) ∧ y = .ref b ∧ H b = some (.tup (k.map kV)) ∧ kvs.length < sizeLine ∧ H' = upd H a (.dT (putK kvs k v))
theorem DGet.k {H : Hp} {a : Addr} {kvs : List (Key × V)} {k : Key} (e : H a = some (.dK kvs)) : DGet H a (kV k) (valV kvs k) := .inl ⟨kvs, k, .inl e, rfl, rfl⟩
theorem DPut.k {H : Hp} {a : Addr} {kvs : List (Key × V)} {k : Key} {v : V} (e : H a = some (.dK kvs)) (hl : kvs.length < sizeLine) : DPut H a (kV k) v (upd H a (.dK (putK kvs k v))) := .inl ⟨kvs, k, e, rfl, hl, rfl⟩
section
variable {X : Cx} {pins : List (Addr × Obj)} {σ : St} {H : Hp} {s : Shared} {a : Addr} {y v : V} {u r : Value} {o : Option V} {A : Around} {E : Value → Shared → Prop}
theorem Inv.big (I : Inv X pins σ H s) : sysModules < s.heap.objs.size := by
  have h : mainGlobals < s.heap.objs.size := (I.mod.glob.keeps I.bk).lt
  exact Nat.lt_trans (by decide) h
theorem d_getItem {Q : Value → Shared → Prop} (hu : A.units + 1 < cLine) (I : Inv X pins σ H s) (g : DGet H a y (some v)) (ry : RelV y u) (h : ∀ w' s', Inv X pins σ H s' → RelV v w' → Q w' s') :
    wpAny (model X.prog X.w) A (getItem (.ref a) u) Q E s := by
  rcases g with ⟨kvs, k, e, ey, l⟩ | ⟨kvs, k, b, e, ey, eb, l⟩
  · subst ey
    obtain ⟨z, hd, vs, rel, dd⟩ := dk_rd I.hok e
    obtain ⟨w', hw, rw'⟩ := RelO.some_of (v := v) (o := valueAt vs k) (by rw [l]; exact rel.val k)
    exact wpAny_getItem_of (kV_is ry) dd.mapOf hw (h w' _ (I.tok _) rw')
  · subst ey
    cases (show u = Value.ref b from ry)
    obtain ⟨z, hd, xs, rel, dd⟩ := dt_rd I.hok e
    obtain ⟨w', hw, rw'⟩ := RelO.some_of (v := v) (o := (atKey xs k).map (·.2)) (by rw [l]; exact rel.val k)
    obtain ⟨p, hp, hp2⟩ := Option.map_eq_some_iff.mp hw
    refine wpAny_getItem_heap (tupleKind_room_in1 hu) (key_of I.hok eb) dd hp ?_
    rw [hp2]
    exact h w' _ (I.tok _) rw'
theorem d_write {h' : Heap} {t' : Nat} {ob : HO} (I : Inv X pins σ H s) (mu : Mut (H a)) (hs : Heap.SameBut a s.heap h') (he : ∃ q, h'.get? a = some q) (new : ObjOk X.prog X.w (upd H a ob) h' a ob) :
    Inv X pins σ (upd H a ob) { s with heap := h', toks := t' } :=
  I.write (x := a) (e := a) mu (.inl rfl) (fun b q hb z => (hs.2 b hb).trans z) he new
theorem dk_new {P : Program} {w : World} {H' : Hp} {h' : Heap} {kvs : List (Key × V)} {vs : List (Key × Value)} (z : kvs.length ≤ sizeLine) (hd : (a == sysModules) = false) (rel : KV kvs vs) (dd : h'.DictOf (mixKind P w) a vs) :
    ObjOk P w H' h' a (.dK kvs) := ⟨z, hd, vs, rel, dd⟩
theorem d_setItem {H' : Hp} {Q : Unit → Shared → Prop} (hu : A.units + 1 < cLine) (I : Inv X pins σ H s) (g : DPut H a y v H') (ry : RelV y u) (rv : RelV v r) (h : ∀ s', Inv X pins σ H' s' → Q () s') :
    wpAny (model X.prog X.w) A (setItem (.ref a) u r) Q E s := by
  rcases g with ⟨kvs, k, e, ey, l, eH⟩ | ⟨kvs, k, b, e, ey, eb, l, eH⟩
  · subst ey eH
    obtain ⟨z, hd, vs, rel, dd⟩ := dk_of I.hok e
    have hz : vs.length ≤ sizeLine := by rw [← rel.length]; exact z
    have hl : (putK kvs k v).length ≤ sizeLine := by have := length_putK kvs k v; omega
    refine wpAny_setItem_pairs (hsz := hz) (kV_is ry) dd fun h' dd' hs => h _ ?_
    have he : ∃ q, h'.get? a = some q := let ⟨q, _, _, hq, _⟩ := dd'; ⟨q, hq⟩
    exact d_write I (by rw [e]; exact True.intro) hs he (dk_new hl hd (rel.put k rv) dd')
  · subst ey eH
    cases (show u = Value.ref b from ry)
    obtain ⟨z, hd, xs, rel, dd⟩ := dt_of I.hok e
    have hz : xs.length ≤ sizeLine := by rw [← Paired.length rel]; exact z
    have hl : (putK kvs k v).length ≤ sizeLine := by have := length_putK kvs k v; omega
    refine wpAny_setItem_heap (hsz := hz) (tupleKind_room_in1 hu) (key_of I.hok eb) dd fun h' dd' hs => h _ ?_
    obtain ⟨q, es, ep, hq, h2, h3, h4, _, h5⟩ := dd'
    refine d_write I (by rw [e]; exact True.intro) hs ⟨q, hq⟩ ⟨hl, hd, _, (rel.put k eb rv).keeps fun c ys ec => ?_, q, es, ep, hq, h2, h3, h4, h5⟩
    rw [upd_ne (ne_of ec e (fun z => nomatch z))]
    exact ec
end
section
variable {X : Cx} {pins : List (Addr × Obj)} {σ : St} {H : Hp} {s : Shared} {a : Addr} {kvs : List (Key × V)} {k : Key} {u : Value} {A : Around} {E : Value → Shared → Prop}
end
def NoSl (i : Expr) : Prop := ∀ ov iv, subscripted i false ov iv = operate [ov, iv] (getItem ov iv)
theorem subD_of {prog : Program} {w : World} {A : Around} {E : Value → Shared → Prop} {s : Shared} {env : Env} {value slice : Expr} {pos : Pos} {T id : String} {Q : Value → Shared → Prop}
    (hl : typeLookup (.type T) "__getitem__" = pure (some (.builtin id))) (hs : NoSl slice)
    (h : wpAny (model prog w) A (eval value env) (fun o s₁ => wpAny (model prog w) A (eval slice env) (fun i s₂ => s₂.TypeIs o T ∧ wpAny (model prog w) A (getItem o i) Q E s₂) E s₁) E s) :
    wpAny (model prog w) A (eval (.Subscript value slice pos) env) Q E s := by
  refine Subscript_ (wpAny_mono h (fun o s₁ h₁ => wpAny_mono h₁ (fun i s₂ h₂ => ?_) fun _ _ x => x) fun _ _ x => x)
  obtain ⟨hT, h₂⟩ := h₂
  unfold subscriptTail
  refine wpAny_bind ?_
  rw [getitemInPython_of_ne hT.not_modules]
  refine wpAny_bind (wpAny_specialOf hT hl ?_)
  have fin : wpAny (model prog w) A (subscripted slice false o i) (fun r s₃ => wpAny (model prog w) A (letTemporaryGo value o r >>= fun _ => pure r) Q E s₃) E s₂ := by
    rw [hs o i]
    exact wpAny_operating (wpAny_mono h₂ (fun r s₃ h₃ => wpAny_bind (wpAny_letTemporaryGo (wpAny_pure h₃))) fun _ _ x => x)
  first
    | exact wpAny_pure (wpAny_bind fin)
    | exact wpAny_bind (wpAny_pure (wpAny_bind fin))
    | exact wpAny_bind fin
theorem dict_typeIs {X : Cx} {pins : List (Addr × Obj)} {σ : St} {H : Hp} {s : Shared} {a : Addr} {y : V} {o : Option V} (I : Inv X pins σ H s) (g : DGet H a y o) : s.TypeIs (.ref a) "dict" := by
  rcases g with ⟨kvs, k, e, _, _⟩ | ⟨kvs, k, b, e, _, _, _⟩
  · obtain ⟨_, _, vs, _, dd⟩ := dk_rd I.hok e
    exact dd.typeIs
  · obtain ⟨_, _, xs, _, dd⟩ := dt_rd I.hok e
    exact dd.typeIs
def tDGet (td ty : TE) : TE := fun σ H Q => td σ H fun x H1 => ty σ H1 fun y H2 => ∃ a v, x = .ref a ∧ DGet H2 a y (some v) ∧ Q v H2
def sDPut (td ty tv : TE) : TS := fun D σ H => tv σ H fun v H1 => td σ H1 fun x H2 => ty σ H2 fun y H3 => ∃ a H4, x = .ref a ∧ DPut H3 a y v H4 ∧ D.nx σ H4
section
variable {X : Cx} {o i e value : Expr} {pos pos' tpos : Pos} {td ty tv : TE}
theorem pe_dget (hu : X.A.units + 1 < cLine) (ho : PE X o td) (hi : PE X i ty) (hs : NoSl i) : PE X (.Subscript o i pos) (tDGet td ty) := by
  intro pins s σ H Q I h
  refine subD_of PySem.F.slot_dict_getitem.lookup hs (thn (ho pins s σ H _ I h) fun u s1 ⟨x, H1, I1, rx, q1⟩ => thn (hi pins s1 σ H1 _ I1 q1) fun iv s2 ⟨y, H2, I2, ry, a, v, ex, g, q2⟩ => ?_)
  subst ex
  obtain rfl : u = Value.ref a := rx
  exact ⟨dict_typeIs I2 g, d_getItem hu I2 g ry fun w' s3 I3 rw' => ⟨v, H2, I3, rw', q2⟩⟩
theorem ps_dput (hu : X.A.units + 1 < cLine) (ho : PE X o td) (hi : PE X i ty) (hv : PE X value tv) (hs : swapsWith value (some (.Subscript o i pos')) pos.line X.env = pure false) :
    PS X (.Assign [.Subscript o i pos'] value pos) (sDPut td ty tv) := by
  intro pins s σ H D I h
  refine wpAny_Assign_Subscript (thn (hv pins s σ H _ I h) fun r s1 ⟨v, H1, I1, rv, q1⟩ => thn (ho pins s1 σ H1 _ I1 q1) fun u s2 ⟨x, H2, I2, rx, q2⟩ => thn (hi pins s2 σ H2 _ I2 q2) fun iv s3 ⟨y, H3, I3, ry, a, H4, ex, g, q3⟩ => ?_) hs
  subst ex
  obtain rfl : u = Value.ref a := rx
  exact d_setItem hu I3 g ry rv fun s4 I4 => ⟨σ, H4, I4, q3⟩
end
theorem dk_empty {P : Program} {w : World} {H : Hp} (h : Heap) (hb : sysModules < h.objs.size) : ObjOk P w H (h.push { cls := .type "dict", data := .dict #[] }) h.objs.size (.dK []) :=
  ⟨Nat.zero_le _, beq_eq_false_iff_ne.mpr (Ne.symm (Nat.ne_of_lt hb)), [], .nil, Heap.DictOf.new h⟩
def tDNewK : TE := fun _ H Q => ∀ p, H p = none → Q (.ref p) (upd H p (.dK []))
section
variable {X : Cx} {pos : Pos}
theorem pe_dnewK : PE X (.Dict [] [] pos) tDNewK := fun pins s σ H Q I h =>
  wpAny_Dict_empty ⟨.ref s.heap.objs.size, _, I.laid (a := s.heap.objs.size) (o := .dK []) (t' := s.toks) (fun _ _ q => Heap.get?_push_of_some _ q) (Nat.le_refl _) (dk_empty s.heap I.big), rfl, h _ (I.hok.fresh (Nat.le_refl _))⟩
end
structure M2 (X : Cx) (o : Expr) (m : Str) (apos : Pos) (e f : Expr) (cpos : Pos) : Prop where
  base : attributeBase o m X.env (eval o X.env) = eval o X.env
  few : ((backTo cpos (starEach [e, f] X.env)).all (fun x => !x.1) && (backToKw cpos (keywordEach [] X.env)).all (fun x => x.1.isSome)
    && decide (([e, f] : List Expr).length + ([] : List Keyword).length + (if ([] : List Keyword).isEmpty then 0 else 1) < 30)) = true
  line : (apos.endLine == cpos.line) = true
  trees : backTo cpos (starEach [e, f] X.env) = [(false, eval e X.env), (false, eval f X.env)]
def IsD (H : Hp) (a : Addr) : Prop := (∃ kvs, Rd H a (.dK kvs)) ∨ ∃ kvs, Rd H a (.dT kvs)
theorem isD_at {X : Cx} {pins : List (Addr × Obj)} {σ : St} {H : Hp} {s : Shared} {a : Addr} (I : Inv X pins σ H s) (d : IsD H a) :
    s.TypeIs (.ref a) "dict" ∧ (∀ b, Value.ref a = .ref b → ∃ ob, s.heap.get? b = some ob ∧ ob.dict = none) ∧ (a == sysModules) = false := by
  rcases d with ⟨kvs, e⟩ | ⟨kvs, e⟩
  · obtain ⟨_, hd, vs, _, dd⟩ := dk_rd I.hok e
    refine ⟨dd.typeIs, fun b q => ?_, hd⟩
    cases q
    obtain ⟨ob, _, _, h1, h2, _⟩ := dd
    exact ⟨ob, h1, h2.2.1⟩
  · obtain ⟨_, hd, xs, _, dd⟩ := dt_rd I.hok e
    refine ⟨dd.typeIs, fun b q => ?_, hd⟩
    cases q
    obtain ⟨ob, _, _, h1, h2, _⟩ := dd
    exact ⟨ob, h1, h2.2.1⟩
section
variable {X : Cx} {pins : List (Addr × Obj)} {σ : St} {H : Hp} {s : Shared} {a : Addr} {y d : V} {u r : Value} {o : Option V} {A : Around} {E : Value → Shared → Prop}
theorem d_get2 {Q : Value → Shared → Prop} (hu : A.units + 1 < cLine) (I : Inv X pins σ H s) (g : DGet H a y o) (ry : RelV y u) (rd : RelV d r) (h : ∀ w' s', Inv X pins σ H s' → RelV (o.getD d) w' → Q w' s') :
    wpAny (model X.prog X.w) A (call (.builtin "dict.get") [.ref a, u, r]) Q E s := by
  rcases g with ⟨kvs, k, e, ey, l⟩ | ⟨kvs, k, b, e, ey, eb, l⟩
  · subst ey
    obtain ⟨z, hd, vs, rel, dd⟩ := dk_rd I.hok e
    refine call_meetsIn PySem.F.slot_dict_get dd.typeIs PySem.F.entry_dict_get (PySem.F.args_dict_get_3 _ _ _) (meets_dict_get_default (mixKind X.prog X.w) a (kV_is ry) hd r) ⟨_, dd.mapOf, h _ _ (I.tok _) ?_⟩
    rw [l]
    exact (rel.val k).getD rd
  · subst ey
    cases (show u = Value.ref b from ry)
    obtain ⟨z, hd, xs, rel, dd⟩ := dt_rd I.hok e
    refine call_meetsIn PySem.F.slot_dict_get dd.typeIs PySem.F.entry_dict_get (PySem.F.args_dict_get_3 _ _ _) (meetsH_dict_get_default (tupleKind (mixKind X.prog X.w)) a b hd r) ⟨tupleKind_room_in1 hu, k, xs, key_of I.hok eb, dd, h _ _ (I.tok _) ?_⟩
    rw [l]
    exact (rel.val k).getD rd
end
def tDGet2 (td ty tx : TE) : TE := fun σ H Q => td σ H fun x H1 => ∃ a, x = .ref a ∧ IsD H1 a ∧ ty σ H1 fun y H2 => tx σ H2 fun z H3 => ∃ o, DGet H3 a y o ∧ Q (o.getD z) H3
section
variable {X : Cx} {o e f : Expr} {apos cpos : Pos} {td ty tx : TE}
theorem pe_dget2 (hu : X.A.units + 1 < cLine) (ho : PE X o td) (he : PE X e ty) (hf : PE X f tx) (m : M2 X o "get" apos e f cpos) : PE X (.Call (.Attribute o "get" apos) [e, f] [] cpos) (tDGet2 td ty tx) := by
  intro pins s σ H Q I h
  refine wpAny_Call_method m.base m.few m.line PySem.F.plainAttrs_dict PySem.F.slot_dict_get PySem.F.type_dict_get (thn (ho pins s σ H _ I h) fun u s1 ⟨x, H1, I1, rx, a, ex, d, q1⟩ => ?_)
  subst ex
  obtain rfl : u = Value.ref a := rx
  obtain ⟨t1, t2, _⟩ := isD_at I1 d
  refine ⟨t1, t2, ?_⟩
  rw [m.trees]
  refine Calls.callWith_builtin rfl (Calls.evalArgs_plain (Calls.spliced_cons (thn (he pins s1 σ H1 _ I1 q1) fun iv s2 ⟨y, H2, I2, ry, q2⟩ =>
    Calls.spliced_cons (thn (hf pins s2 σ H2 _ I2 q2) fun fv s3 ⟨z, H3, I3, rz, ov, g, q3⟩ => Calls.spliced_nil ?_))))
  exact d_get2 hu I3 g ry rz fun w' s4 I4 rw' => ⟨_, H3, I4, rw', q3⟩
end
end L2
set_option maxHeartbeats 1000000
namespace Lo
open PySem L2
section
variable {C : Kd → Addr} {CL : Addr} {K : PySem.W.Frag} {H H' : Hp}
variable {l0 pl0 q0 l1 pl1 q1 : Addr} {ps0 ps1 : List Pr} {us0 us1 : List V} {own : List (Addr × List V)}
end
section
variable {X : Cx}
end
end Lo
set_option maxHeartbeats 1000000
namespace L2
open PySem PySem.Spec PyProof.Rows PySem.W Lo
def BB (mg : Str → Option Value) (h : Heap) : Prop := ∃ bm ob, mg "__builtins__" = some (.ref bm) ∧ bm ≠ builtinsNs ∧ h.get? bm = some ob ∧ ob.cls = .type "module" ∧ ob.dict = some builtinsNs ∧ ob.data = .plain
def noT : HO → Prop
  | .tbl _ => False
  | _ => True
def SameX (H H' : Hp) : Prop := ∀ b o, noT o → H b = some o → H' b = some o
end L2
set_option maxHeartbeats 1000000
namespace HT
open PySem PyProof.Rows
section
open PySem.SeqAt
open PySem.AutoSeq1 (wpAny_loadPart')
open PySem.MeetsSeq PySem.MeetsSeq2 PySem.MeetsSeq3
end
section
variable {prog : Program} {w : World} {A : Around} {E : Value → Shared → Prop} {s : Shared}
end
end HT
namespace L2
open PySem PySem.Spec PyProof.Rows PySem.W Lo
section
variable {X : Cx} {pins : List (Addr × Obj)} {σ : St} {H : Hp} {E : Value → Shared → Prop} {Q : VK} {l f S It : Addr} {us : List V} {ns : List Pa} {B : Pa}
end
section
variable {X : Cx} {e a b : Expr} {te ta : TE} {pos p2 p3 p4 : Pos}
end
end L2
set_option maxHeartbeats 1000000
namespace L2
open PySem PySem.Spec PyProof.Rows PySem.W Lo
theorem law_callT {P : Program} {w : World} {K : Frag} {mg mb : Str → Option Value} {CX : CXT} {k : Nat} {fa a cc Pt : Addr} {fd : FuncData} {x : Str} {sp : Sp} {s₁ : Shared} {vs : List Value} {ns : List Int}
    (KX : K.In s₁.heap) (hns : s₁.heap.Ns mainGlobals mg) (hb : s₁.heap.Ns builtinsNs mb) (hbb : ∀ x : Str, x ≠ "__name__" → mb x = bootBuiltins x) (hlim : s₁.heap.NoLimit) (hg : s₁.gens = #[])
    (ha : s₁.heap.get? a = some { cls := .type "list", data := .seq vs.toArray }) (hi : IntsAre vs ns) (hl : ns.length ≤ sizeLine) (hr : Room k callerA)
    (hC : codeHdIn K cc Pt = true) (hT : s₁.heap.get? Pt = some (tabObj #[])) (hK : noTabs K = true) (hB : BB mg s₁.heap)
    (F : ∀ base : Heap, K.In base → BB mg base → FnOk P w K mg base CX k fa fd [x] sp) (hbind : ∀ (s : Shared) (u : Value), BindsTo s fd ⟨[u], []⟩ [(x, u)])
    (hsp : ∀ H : Hp, SqL K H a (ns.map V.int) → H Pt = some (.tbl #[]) → sp [.ref a] H (fun v _ => v = .bl true) fun _ _ _ => False)
    (hCX : ∀ H e s', CX [] H s₁ (fun _ _ _ => False) e s' → False) :
    codeAny (model P w) callerA (.call (.ref fa) ⟨[.ref a], []⟩) (fun r s' => r = .ok (.ret (.bool true)) ∧ OldK s₁.heap s'.heap ∧ s'.os = s₁.os ∧ AllBare s'.gens) s₁ := by
  have rv := vals_ints hi
  have lenV := hi.length
  have naP : a ≠ Pt := fun z => by
    rw [z, hT] at ha
    cases ha
  have kP : K.lookup Pt = none := by
    cases q : K.lookup Pt with
    | none => rfl
    | some o =>
      have h2 := List.all_eq_true.mp hK (Pt, o) (mem_of_lookupK q)
      have e := KX _ _ q
      rw [hT] at e
      cases e
      exact absurd (show false = true from h2) Bool.false_ne_true
  have tabC : s₁.heap.TableAt cc Pt #[] := (codeHd_of_K KX hC).tab hT
  have core : ∀ H : Hp, SqL K H a (ns.map V.int) → H Pt = some (.tbl #[]) → HOk P w H s₁.heap → (∀ b, H b ≠ none → b = a ∨ b = Pt) → (H a ≠ none → K.lookup a = none) → (∀ u, H a = some u → ∃ o xs, u = .frz o (.lst xs)) →
      codeAny (model P w) callerA (.call (.ref fa) ⟨[.ref a], []⟩) (fun r s' => r = .ok (.ret (.bool true)) ∧ OldK s₁.heap s'.heap ∧ s'.os = s₁.os ∧ AllBare s'.gens) s₁ := by
    intro H hS hP hok hA hKa hfz
    have base_of : ∀ {b : Addr} {o : Obj}, s₁.heap.get? b = some o → H b = none → (hidT s₁.heap H).get? b = some o := fun e n => hidT_get e n
    have noA : ∀ {b : Addr} {o : Obj}, s₁.heap.get? b = some o → (o.cls ≠ .type "list") → o.cls ≠ .none → H b = none := fun {b o} e d1 d2 => by
      cases q : H b with
      | none => rfl
      | some u =>
        rcases hA b (by rw [q]; simp) with e' | e'
        · subst e'
          rw [ha] at e
          cases e
          exact absurd rfl d1
        · subst e'
          rw [hT] at e
          cases e
          exact absurd rfl d2
    have noD : ∀ {b : Addr} {o : Obj} {es : Array DictEntry} {ep : Nat}, s₁.heap.get? b = some o → o.data = .dict es ep → H b = none := fun {b o es ep} e d => by
      cases q : H b with
      | none => rfl
      | some u =>
        rcases hA b (by rw [q]; simp) with e' | e'
        · subst e'
          rw [ha] at e
          cases e
          cases (show Data.seq vs.toArray _ = Data.dict es ep from d)
        · subst e'
          rw [hT] at e
          cases e
          cases (show Data.fields #[] = Data.dict es ep from d)
    have nsK : ∀ {b : Addr} {m : Str → Option Value}, s₁.heap.Ns b m → (hidT s₁.heap H).Ns b m := fun {b m} ⟨o, es, ep, e, d, r⟩ => ⟨o, es, ep, base_of e (noD e d), d, r⟩
    have hKb : K.In (hidT s₁.heap H) := fun b o e => base_of (KX b o e) (by
      cases q : H b with
      | none => rfl
      | some u =>
        rcases hA b (by rw [q]; simp) with e' | e'
        · subst e'
          rw [hKa (by rw [q]; simp)] at e
          cases e
        · subst e'
          rw [kP] at e
          cases e)
    have hM : Mod K mg (hidT s₁.heap H) := ⟨hKb, nsK hns, ⟨mb, nsK hb, hbb⟩, let ⟨mc, h1, h2⟩ := hlim; ⟨mc, nsK h1, h2⟩⟩
    have hBb : BB mg (hidT s₁.heap H) := by
      obtain ⟨bm, ob, b1, b2, b3, b4, b5, b6⟩ := hB
      exact ⟨bm, ob, b1, b2, base_of b3 (noA b3 (by rw [b4]; decide) (by rw [b4]; nofun)), b4, b5, b6⟩
    have e0 : Env0 P w K mg (hidT s₁.heap H) callerA [] s₁ H := ⟨rfl, hM, fun b o e => of_hidT e, Nat.le_of_eq (hidT_size _ _), trivial, fun b hb => absurd (show b ∈ ([] : List Addr) from hb) (by simp), hok, .of_eq hg⟩
    refine codeAny_mono ((F _ hKb hBb).run callerA [] s₁ H ⟨[.ref a], []⟩ [.ref a] [.ref a] _ _ hr e0 (hbind s₁ (.ref a)) (.cons rfl .nil) (hsp H hS hP)) fun r s' h => ?_
    cases r with
    | error e => exact (hCX H e s' h).elim
    | ok fl =>
      cases fl with
      | next => exact False.elim h
      | brk => exact False.elim h
      | cont => exact False.elim h
      | ret u =>
        obtain ⟨v, H', os, bare, un, hok', r', q⟩ := h
        have q' : v = .bl true := q
        subst q'
        obtain rfl : u = Value.bool true := r'
        have plain : ∀ b o, s₁.heap.get? b = some o → b ≠ Pt → s'.heap.get? b = some o := fun b o e nP => by
          cases q : H b with
          | none => exact un.keep b o e q (by intro z; exact absurd (show b ∈ ([] : List Addr) from z) (by simp)) (by simp)
          | some u =>
            rcases hA b (by rw [q]; simp) with e' | e'
            · subst e'
              obtain ⟨ob, xs, rfl⟩ := hfz u q
              have z2 := un.frzs b ob _ q
              obtain ⟨e1, _⟩ := hok b _ q
              obtain ⟨e2, _⟩ := hok' b _ z2
              rw [e] at e1
              cases e1
              exact e2
            · exact absurd e' nP
        obtain ⟨more, eP⟩ := un.tbls Pt #[] hP
        have tP : s'.heap.get? Pt = some { cls := .none, data := .fields (#[] ++ more) } := hok' Pt _ eP
        refine ⟨rfl, ⟨fun b o e => ?_, fun b o e => ?_⟩, os, bare⟩
        · by_cases z : b = Pt
          · subst z
            rw [hT] at e
            cases e
            exact .inr (.inl ⟨tabC.isCodeTable, rfl, #[], more, rfl, tP⟩)
          · exact .inl (plain b o e z)
        · by_cases z : b = Pt
          · subst z
            exact ⟨_, tP⟩
          · exact ⟨o, plain b o e z⟩
  cases hk : K.lookup a with
  | some o =>
    have e := KX a o hk
    rw [ha] at e
    cases e
    refine core (fun b => if b = Pt then some (.tbl #[]) else none) (.inr ⟨_, vs.toArray, _, hk, rfl, rfl, rfl, by rw [List.size_toArray, lenV]; exact hl, by simpa using rv⟩) (if_pos rfl) (fun b u z => ?_) (fun b z => ?_) (fun z => absurd (if_neg naP) z) fun u z => ?_
    · by_cases hb : b = Pt
      · have z' := (if_pos hb).symm.trans z
        cases z'
        subst hb
        exact hT
      · have z' := (if_neg hb).symm.trans z
        cases z'
    · by_cases hb : b = Pt
      · exact .inr hb
      · exact absurd (if_neg hb) z
    · have z' := (if_neg naP).symm.trans z
      cases z'
  | none =>
    refine core (fun b => if b = Pt then some (.tbl #[]) else if b = a then some (.frz { cls := .type "list", data := .seq vs.toArray } (.lst (ns.map V.int))) else none) (.inl (.inr ⟨{ cls := .type "list", data := .seq vs.toArray }, (if_neg naP).trans (if_pos rfl)⟩)) (if_pos rfl) (fun b u z => ?_) (fun b z => ?_) (fun _ => hk) fun u z => ?_
    · by_cases hb : b = Pt
      · have z' := (if_pos hb).symm.trans z
        cases z'
        subst hb
        exact hT
      · have z1 := (if_neg hb).symm.trans z
        by_cases hb : b = a
        · have z' := (if_pos hb).symm.trans z1
          cases z'
          subst hb
          exact ⟨ha, by rw [List.length_map]; exact hl, vs, _, rv, ha⟩
        · have z' := (if_neg hb).symm.trans z1
          cases z'
    · by_cases hb : b = Pt
      · exact .inr hb
      · by_cases hb' : b = a
        · exact .inl hb'
        · exact absurd ((if_neg hb).trans (if_neg hb')) z
    · have z1 := ((if_neg naP).trans (if_pos rfl)).symm.trans z
      cases z1
      exact ⟨_, _, rfl⟩
theorem walk_ofT {l : OpenLaw} {n k : Nat} {q : Program} {loose : List Str} {XP : (Str → Option Value) → Heap → Prop} {YP : World → Heap → Prop} {d : DefRec} {K : Params → Frag} {sp : World → Addr → Sp} {x : Str}
    (hn : l.most = some n) (hn2 : n ≤ sizeLine) (hdf : d.params.defaults = []) (hr : Room k callerA) (hY : ∀ (w : World) (h : Heap), YP w h → (K w.params).In h)
    (F : ∀ (w : World) (mg : Str → Option Value) (fa : Addr) (h : Heap), YP w h → (K w.params).In h → h.Ns mainGlobals mg → mg d.name = some (.ref fa) →
      ∃ (fd : FuncData) (cc Pt : Addr), (∀ (s : Shared) (u : Value), BindsTo s fd ⟨[u], []⟩ [(x, u)]) ∧ codeHdIn (K w.params) cc Pt = true ∧ h.get? Pt = some (tabObj #[]) ∧ noTabs (K w.params) = true ∧
        ∀ base : Heap, (K w.params).In base → BB mg base → FnOk l.prog w (K w.params) mg base CX0 k fa fd [x] (sp w Pt))
    (hsp : ∀ (w : World) (Pt : Addr) (H : Hp) (a : Addr) (ns : List Int), ns.length ≤ n → SqL (K w.params) H a (ns.map V.int) → H Pt = some (.tbl #[]) → sp w Pt [.ref a] H (fun v _ => v = .bl true) fun _ _ _ => False) :
    WalkO q loose XP YP l.row.toRowW d [] (fun f vs => PySem.call f vs) := by
  refine Att.attach_call hn hdf fun w s₀ s₁ mg mb fa o pm cd doc a vs ns G Y ho hd hcd hmg hobj hints hlen hg => ?_
  have KX := hY w _ Y
  obtain ⟨fd, cc, Pt, hb, hC, hT, hK, hF⟩ := F w mg fa _ Y KX G.T.g hmg
  exact law_callT KX G.T.g G.T.b G.T.builtins G.T.nolimit hg hobj hints (Nat.le_trans hlen hn2) hr hC hT hK G.T.bmain hF hb (fun H hS hP => hsp w Pt H a ns hlen hS hP) fun H e s' z => z
theorem Fun.okC {P : Program} {w : World} {K : Frag} {mg : Str → Option Value} {base : Heap} {x qual : Str} {st : Stmt} {f : Addr} {fd : FuncData} {N ps : List Str} {k : Nat} {sp : Sp} (F : Fun K x qual st f fd) (S : FnScope N ps (defScope st)) (len : ∀ vs H Q E, sp vs H Q E → vs.length = ps.length)
    (hbody : ∀ (A : Around) (outer : List Env) (s : Shared) (H : Hp) (vs : List V) (Q : VK) (E : XK), Room k (A.deeper (envOfC qual (defScope st) s.heap.objs.size f fd.code)) → sp vs H Q E →
      ∃ t, PSs (cxOf CX0 P w K mg base N qual (defScope st) f fd.code A outer s H E).nox (defBody st) t ∧ t { nx := fun _ H' => Q .non H', rt := Q } (start N vs) H) : FnOk P w K mg base CX0 (k + 1) f fd ps sp := by
  obtain ⟨oc, od, kV, doc, pm, an, cdv, ct, osl, rfl, lk, hcd⟩ := F.ex
  refine fn_of lk hcd S len fun A outer s H vs Q E hr hsp => ?_
  obtain ⟨t, h, q⟩ := hbody A outer s H vs Q E hr hsp
  exact ⟨t, h.nox, q⟩
end L2
set_option maxHeartbeats 1000000
namespace L2
open PySem PySem.Spec PyProof.Rows PySem.W Lo
theorem ff_base {h B B' : Heap} : ∀ {l : List Env}, h.FunFrames B l → (∀ b ∈ frs l, B'.get? b = none) → h.FunFrames B' l
  | [], _, _ => trivial
  | env :: r, ⟨k, ⟨L, o, fr, _, e, d⟩, t⟩, n => by
    have m : frs (env :: r) = L :: frs r := by
      show List.filterMap _ (env :: r) = _
      rw [List.filterMap_cons, fr]
      rfl
    rw [m] at n
    exact ⟨k, ⟨L, o, fr, n L List.mem_cons_self, e, d⟩, ff_base t fun b hb => n b (List.mem_cons_of_mem _ hb)⟩
def baseB (l : List Env) (H : Hp) (h : Heap) : Heap := hideAll h (trk h H ++ frs l)
theorem baseB_get {l : List Env} {H : Hp} {h : Heap} {b : Addr} {o : Obj} (e : h.get? b = some o) (n : H b = none) (nf : b ∉ frs l) : (baseB l H h).get? b = some o := hideAll_get _ e fun hm => by
  rcases List.mem_append.mp hm with z | z
  · have q : (H b).isSome = true := (List.mem_filter.mp z).2
    rw [n] at q
    simp at q
  · exact nf z
theorem of_baseB {l : List Env} {H : Hp} {h : Heap} {b : Addr} {o : Obj} (e : (baseB l H h).get? b = some o) : h.get? b = some o ∧ H b = none ∧ b ∉ frs l := by
  have e' : h.get? b = some o := of_hideAll _ e
  refine ⟨e', ?_, fun z => ?_⟩
  · cases q : H b with
    | none => rfl
    | some x =>
      have hm : b ∈ trk h H ++ frs l := List.mem_append_left _ (List.mem_filter.mpr ⟨List.mem_range.mpr (Heap.lt_size e'), by simp [q]⟩)
      have z : (baseB l H h).get? b = none := hideAll_none _ hm
      rw [z] at e
      cases e
  · have z : (baseB l H h).get? b = none := hideAll_none _ (List.mem_append_right _ z)
    rw [z] at e
    cases e
def PinB (pp : List (Addr × Obj)) (cs : List (Addr × V)) (h : Heap) : Prop := (∀ p ∈ pp, h.get? p.1 = some p.2) ∧ ∀ c ∈ cs, ∃ u, RelV c.2 u ∧ h.IsCell c.1 (some u)
def CellsS (X : Cx) (cs : List (Addr × V)) (σ : St) : Prop := ∀ c ∈ cs, ∃ (i : Nat) (x : Str), X.N[i]? = some x ∧ σ[i]? = some (some c.2) ∧ X.env.kindOf x = some .cell ∧ X.env.cells.lookup x = some c.1 ∧ X.fn x = true
section
variable {X : Cx} {pins : List (Addr × Obj)} {σ : St} {H : Hp} {s : Shared}
theorem Inv.nfr2 (I : Inv X pins σ H s) {b : Addr} {o : Obj} (e : X.base.get? b = some o) : b ∉ frs X.stack := fun z => by
  rcases List.mem_cons.mp (I.stkSub b z) with z | z
  · have := Heap.lt_size (I.ok.bs b o e).1
    rw [z] at this
    exact absurd this (Nat.not_lt.mpr I.ok.above)
  · exact I.ok.nofr e z
theorem Inv.baseK (I : Inv X pins σ H s) : ∀ b o, X.base.get? b = some o → (baseB X.stack H s.heap).get? b = some o := fun b o e => baseB_get (I.bs b o e).1 (I.bs b o e).2 (I.nfr2 e)
theorem Inv.modB (I : Inv X pins σ H s) : Mod X.K X.mg (baseB X.stack H s.heap) := by
  obtain ⟨k1, k2, ⟨mb, k3, k4⟩, k5⟩ := I.ok.mod
  have kb := I.baseK
  exact ⟨k1.keeps kb, k2.keeps kb, ⟨mb, k3.keeps kb, k4⟩, k5.keeps kb⟩
theorem Inv.env0B (I : Inv X pins σ H s) : Env0 X.prog X.w X.K X.mg (baseB X.stack H s.heap) X.A X.stack s H := by
  refine ⟨I.ok.frames, I.modB, fun b o e => ⟨(of_baseB e).1, (of_baseB e).2.1⟩, Nat.le_of_eq (hideAll_size _ _), ff_base I.stack fun b hb => ?_, I.stkFree, I.hok, I.bare⟩
  cases z : (baseB X.stack H s.heap).get? b with
  | none => rfl
  | some o => exact absurd hb (of_baseB z).2.2
theorem Inv.pinB {pp : List (Addr × Obj)} {cs : List (Addr × V)} (I : Inv X pins σ H s) (hp : ∀ p ∈ pp, p ∈ X.pn) (hc : CellsS X cs σ) : PinB pp cs (baseB X.stack H s.heap) := by
  refine ⟨fun p hm => ?_, fun c hm => ?_⟩
  · obtain ⟨e, n, nl, nf, _⟩ := I.pin p (List.mem_append_left _ (hp p hm))
    exact baseB_get e n fun z => (List.mem_cons.mp (I.stkSub _ z)).elim nl nf
  · obtain ⟨i, x, h1, h2, h3, h4, h5⟩ := hc c hm
    obtain ⟨m, hn, hl⟩ := I.loc
    obtain ⟨u, r, lk⟩ := hl i x c.2 h1 h2 (.inr (.inl h3))
    rcases lk with ⟨z, _⟩ | ⟨_, c', e, o, ho, hd⟩
    · rw [h3] at z
      cases z
    · rw [h4] at e
      cases e
      refine ⟨u, r, o, baseB_get ho (I.freeC x _ h4) fun z => ?_, hd⟩
      rcases List.mem_cons.mp (I.stkSub _ z) with z | z
      · exact I.cne x _ h4 z
      · obtain ⟨_, o', ho', _⟩ := I.ok.funs.mem z
        exact absurd (Heap.lt_size ho') (Nat.not_lt.mpr (I.ok.cab x _ h5 h4))
end
section
variable {X : Cx} {CX : CXT} {k : Nat} {f C : Addr} {fd : FuncData} {ps : List Str} {sp : Sp} {E : XK} {x m : Str} {p pos apos : Pos} {e o : Expr} {es : List Expr} {ta : TE} {t : TA} {pp : List (Addr × Obj)} {cs : List (Addr × V)}
theorem run_fnB {pins : List (Addr × Obj)} {σ : St} {H : Hp} {s : Shared} {Q : VK} {us : List Value} {vs : List V} (F : ∀ B : Heap, X.K.In B → PinB pp cs B → FnOk X.prog X.w X.K X.mg B CX k f fd ps sp) (hr : Room k X.A) (hb : Binds X.K fd ps []) (hx : Passes CX X E)
    (hp : ∀ p ∈ pp, p ∈ X.pn) (I : Inv X pins σ H s) (hc : CellsS X cs σ) (r : Vals vs us) (h : sp vs H Q E) : wpAny (model X.prog X.w) X.A (call (.ref f) us) (EP X pins σ Q) X.xe s := by
  have FF := F _ I.modB.kin (I.pinB hp hc)
  have hl : (us ++ []).length = ps.length := by rw [List.append_nil, ← r.length]; exact FF.len _ _ _ _ h
  have hbb := hb s us I.kIn hl
  rw [List.append_nil] at hbb
  refine wpAny_call (codeAny_mono (FF.run X.A X.stack s H ⟨us, []⟩ us vs Q E hr I.env0B hbb r h) fun r s' hq => ?_)
  cases r with
  | error e => exact hx pins σ H s e s' I hq
  | ok fl =>
    cases fl with
    | ret u => exact I.after hq
    | next => exact False.elim hq
    | brk => exact False.elim hq
    | cont => exact False.elim hq
def tMethV (X : Cx) (cs : List (Addr × V)) (C : Addr) (m : Str) (sp : Sp) (E : XK) (ta : TE) (t : TA) : TE := fun σ H Q => CellsS X cs σ ∧ ta σ H fun x H1 => ∃ a dx fs, x = .ref a ∧ H1 a = some (.ins C dx fs) ∧ fs.lookup m = none ∧
  t σ H1 fun vs H2 => sp (x :: vs) H2 Q E
theorem pe_methV {pl : Sem Bool} (he : PE X o ta) (c : Cls X.K C) (hm : Meth X.K C m f) (F : ∀ B : Heap, X.K.In B → PinB pp cs B → FnOk X.prog X.w X.K X.mg B CX k f fd ps sp) (hr : Room k X.A) (hb : Binds X.K fd ps []) (hx : Passes CX X E) (hp : ∀ p ∈ pp, p ∈ X.pn) (ha : PA X (e :: es) t)
    (hst : starEach (e :: es) X.env = (false, eval e X.env) :: starEach es X.env := by rfl) (hpl : (backTo pos (starEach es X.env)).any (·.1) = false := by rfl)
    (ht : eval (.Call (.Attribute o m apos) (e :: es) [] pos) X.env = (do
      let ov ← eval o X.env
      standAt apos.atName
      let (f, first) ← holding [ov] (getMethod ov m pl)
      callWith pos f first (backTo pos (starEach (e :: es) X.env)) (backToKw pos (keywordEach [] X.env))) := by rfl) :
    PE X (.Call (.Attribute o m apos) (e :: es) [] pos) (tMethV X cs C m sp E ta t) := by
  intro pins s σ H Q I ⟨hc, h⟩
  refine PySem.W.methodCall_KW (pl := pl) (thn (he pins s σ H _ I h) fun u s1 ⟨x, H1, I1, rx, a, dx, fs, ex, ea, l, q⟩ => ?_) ht
  subst ex
  obtain rfl : u = Value.ref a := rx
  refine getmeth_ok I1 ea c hm l ?_
  refine PySem.W.callWith_K (first := [.ref a]) (h₀ := X.base) I.ok.mod.kin hm.kp (thn (ha pos pins s1 σ H1 _ I1 q) fun us s2 ⟨vs, H2, I2, r, q2⟩ => ⟨I2.kIn, ?_⟩) hst hpl
  exact run_fnB (us := .ref a :: us) (vs := .ref a :: vs) F hr hb hx hp I2 hc (.cons rfl r) q2
def tCallP (i : Nat) (f : Addr) (sp : Sp) (E : XK) (t : TA) : TE := fun σ H Q => σ[i]? = some (some (.ref f)) ∧ t σ H fun vs H1 => sp vs H1 Q E
theorem pe_callP {i : Nat} {of : Obj} {fd0 : FuncData} (hN : X.N[i]? = some x) (hv : Vis X.env.scope x) (hf : X.base.get? f = some of) (hfd : of.data = .func fd0) (F : FnOk X.prog X.w X.K X.mg X.base CX k f fd ps sp) (hr : Room k X.A) (hb : Binds X.K fd ps []) (hx : Passes CX X E) (ha : PA X (e :: es) t)
    (hdb : (x == ("__debug__" : Str)) = false := by decide) (hcd : (x == ("__classdict__" : Str)) = false := by decide) (he : starEach (e :: es) X.env = (false, eval e X.env) :: starEach es X.env := by rfl) (hpl : (backTo pos (starEach es X.env)).any (·.1) = false := by rfl) :
    PE X (.Call (.Name x p) (e :: es) [] pos) (tCallP i f sp E t) := by
  intro pins s σ H Q I ⟨hσ, h⟩
  have at' : ∀ {σ' : St} {H' : Hp} {s' : Shared}, Inv X pins σ' H' s' → FnAt f s'.heap := fun J => by
    obtain ⟨oc, od, dd, sl⟩ := of
    cases (show dd = _ from hfd)
    exact ⟨oc, od, _, sl, J.bk _ _ hf⟩
  refine wpAny_Call_Name_kw (thn ((pe_var (pos := p) hN hv hdb hcd) pins s σ H (fun v H' => v = .ref f ∧ H' = H) I ⟨_, hσ, rfl, rfl⟩) fun u s1 ⟨v, H1, I1, r, e1, e2⟩ => ?_)
  subst e1
  subst e2
  cases r
  refine callWith_F (first := []) (at' I1) (thn (ha pos pins s1 σ H1 _ I1 h) fun us s2 ⟨vs, H2, I2, r, q⟩ => ⟨at' I2, ?_⟩) he hpl
  exact run_fn F hr hb .nil hx I2 r (by rw [List.append_nil]; exact q)
end
end L2
set_option maxHeartbeats 1000000
namespace L2
open PySem PySem.Spec PyProof.Rows PySem.W Lo
abbrev Cx.pinned (X : Cx) (q : List (Addr × Obj)) : Cx := { X with pn := q ++ X.pn }
section
variable {X : Cx} {pins q : List (Addr × Obj)} {σ : St} {H : Hp} {s : Shared}
theorem Inv.unpinX (I : Inv (X.pinned q) pins σ H s) : Inv X pins σ H s :=
  ⟨⟨I.ok.mod, I.ok.kind, I.ok.glob, I.ok.blt, I.ok.above, I.ok.inj, I.ok.has, I.ok.cab, I.ok.hd, I.ok.frames, I.ok.stk, I.ok.exf, I.ok.bs, I.ok.bsz, I.ok.noex, I.ok.exfs, I.ok.funs, I.ok.frf⟩, I.os, I.bare, I.base, I.loc, I.cell, I.free, I.freeC,
    fun p hp => I.pin p (by
      rcases List.mem_append.mp hp with z | z
      · exact List.mem_append_left _ (List.mem_append_right _ z)
      · exact List.mem_append_right _ z), I.hok, I.len⟩
theorem Inv.pinX (I : Inv X pins σ H s) (hq : ∀ p ∈ q, s.heap.get? p.1 = some p.2 ∧ H p.1 = none ∧ p.1 ≠ X.env.locals ∧ p.1 ∉ X.fs ∧ ∀ v, p.2.data ≠ .cell v) : Inv (X.pinned q) pins σ H s :=
  ⟨⟨I.ok.mod, I.ok.kind, I.ok.glob, I.ok.blt, I.ok.above, I.ok.inj, I.ok.has, I.ok.cab, I.ok.hd, I.ok.frames, I.ok.stk, I.ok.exf, I.ok.bs, I.ok.bsz, I.ok.noex, I.ok.exfs, I.ok.funs, I.ok.frf⟩, I.os, I.bare, I.base, I.loc, I.cell, I.free, I.freeC,
    fun p hp => by
      rcases List.mem_append.mp hp with z | z
      · rcases List.mem_append.mp z with z | z
        · exact hq p z
        · exact I.pin p (List.mem_append_left _ z)
      · exact I.pin p (List.mem_append_right _ z), I.hok, I.len⟩
theorem SP.unpinX {D : Ends} {fl : Flow} (h : SP (X.pinned q) pins D fl s) : SP X pins D fl s := by
  cases fl with
  | next => obtain ⟨a, b, J, r⟩ := h; exact ⟨a, b, J.unpinX, r⟩
  | brk => obtain ⟨a, b, J, r⟩ := h; exact ⟨a, b, J.unpinX, r⟩
  | cont => obtain ⟨a, b, J, r⟩ := h; exact ⟨a, b, J.unpinX, r⟩
  | ret u => obtain ⟨v, a, b, J, r⟩ := h; exact ⟨v, a, b, J.unpinX, r⟩
end
def MadeAt (q name : Str) (params : Arguments) (body : List Stmt) (scope : Scope) (clos : List (Str × Addr)) (f c : Addr) (fo oc : Obj) : Prop :=
  (∃ doc pm ct, fo = fnMade name q params body scope clos doc pm c ct) ∧ ∃ vs t, oc.data = .fields vs ∧ vs[1]? = some (.str q t)
def tDef (P : Addr) (pos : Pos) (i : Nat) (mk : Addr → Addr → Obj → Obj → Prop) (u : Addr → Addr → Obj → Obj → TS) : TS := fun D σ H =>
  ∃ ps, H P = some (.tbl ps) ∧ TriplesOk ps.toList ∧ codeAmong pos ps.toList = none ∧ ∀ f c fo oc, mk f c fo oc → u f c fo oc D (σ.set i (some (.ref f))) (upd H P (.tbl (ps ++ #[rawInt pos.line, rawInt pos.col, .ref c])))
theorem pss_def {X : Cx} {name : Str} {params : Arguments} {body : List Stmt} {scope : Scope} {pos : Pos} {rest : List Stmt} {cc P : Addr} {q : Str} {i : Nat} {clos : List (Str × Addr)} {u : Addr → Addr → Obj → Obj → TS}
    (hcode : X.env.code = .ref cc) (hC : codeHdIn X.K cc P = true) (hB : BB X.mg X.base) (hq : qualnameIn X.env name name = q) (hcl : closureFor scope X.env = pure clos) (hd0 : params.defaults = []) (hk0 : params.kw_defaults = []) (ha : annTrees params none X.env = [])
    (hN : X.N.Nodup) (hi : X.N[i]? = some name) (hx : X.env.scope.names.lookup name = some .local)
    (hrest : ∀ f c fo oc, MadeAt q name params body scope clos f c fo oc → PSs (X.pinned [(f, fo), (c, oc)]) rest (u f c fo oc)) :
    PSs X (.FunctionDef name params body [] none [] scope none name pos :: rest) (tDef P pos i (MadeAt q name params body scope clos) u) := by
  intro pins s σ H D I h
  obtain ⟨ps, e, htr, hnf, hQ⟩ := h
  subst hq
  refine wpAny_execs_cons (nestDef_K hd0 hk0 ha ?_)
  have hg : s.heap.Ns mainGlobals X.mg := I.ok.mod.glob.keeps I.bk
  have C : CodeHd s.heap cc P := codeHd_of_K I.kIn hC
  obtain ⟨bm, ob, b1, b2, b3, b4, b5, b6⟩ := hB
  have b3' := I.bk _ _ b3
  have hbG : bm ≠ mainGlobals := fun z => by
    obtain ⟨o, es, ep, e, hd, _⟩ := hg
    rw [z, e] at b3'
    cases b3'
    rw [hd] at b6
    cases b6
  have hP : s.heap.get? P = some (tabObj ps) := I.hok P _ e
  have n1 : mainGlobals ≠ P := fun z => by
    obtain ⟨o, es, ep, e', hd, _⟩ := hg
    rw [z, hP] at e'
    cases e'
    cases hd
  have n2 : bm ≠ P := fun z => by
    rw [z, hP] at b3'
    cases b3'
    cases b4
  refine makeFunction_K (mg := X.mg) hcl I.ok.glob hg hcode C hP htr hnf n1 ⟨bm, ob, b1, b2, hbG, n2, b3', b4, b5, b6⟩ fun c ct doc h' tk hxx hge hlt hrec htb => ?_
  obtain ⟨c₂, oc, vs, t, e2, hoc, hd, hv⟩ := hrec
  cases e2
  have ltP : P < s.heap.objs.size := Heap.lt_size hP
  have Pc : P ≠ c := Nat.ne_of_lt (Nat.lt_of_lt_of_le ltP hge)
  have Pf : P ≠ h'.objs.size := Nat.ne_of_lt (Nat.lt_trans (Nat.lt_of_lt_of_le ltP hge) hlt)
  have hc0 : H c = none := I.hok.fresh hge
  have hf0 : H h'.objs.size = none := I.hok.fresh (Nat.le_of_lt (Nat.lt_of_le_of_lt hge hlt))
  generalize hfo : fnMade name (qualnameIn X.env name name) params body scope clos doc ((X.mg "__name__").getD .none) c ct = fo
  have kp : ∀ d o, d ≠ P → s.heap.get? d = some o → (h'.push fo).get? d = some o := fun d o n z => Heap.get?_push_of_some _ (hxx d o n z)
  have noP : ∀ d, H d = none → d ≠ P := fun d z y => by
    rw [y, e] at z
    cases z
  have noTP : ∀ d o, noT o → H d = some o → d ≠ P := fun d o n z y => by
    rw [y, e] at z
    cases z
    exact n
  have I3 : Inv X pins σ (upd H P (.tbl (ps ++ #[rawInt pos.line, rawInt pos.col, .ref c]))) { s with heap := h'.push fo, toks := tk } := by
    refine I.step (g' := s.gens) (d' := s.drawn) (t' := tk) (ch := []) (fun _ z => nomatch z) (fun d o _ _ _ z n => kp d o (noP d n) z) (fun d o _ _ _ z n => ⟨o.slots, kp d o (noP d n) z⟩) (fun d o _ z n => ?_) (fun d o _ z => ?_)
      (fun d xs z => ?_) (fun d o u z => ?_) (fun d qs z => ?_) (fun m hm => ?_) (fun d u z => ?_) I.bare
    · exact (upd_ne (noP d n)).trans n
    · by_cases y : d = P
      · rw [y]
        exact ⟨_, Heap.get?_push_of_some _ htb⟩
      · exact ⟨o, kp d o y z⟩
    · exact (upd_ne (noTP d (.tup xs) trivial z)).trans z
    · exact (upd_ne (noTP d (.frz o u) trivial z)).trans z
    · by_cases y : d = P
      · subst y
        rw [e] at z
        cases z
        exact ⟨#[rawInt pos.line, rawInt pos.col, .ref c], upd_same⟩
      · exact ⟨#[], by rw [upd_ne y, z]; simp⟩
    · obtain ⟨o, es, ep, ho, r⟩ := hm
      exact ⟨o, es, ep, kp _ o (noP _ I.free) ho, r⟩
    · by_cases y3 : d = P
      · subst y3
        rw [upd_same] at z
        cases z
        exact Heap.get?_push_of_some _ htb
      · rw [upd_ne y3] at z
        refine (I.hok d u z).stay (fun a v ha q => kp a v ?_ q) (fun a q => (upd_ne (noTP a (.own d) trivial q)).trans q) fun a xs q => (upd_ne (noTP a (.tup xs) trivial q)).trans q
        rcases ha with ha | ha
        · rw [ha]
          exact y3
        · exact noTP a (.own d) trivial ha
  have fd : ∀ v, fo.data ≠ .cell v := fun v => by
    subst hfo
    exact fun z => by cases z
  have ltL := I.lt
  have I4 : Inv (X.pinned [(h'.objs.size, fo), (c, oc)]) pins σ (upd H P (.tbl (ps ++ #[rawInt pos.line, rawInt pos.col, .ref c]))) { s with heap := h'.push fo, toks := tk } := I3.pinX fun p hp => by
    rcases List.mem_cons.mp hp with rfl | hp
    · exact ⟨Heap.get?_push_size _ (by rw [← hfo]; rfl), (upd_ne (Ne.symm Pf)).trans hf0, Nat.ne_of_gt (Nat.lt_trans (Nat.lt_of_lt_of_le ltL hge) hlt), I.nofs (Nat.le_of_lt (Nat.lt_of_le_of_lt hge hlt)), fd⟩
    · obtain rfl := List.mem_singleton.mp hp
      exact ⟨Heap.get?_push_of_some _ hoc, (upd_ne (Ne.symm Pc)).trans hc0, Nat.ne_of_gt (Nat.lt_of_lt_of_le ltL hge), I.nofs hge, fun v z => by
        rw [show oc.data = _ from hd] at z
        cases z⟩
  have mk : MadeAt (qualnameIn X.env name name) name params body scope clos h'.objs.size c fo oc := ⟨⟨doc, _, ct, hfo.symm⟩, vs, t, hd, hv⟩
  refine store_ok (X := X.pinned [(h'.objs.size, fo), (c, oc)]) (v := .ref h'.objs.size) I4 hN hi (.inl hx) rfl (fun s' I5 => ?_) (.inr hx)
  exact thn (hrest _ _ _ _ mk pins s' _ _ D I5 (hQ _ _ _ _ mk)) fun fl s2 q => q.unpinX
structure CloScope (N : List Str) (x : Str) (sc : Scope) (cl : List (Str × Addr)) : Prop where
  kind : sc.kind = .function
  co : sc.isCoroutine = false
  gen : sc.isGenerator = false
  nd : N.Nodup
  pre : N[0]? = some x
  par : sc.names.lookup x = some .local
  nocell : ∀ y ∈ sc.names, y.2 ≠ .cell
  free : ∀ y, sc.names.lookup y = some .free → ∃ c, cl.lookup y = some c
  inj : ∀ y z c, cl.lookup y = some c → cl.lookup z = some c → y = z
def cxClo (CX : CXT) (P : Program) (w : World) (K : PySem.W.Frag) (mg : Str → Option Value) (base : Heap) (N : List Str) (qual : Str) (scope : Scope) (f : Addr) (cd : Value) (cl : List (Str × Addr)) (A : Around) (outer : List Env) (s : Shared) (H : Hp) (E : XK) : Cx where
  prog := P
  w := w
  K := K
  mg := mg
  base := base
  A := A.deeper (envX qual scope s.heap.objs.size f cd cl)
  N := N
  s₀ := s
  H₀ := H
  env := envX qual scope s.heap.objs.size f cd cl
  outer := outer
  stack := envX qual scope s.heap.objs.size f cd cl :: outer
  ex := []
  calm := true
  fn := fun _ => false
  pn := []
  xe := fun e s' => wpAny (model P w) (A.deeper (envX qual scope s.heap.objs.size f cd cl)) (leaving (envX qual scope s.heap.objs.size f cd cl) e) (fun _ s'' => CX outer H s E e s'') (fun e' s'' => CX outer H s E e' s'') s'
theorem fn_clo {CX : CXT} {P : Program} {w : World} {K : PySem.W.Frag} {mg : Str → Option Value} {base : Heap} {k : Nat} {f c : Addr} {fo oc : Obj} {name qual : Str} {params : Arguments} {body : List Stmt} {scope : Scope} {doc pm ct : Value} {cl : List (Str × Addr)}
    {N : List Str} {x : Str} {fvs : List V} {sp : Sp} {cs : List (Addr × V)} (hfo : fo = fnMade name qual params body scope cl doc pm c ct) (hoc : ∃ vs t, oc.data = .fields vs ∧ vs[1]? = some (.str qual t)) (hB : PinB [(f, fo), (c, oc)] cs base) (S : CloScope N x scope cl) (hlen : N.length = fvs.length + 1)
    (hcl : ∀ y a, cl.lookup y = some a → ∃ v, (a, v) ∈ cs) (hfv : ∀ (j : Nat) (y : Str) (v : V), N[j + 1]? = some y → fvs[j]? = some v → scope.names.lookup y = some .free ∧ ∃ a, cl.lookup y = some a ∧ ∀ v', (a, v') ∈ cs → v' = v)
    (len : ∀ vs H Q E, sp vs H Q E → vs.length = 1)
    (hbody : ∀ (A : Around) (outer : List Env) (s : Shared) (H : Hp) (v : V) (Q : VK) (E : XK), Room k (A.deeper (envX qual scope s.heap.objs.size f (.ref c) cl)) → sp [v] H Q E →
      ∃ t, PSs (cxClo CX P w K mg base N qual scope f (.ref c) cl A outer s H E) body t ∧ t { nx := fun _ H' => Q .non H', rt := Q } ((v :: fvs).map some) H) :
    FnOk P w K mg base CX (k + 1) f (fnX name qual params body scope cl .none .none doc pm none (.ref c) ct) [x] sp := by
  refine ⟨len, fun A outer s H args us vs Q E hr e0 hb r hsp => ?_⟩
  have lim : s.heap.NoLimit := e0.mod.nolimit.keeps fun b o e => (e0.bs b o e).1
  have hl := len _ _ _ _ hsp
  obtain ⟨v, rfl⟩ : ∃ v, vs = [v] := by
    match vs, hl with
    | [v], _ => exact ⟨v, rfl⟩
  obtain ⟨u, rfl, ru⟩ : ∃ u, us = [u] ∧ RelV v u := by
    cases r with
    | cons p q =>
      cases q
      exact ⟨_, rfl, p⟩
  obtain ⟨hp, hc⟩ := hB
  have gf := (e0.bs _ _ (hp (f, fo) List.mem_cons_self)).1
  have gc := (e0.bs _ _ (hp (c, oc) (List.mem_cons_of_mem _ List.mem_cons_self))).1
  obtain ⟨ws, tq, hd, hv⟩ := hoc
  refine codeAny_call_def (fd := fnX name qual params body scope cl .none .none doc pm none (.ref c) ct) (body := body) (binds := [(x, u)]) hr.depth gf (by rw [hfo]) lim ⟨c, oc, ws, tq, rfl, gc, hd, hv⟩ rfl hb S.nocell (fun y hy => ?_) (fun h₁ hns hk₁ => ?_) S.co S.gen S.kind
  · obtain rfl := List.mem_singleton.mp hy
    exact S.par
  obtain ⟨t, ht, hq⟩ := hbody A outer s H v Q E (hr.deeper _) hsp
  have cellAt : ∀ y a, cl.lookup y = some a → ∃ v, (a, v) ∈ cs ∧ ∃ u, RelV v u ∧ s.heap.IsCell a (some u) ∧ H a = none := fun y a e => by
    obtain ⟨v, hm⟩ := hcl y a e
    obtain ⟨u, r, o, ho, hd⟩ := hc _ hm
    exact ⟨v, hm, u, r, ⟨o, (e0.bs _ _ ho).1, hd⟩, (e0.bs _ _ ho).2⟩
  have noA : ∀ b : Addr, b ∉ (cxClo CX P w K mg base N qual scope f (.ref c) cl A outer s H E).ex := fun b z => absurd (show b ∈ ([] : List Addr) from z) (by simp)
  have I : Inv (cxClo CX P w K mg base N qual scope f (.ref c) cl A outer s H E) [] ((v :: fvs).map some) H { s with heap := h₁, toks := s.toks + [(x, u)].length } := by
    refine ⟨⟨e0.mod, S.kind, rfl, rfl, Nat.le_refl _, S.inj, fun y hy => ?_, fun y c h _ => absurd h (by show ¬ (false = true); decide), fun _ => hr.hd, Around.frames_deeper e0.frames, .inr ⟨rfl, rfl⟩, fun b z => absurd z (noA b), e0.bs, e0.bsz, fun b _ _ => noA b, fun b z => absurd z (noA b), e0.funs, e0.frf⟩,
      rfl, e0.bare, Un.kept hk₁, ⟨_, hns, fun i y v' h1 h2 h3 => ?_⟩, fun y a e => ?_, e0.hok.fresh (Nat.le_refl _), fun y a e => ?_, fun p hp => absurd (show p ∈ ([] : List (Addr × Obj)) from hp) (by simp), e0.hok.kept hk₁, ?_⟩
    · have hy : scope.names.lookup y = some .cell ∨ scope.names.lookup y = some .free := hy
      rcases hy with hy | hy
      · exact absurd rfl (S.nocell _ (PySem.mem_of_lookup hy))
      · exact S.free y hy
    · cases i with
      | zero =>
        have e1 : some x = some y := S.pre.symm.trans h1
        cases e1
        have e2 : some (some v) = some (some v') := h2
        cases e2
        exact ⟨u, ru, .inl ⟨S.par, by simp⟩⟩
      | succ j =>
        have e2 : (fvs.map some)[j]? = some (some v') := h2
        rw [List.getElem?_map] at e2
        cases e3 : fvs[j]? with
        | none =>
          rw [e3] at e2
          cases e2
        | some v2 =>
          rw [e3] at e2
          cases e2
          obtain ⟨hf, a, ea, hu⟩ := hfv j y _ h1 e3
          obtain ⟨v3, hm, u3, r3, ⟨o, ho, hd3⟩, _⟩ := cellAt y a ea
          obtain rfl := hu _ hm
          exact ⟨u3, r3, .inr ⟨.inr hf, a, ea, o, hk₁ _ _ ho, hd3⟩⟩
    · obtain ⟨v3, hm, u3, r3, ⟨o, ho, hd3⟩, _⟩ := cellAt y a e
      exact ⟨_, o, hk₁ _ _ ho, hd3⟩
    · obtain ⟨v3, hm, u3, r3, _, n⟩ := cellAt y a e
      exact n
    · show _ = N.length
      rw [hlen]
      simp
  refine wpAny_mono (ht [] _ _ H _ I hq) (fun fl s' hs => ?_) fun e s' hs => hs
  have fin : ∀ {σ' : St} {H' : Hp} {v : V} {u : Value}, Inv (cxClo CX P w K mg base N qual scope f (.ref c) cl A outer s H E) [] σ' H' s' → RelV v u → Q v H' → CE outer P w H s Q u s' :=
    fun {σ' H' v u} J rv q => ⟨v, H', J.os, J.bare, J.base, J.hok, rv, q⟩
  cases fl with
  | ret u =>
    obtain ⟨v, σ', H', J, rv, q⟩ := hs
    exact fin J rv q
  | next =>
    obtain ⟨σ', H', J, q⟩ := hs
    exact fin (v := V.non) (u := Value.none) J rfl q
  | brk =>
    obtain ⟨_, _, _, q⟩ := hs
    exact False.elim q
  | cont =>
    obtain ⟨_, _, _, q⟩ := hs
    exact False.elim q
end L2
set_option maxHeartbeats 1000000
namespace L2
open PySem PySem.Spec PyProof.Rows Lo
theorem turn_long {P : Program} {w : World} {K : PySem.W.Frag} {tg : Expr} (it : Addr) (lo : Int) (n : Nat) : Turn P w K tg (Itr lo n) [it] it (fun i h => IsLongIter h it (lo + (i : Nat) * 1) ((n : Int) - (i : Nat)) 1) where
  mem := by simp
  obj := fun i h st b hb => by
    have e : b = it := by simpa using hb
    subst e
    exact ⟨_, st, fun v z => by
      have z' : Data.fields _ = Data.cell v := z
      cases z'⟩
  keep := fun i h h' st k => k it (by simp) _ st
  item := by
    intro X hP hw hK hc i pins s σ H E I hf st hg
    subst hP hw hK
    obtain ⟨f0, f1, f2, f3, f4, f5⟩ := hf it (by simp)
    have W := Walks.longrange (prog := X.prog) (w := X.w) (I.ok.hd hc) it lo 1 n
    refine W.item i s _ _ hg st fun v h' tk hv st' kk => ?_
    obtain ⟨t, rfl⟩ := hv
    have I1 : Inv X pins σ H { s with heap := h', toks := tk } := I.turned (fun b o hb e => kk b o (by simpa using hb) e) f0 f1 f3 f4 f5
    refine ⟨_, rfl, go_of (s := { s with heap := h', toks := tk }) (n := "longrange_iterator") st' rfl rfl (by decide) ⟨.int (lo + i), H, I1, ⟨t, ?_⟩, ⟨rfl, rfl⟩, st', fun b hb => (hf b hb).1⟩⟩
    rw [Int.mul_one]
  done := by
    intro X hP hw hK hc i pins s σ H E I hf st hg
    subst hP hw hK
    obtain ⟨f0, f1, f2, f3, f4, f5⟩ := hf it (by simp)
    exact wpAny_pyNext_long_end (I.ok.hd hc) st (by have : n ≤ i := hg; omega) fun h' eb => ⟨rfl, I.turned (t' := s.toks) (fun b o hb e => eb b o hb e) f0 f1 f3 f4 f5⟩
  self := fun _ _ _ _ _ st h => wpAny_pyIter_longiter st h
section
variable {X : Cx} {tg : Expr}
theorem range_itL {pins : List (Addr × Obj)} {σ : St} {H : Hp} {s : Shared} {R : It → Hp → Prop} {E : Value → Shared → Prop} {lo hi : Int} {t u v : Tok} {tk : Nat} (I : Inv X pins σ H s)
    (q : R (Itr lo (hi - lo).toNat) H) : wpAny (model X.prog X.w) X.A (pyIter (.ref s.heap.objs.size)) (PIE X pins σ tg R) E { s with heap := s.heap.push { cls := .type "range", data := .fields #[.int lo t, .int hi u, .int 1 v] }, toks := tk } := by
  have I1 : Inv X pins σ H { s with heap := s.heap.push { cls := .type "range", data := .fields #[.int lo t, .int hi u, .int 1 v] }, toks := tk } := I.kept fun b o e => Heap.get?_push_of_some _ e
  have e1 : lo + ((0 : Nat) : Int) * 1 = lo := by simp
  have e2 : (((hi - lo).toNat : Nat) : Int) - ((0 : Nat) : Int) = Builtin.Range.rangeSize lo hi 1 := by rw [rangeSize_one]; split <;> omega
  have fp : ∀ b, b ∈ [(s.heap.push { cls := .type "range", data := .fields #[.int lo t, .int hi u, .int 1 v] }).objs.size] → b = (s.heap.push { cls := .type "range", data := .fields #[.int lo t, .int hi u, .int 1 v] }).objs.size := fun b hb => by simpa using hb
  cases hs : Builtin.Range.small lo hi 1 with
  | true =>
    refine wpAny_pyIter_range (IsRange.new ..) hs ?_
    refine ⟨(s.heap.push { cls := .type "range", data := .fields #[.int lo t, .int hi u, .int 1 v] }).objs.size, [(s.heap.push { cls := .type "range", data := .fields #[.int lo t, .int hi u, .int 1 v] }).objs.size], _, _, H, rfl,
      I1.kept (t' := tk) fun b o e => Heap.get?_push_of_some _ e, turn_range _ lo (hi - lo).toNat, ?_, fun b hb => ?_, q⟩
    · show IsRangeIter _ _ (lo + ((0 : Nat) : Int) * 1) ((((hi - lo).toNat : Nat) : Int) - ((0 : Nat) : Int)) 1
      rw [e1, e2]
      exact Heap.get?_push_size _ rfl
    · obtain rfl := fp b hb
      exact I1.fpOk (Nat.le_refl _) (I1.hok.fresh (Nat.le_refl _))
  | false =>
    refine wpAny_pyIter_longrange (IsRange.new ..) hs ?_
    refine ⟨(s.heap.push { cls := .type "range", data := .fields #[.int lo t, .int hi u, .int 1 v] }).objs.size, [(s.heap.push { cls := .type "range", data := .fields #[.int lo t, .int hi u, .int 1 v] }).objs.size], _, _, H, rfl,
      I1.kept (t' := tk) fun b o e => Heap.get?_push_of_some _ e, turn_long _ lo (hi - lo).toNat, ?_, fun b hb => ?_, q⟩
    · show IsLongIter _ _ (lo + ((0 : Nat) : Int) * 1) ((((hi - lo).toNat : Nat) : Int) - ((0 : Nat) : Int)) 1
      rw [e1, e2]
      exact Heap.get?_push_size _ rfl
    · obtain rfl := fp b hb
      exact I1.fpOk (Nat.le_refl _) (I1.hok.fresh (Nat.le_refl _))
def iRngL (ta : TA) : TI := fun σ H R => ta σ H fun vs H1 => ∃ i j : Int, vs = [.int i, .int j] ∧ R (Itr i (j - i).toNat) H1
theorem pi_rangeL {a b : Expr} {ta : TA} {p pos : Pos} (hg : Gl X "range") (hm : X.mg "range" = none) (ha : PA X [a, b] ta) (hs : starEach [a, b] X.env = [(false, eval a X.env), (false, eval b X.env)] := by rfl) (hs2 : starEach [b] X.env = [(false, eval b X.env)] := by rfl) :
    PI X tg (.Call (.Name "range" p) [a, b] [] pos) (iRngL ta) := by
  intro pins s σ H R I h
  refine Call_ (ld_blt I hg hm boot_range (PyProof.Rows.callWith_type1 (thn (ha pos pins s σ H _ I h) fun us s1 ⟨vs, H1, I1, r1, q1⟩ => ?_) (by rw [hs, hs2]) (by rw [hs2]; rfl)))
  obtain ⟨i, j, e, q⟩ := q1
  subst e
  cases r1 with
  | cons r rr =>
    cases rr with
    | cons r' rr =>
      cases rr
      obtain ⟨t, rfl⟩ := r
      obtain ⟨t', rfl⟩ := r'
      exact call_range_2 (range_itL I1 q)
end
section
variable {H : Hp} {bl : St} {tt : TT} {te : TE} {Fin : List V → Hp → Prop}
theorem lc_rangeL {lo : Int} {n : Nat} (Pv : Nat → List V → Hp → Prop) (h0 : Pv 0 [] H) (hn : n ≤ sizeLine)
    (hs : ∀ (i : Nat) ys H, i < n → Pv i ys H → tt (some (.int (lo + i)) :: bl) H fun c H2 => if c = true then te (some (.int (lo + i)) :: bl) H2 fun y H3 => Pv (i + 1) (ys ++ [y]) H3 else Pv (i + 1) ys H2)
    (hd : ∀ ys H, Pv n ys H → Fin ys H) :
    ∃ (W : Nat → List V → Hp → Prop) (m : Nat), W 0 [] H ∧ m ≤ sizeLine ∧ ∀ i ys H, W i ys H → ((Itr lo n).stop i H ∧ Fin ys H) ∨
      ((Itr lo n).go i H ∧ i < m ∧ ∀ x H', (Itr lo n).yld i H x H' → tt (some x :: bl) H' fun c H2 => if c = true then te (some x :: bl) H2 fun y H3 => W (i + 1) (ys ++ [y]) H3 else W (i + 1) ys H2) := by
  refine ⟨fun i ys H => i ≤ n ∧ Pv i ys H, n, ⟨Nat.zero_le _, h0⟩, hn, ?_⟩
  rintro i ys H ⟨hi, p⟩
  by_cases hlt : i < n
  · refine .inr ⟨hlt, hlt, fun x H' y => ?_⟩
    obtain ⟨e, y⟩ := y
    subst e
    subst y
    have z := hs i ys _ hlt p
    have e1 : (fun (c : Bool) (H2 : Hp) => if c = true then te (some (.int (lo + i)) :: bl) H2 fun y H3 => i + 1 ≤ n ∧ Pv (i + 1) (ys ++ [y]) H3 else i + 1 ≤ n ∧ Pv (i + 1) ys H2) = fun c H2 => if c = true then te (some (.int (lo + i)) :: bl) H2 fun y H3 => Pv (i + 1) (ys ++ [y]) H3 else Pv (i + 1) ys H2 := by
      have e2 : (i + 1 ≤ n) = True := eq_true hlt
      funext c H2
      simp only [e2, true_and]
    show tt _ _ _
    rw [e1]
    exact z
  · have e : i = n := by omega
    subst e
    exact .inl ⟨Nat.le_refl _, hd ys H p⟩
end
end L2
set_option maxHeartbeats 1000000
namespace L2
open PySem PySem.Spec PyProof.Rows Lo
section
variable {X : Cx} {k : Nat} {f C : Addr} {fd : FuncData} {ps : List Str} {sp : Sp} {m : Str} {o e : Expr} {es : List Expr} {ta : TE} {t : TA} {pos apos : Pos}
end
end L2
set_option maxHeartbeats 1000000
namespace L2
open PySem PySem.Spec PyProof.Rows Lo
theorem rc_tup {K : PySem.W.Frag} {H : Hp} {a b : Addr} {n : Nat} {us vs : List V} (ha : SqT K H a us) (hb : SqT K H b vs) (h : Paired (fun x y => EqIs K n H x y true) us vs) : RcIs K (n + 1) H (.ref a) (.ref b) true ∧ EqIs K (n + 1) H (.ref a) (.ref b) true := by
  obtain ⟨z1, z2⟩ := tupRc (e := fun _ => true) ha hb h.len fun j x y e1 e2 => by
    obtain ⟨v, ev, rv⟩ := h.get1 e1
    rw [e2] at ev
    cases ev
    exact rv
  have e : ((List.range us.length).all fun _ => true) = true := by simp
  rw [e] at z1
  exact ⟨z1, eqIs_ref z1 fun _ _ _ _ _ _ => rfl⟩
theorem op_eqV {X : Cx} (n : Nat) (hu : X.A.units + n < cLine) : OpR X (compareOp .Eq) (fun x y H Q => RcIs X.K n H x y true ∧ Q (.bl true) H) := by
  intro pins s σ H x y v u Q I rx ry h
  exact h.1 X.prog X.w X.A s v u hu I.hok I.kIn rx ry X.prog X.w X.xe _ ⟨.bl true, H, I, rfl, h.2⟩
end L2
set_option maxHeartbeats 1000000
namespace L2
open PySem PySem.Spec PyProof.Rows PySem.W Lo
section
variable {X : Cx} {CX : CXT} {k : Nat} {f C : Addr} {fd : FuncData} {ps : List Str} {sp : Sp} {E : XK} {x m : Str} {p pos apos : Pos} {e o : Expr} {es : List Expr} {ta : TE} {t : TA} {pp : List (Addr × Obj)} {cs : List (Addr × V)}
def tCallPV (X : Cx) (cs : List (Addr × V)) (i : Nat) (f : Addr) (sp : Sp) (E : XK) (t : TA) : TE := fun σ H Q => CellsS X cs σ ∧ σ[i]? = some (some (.ref f)) ∧ t σ H fun vs H1 => sp vs H1 Q E
theorem pe_callPV {i : Nat} {of : Obj} {fd0 : FuncData} (hN : X.N[i]? = some x) (hv : Vis X.env.scope x) (hf : (f, of) ∈ X.pn) (hfd : of.data = .func fd0) (F : ∀ B : Heap, X.K.In B → PinB pp cs B → FnOk X.prog X.w X.K X.mg B CX k f fd ps sp) (hr : Room k X.A) (hb : Binds X.K fd ps []) (hx : Passes CX X E) (hp : ∀ p ∈ pp, p ∈ X.pn) (ha : PA X (e :: es) t)
    (hdb : (x == ("__debug__" : Str)) = false := by decide) (hcd : (x == ("__classdict__" : Str)) = false := by decide) (he : starEach (e :: es) X.env = (false, eval e X.env) :: starEach es X.env := by rfl) (hpl : (backTo pos (starEach es X.env)).any (·.1) = false := by rfl) :
    PE X (.Call (.Name x p) (e :: es) [] pos) (tCallPV X cs i f sp E t) := by
  intro pins s σ H Q I ⟨hc, hσ, h⟩
  have at' : ∀ {σ' : St} {H' : Hp} {s' : Shared}, Inv X pins σ' H' s' → FnAt f s'.heap := fun J => by
    obtain ⟨oc, od, dd, sl⟩ := of
    cases (show dd = _ from hfd)
    exact ⟨oc, od, _, sl, (J.pin _ (List.mem_append_left _ hf)).1⟩
  refine wpAny_Call_Name_kw (thn ((pe_var (pos := p) hN hv hdb hcd) pins s σ H (fun v H' => v = .ref f ∧ H' = H) I ⟨_, hσ, rfl, rfl⟩) fun u s1 ⟨v, H1, I1, r, e1, e2⟩ => ?_)
  subst e1
  subst e2
  cases r
  refine callWith_F (first := []) (at' I1) (thn (ha pos pins s1 σ H1 _ I1 h) fun us s2 ⟨vs, H2, I2, r, q⟩ => ⟨at' I2, ?_⟩) he hpl
  exact run_fnB F hr hb hx hp I2 hc r q
end
def Itv (K : PySem.W.Frag) (a : Addr) (n : Nat) : It :=
  ⟨fun i H => ∃ xs x, SqL K H a xs ∧ xs.length = n ∧ i < n ∧ xs[n - 1 - i]? = some x, fun i H x H' => H' = H ∧ ∀ xs, SqL K H a xs → xs[n - 1 - i]? = some x, fun i _ => i = n⟩
theorem turn_rev {P : Program} {w : World} {K : PySem.W.Frag} {tg : Expr} (a it : Addr) (n : Nat) : Turn P w K tg (Itv K a n) [it] it (fun i h => h.IsRevIter it a ((n : Int) - 1 - (i : Nat))) where
  mem := by simp
  obj := fun i h st b hb => by
    have e : b = it := by simpa using hb
    subst e
    obtain ⟨o, e, c, d⟩ := st
    exact ⟨o, e, fun v z => by rw [d] at z; cases z⟩
  keep := fun i h h' st k => st.at fun o e => k it (by simp) o e
  item := by
    intro X hP hw hK hc i pins s σ H E I hf st hg
    subst hP hw hK
    obtain ⟨xs, x, hq, hn, hi, hx⟩ := hg
    obtain ⟨its, rv, p, hz⟩ := I.list hq
    obtain ⟨u, hu, ru⟩ := rv.get hx
    obtain ⟨f0, f1, f2, f3, f4, f5⟩ := hf it (by simp)
    have e1 : ((n : Int) - 1 - (i : Nat)) = ((n - 1 - i : Nat) : Int) := by omega
    have st0 : s.heap.IsRevIter it a ((n - 1 - i : Nat) : Int) := by rw [← e1]; exact st
    refine wpAny_pyNext_rev_item st0 p.isList (x := u) (by simpa using hu) fun h' st' sb => ?_
    have I1 : Inv X pins σ H { s with heap := h' } := I.turned (t' := s.toks) (fun b o hb e => (sb.2 b hb).trans e) f0 f1 f3 f4 f5
    have st2 : h'.IsRevIter it a ((n : Int) - 1 - ((i + 1 : Nat) : Int)) := by
      have e2 : ((n : Int) - 1 - ((i + 1 : Nat) : Int)) = ((n - 1 - i : Nat) : Int) - 1 := by omega
      rw [e2]
      exact st'
    obtain ⟨o, e, c, d⟩ := id st'
    exact ⟨u, rfl, go_of (s := { s with heap := h' }) e c d (by decide) ⟨x, H, I1, ru, ⟨rfl, fun ys hy => by rw [I.list_inj hy hq]; exact hx⟩, st2, fun b hb => (hf b hb).1⟩⟩
  done := by
    intro X hP hw hK hc i pins s σ H E I hf st hg
    subst hP hw hK
    obtain ⟨f0, f1, f2, f3, f4, f5⟩ := hf it (by simp)
    have st0 : s.heap.IsRevIter it a (-1) := by
      have hg : i = n := hg
      have e2 : ((n : Int) - 1 - (i : Nat)) = -1 := by omega
      rw [← e2]
      exact st
    exact wpAny_pyNext_rev_end (I.ok.hd hc) st0 fun h' eb => ⟨rfl, I.turned (t' := s.toks) (fun b o hb e => eb b o hb e) f0 f1 f3 f4 f5⟩
  self := fun _ _ _ _ _ st h => wpAny_pyIter_revIter st h
section
variable {X : Cx} {tg : Expr}
def iRev (K : PySem.W.Frag) (ta : TA) : TI := fun σ H R => ta σ H fun vs H1 => ∃ a xs, vs = [.ref a] ∧ SqL K H1 a xs ∧ R (Itv K a xs.length) H1
theorem pi_rev {a : Expr} {ta : TA} {p pos : Pos} (hg : Gl X "reversed") (hm : X.mg "reversed" = none) (ha : PA X [a] ta) (hs : starEach [a] X.env = [(false, eval a X.env)] := by rfl) : PI X tg (.Call (.Name "reversed" p) [a] [] pos) (iRev X.K ta) := by
  intro pins s σ H R I h
  refine Call_ (ld_blt I hg hm boot_reversed (PyProof.Rows.callWith_type1 (thn (ha pos pins s σ H _ I h) fun us s1 ⟨vs, H1, I1, r1, q1⟩ => ?_) hs rfl))
  obtain ⟨l, xs, e, hq, q⟩ := q1
  subst e
  obtain ⟨u, rfl, ru⟩ := r1.one
  cases ru
  obtain ⟨its, rv, pl, hz⟩ := I1.list hq
  refine call_reversed_list pl.isList ?_
  have I2 : Inv X pins σ H1 { s1 with heap := s1.heap.push (revObj l (((its.toArray).size : Int) - 1)) } := I1.kept (t' := s1.toks) fun b o e => Heap.get?_push_of_some _ e
  refine wpAny_pyIter_revIter (l := l) (i := ((its.toArray).size : Int) - 1) ⟨_, Heap.get?_push_size _ rfl, rfl, rfl⟩ ?_
  refine ⟨s1.heap.objs.size, [s1.heap.objs.size], _, _, H1, rfl, I2, turn_rev l _ xs.length, ?_, fun b hb => ?_, q⟩
  · refine ⟨_, Heap.get?_push_size _ rfl, rfl, ?_⟩
    have hl := rv.length
    show Data.fields #[.ref l, rawInt (((its.toArray).size : Int) - 1)] = Data.fields #[.ref l, rawInt ((xs.length : Int) - 1 - ((0 : Nat) : Int))]
    have e : (((its.toArray).size : Int) - 1) = ((xs.length : Int) - 1 - ((0 : Nat) : Int)) := by
      rw [List.size_toArray, hl]
      omega
    rw [e]
  · have e : b = s1.heap.objs.size := by simpa using hb
    subst e
    exact I1.fpOk (Nat.le_refl _) (I1.hok.fresh (Nat.le_refl _))
end
end L2
set_option maxHeartbeats 1000000
namespace L2
open PySem PySem.Spec PyProof.Rows PySem.W Lo
theorem for_rev {K : PySem.W.Frag} {a : Addr} {xs : List V} {g : TG} {tb : TS} {D : Ends} {σ : St} {H : Hp} (Pv : Nat → St → Hp → Prop) (h0 : Pv 0 σ H) (hl : ∀ i σ H, i ≤ xs.length → Pv i σ H → SqL K H a xs)
    (hs : ∀ i x σ H, i < xs.length → xs[xs.length - 1 - i]? = some x → Pv i σ H → g x σ H fun σ2 H2 => tb { D with nx := Pv (i + 1), ct := Pv (i + 1), bk := D.nx } σ2 H2) (hd : ∀ σ H, Pv xs.length σ H → D.nx σ H) :
    ∃ W : Nat → Nat → St → Hp → Prop, (∃ m, W 0 m σ H) ∧ ∀ i m σ H, W i m σ H →
      ((Itv K a xs.length).stop i H ∧ D.nx σ H) ∨ ((Itv K a xs.length).go i H ∧ ∃ N : St → Hp → Prop, (∀ σ' H', N σ' H' → ∃ m', m' < m ∧ W (i + 1) m' σ' H') ∧ ∀ x H', (Itv K a xs.length).yld i H x H' → g x σ H' fun σ2 H2 => tb { D with nx := N, ct := N, bk := D.nx } σ2 H2) := by
  refine ⟨fun i m σ H => m = xs.length - i ∧ i ≤ xs.length ∧ Pv i σ H, ⟨xs.length, by simp, Nat.zero_le _, h0⟩, ?_⟩
  rintro i m σ H ⟨rfl, hi, p⟩
  have q := hl i σ H hi p
  by_cases hlt : i < xs.length
  · have hx : xs[xs.length - 1 - i]? = some xs[xs.length - 1 - i] := List.getElem?_eq_getElem (by omega)
    refine .inr ⟨⟨xs, _, q, rfl, hlt, hx⟩, Pv (i + 1), fun σ' H' p' => ⟨xs.length - (i + 1), by omega, rfl, hlt, p'⟩, fun x H' y => ?_⟩
    obtain ⟨e, y⟩ := y
    subst e
    exact hs i x σ _ hlt (y xs q) p
  · have e : i = xs.length := by omega
    subst e
    exact .inl ⟨rfl, hd σ H p⟩
end L2
set_option maxHeartbeats 1000000
namespace L2
open PySem PySem.Spec PyProof.Rows PySem.W Lo
theorem kv_vals {κ : Type} {f : κ → V} {R : κ → Value → Prop} (hR : ∀ k u, R k u → RelV (f k) u) : ∀ {kvs : List (κ × V)} {vs : List (κ × Value)} {us : List Value}, KV kvs vs → us.length = vs.length → (∀ (j : Nat) u, us[j]? = some u → ∃ k x, vs[j]? = some (k, x) ∧ R k u) → Vals (kvs.map fun kv => f kv.1) us
  | _, _, [], .nil, _, _ => .nil
  | _, _, u :: us, .cons (a := p) (b := q) h t, hl, hv => by
    obtain ⟨k, x, e, r⟩ := hv 0 u rfl
    cases e
    refine .cons ?_ (kv_vals hR t (by simpa using hl) fun j v e => by simpa using hv (j + 1) v (by simpa using e))
    show RelV (f p.1) u
    rw [h.1]
    exact hR _ _ r
  | _, _, [], .cons h t, hl, _ => by cases hl
  | _, _, _ :: _, .nil, hl, _ => by cases hl
theorem key_rel {k : Key} {u : Value} (h : keyIs k u = true) : RelV (kV k) u := by
  cases k with
  | inl i => exact Value.isInt_shape h
  | inr x => exact Value.isStrOf_shape h
theorem call_list_dk {X : Cx} (hc : X.calm = true) : CallR X (.type "list") (fun xs H Q => ∃ p kvs, xs = [.ref p] ∧ H p = some (.dK kvs) ∧ ∀ l, H l = none → Q (.ref l) (upd H l (.lst (kvs.map fun kv => kV kv.1)))) := by
  intro pins s σ H xs us Q I r h
  obtain ⟨p, kvs, rfl, hq, q⟩ := h
  obtain ⟨u, rfl, rx⟩ := vals1 r
  cases rx
  obtain ⟨hz, lo, vs, rel, hD⟩ := dk_of I.hok hq
  obtain ⟨ep, hat⟩ := hD.dictAt
  have hl := rel.len
  refine kdl_call (kdl_dict lo) (I.ok.hd hc) hat (by rw [← hl]; exact hz) fun h' tk acc c kp e it => ?_
  refine ⟨.ref s.heap.objs.size, _, I.laid (t' := tk) kp (Nat.le_refl _) (show ObjOk X.prog X.w _ h' _ (.lst (kvs.map fun kv => kV kv.1)) from ⟨by rw [List.length_map]; exact hz, acc.toList, c, ?_, by simpa using e⟩), rfl, q _ (I.hok.fresh (Nat.le_refl _))⟩
  exact kv_vals (R := fun k u => keyIs k u = true) (fun _ _ z => key_rel z) rel (by rw [Array.length_toList]; exact it.1) fun j u e => it.2 j u (by rw [← Array.getElem?_toList]; exact e)
end L2
namespace Km
open PySem PySem.NumText PyProof.Rows
end Km
namespace Km
open PySem PySem.NumText L2
end Km
namespace Km
open PySem PySem.NumText L2 PyProof.Rows
end Km
set_option maxHeartbeats 1000000
namespace St
open PySem L2 Lo Km PySem.NumText
inductive Wd where
  | take | mean | sum | give | add | plus | need
  deriving DecidableEq
def wS : Wd → Str
  | .take => "take" | .mean => "mean" | .sum => "sum" | .give => "give" | .add => "add" | .plus => "plus" | .need => "need"
def wN : Wd → Str
  | .take => "TakeStep" | .mean => "MeanStep" | .sum => "SumStep" | .give => "GiveStep" | .add => "AddStep" | .plus => "PlusStep" | .need => "NeedStep"
def inN (i : Int) : Prop := 0 ≤ i ∧ i < 10 ^ 40
def inV (i : Int) : Prop := i.natAbs < 10 ^ 40
theorem inN.v {i : Int} (h : inN i) : inV i := by
  unfold inN at h
  unfold inV
  omega
def Ar : Wd → List Int → Prop
  | .take, [h, c] => inN h ∧ inN c
  | .mean, [h, c] => inN h ∧ inN c
  | .give, [h, c] => inN h ∧ inN c
  | .sum, [h, a, b] => inN h ∧ inN a ∧ inN b ∧ a ≤ b
  | .add, [h, c, v] => inN h ∧ inN c ∧ inV v
  | .plus, [v] => inV v
  | .need, [v] => inV v
  | _, _ => False
theorem Ar.len {w : Wd} {ns : List Int} (h : Ar w ns) : 1 ≤ ns.length ∧ ns.length ≤ 3 := by
  unfold Ar at h
  split at h <;> first | exact h.elim | (constructor <;> simp)
def fsOf : Wd → List Int → List (Str × V)
  | .take, [h, c] => putF "cell" (.int c) (putF "where" (.int h) [])
  | .mean, [h, c] => putF "cell" (.int c) (putF "where" (.int h) [])
  | .give, [h, c] => putF "cell" (.int c) (putF "where" (.int h) [])
  | .sum, [h, a, b] => putF "high" (.int b) (putF "low" (.int a) (putF "where" (.int h) []))
  | .add, [h, c, v] => putF "amount" (.int v) (putF "cell" (.int c) (putF "where" (.int h) []))
  | .plus, [v] => putF "amount" (.int v) []
  | .need, [v] => putF "amount" (.int v) []
  | _, _ => []
def StO (C : Wd → Addr) (H : Hp) (w : Wd) (ns : List Int) (v : V) : Prop := ∃ a dx, v = .ref a ∧ H a = some (.ins (C w) dx (fsOf w ns))
def tSt (H : Hp) (w : Wd) (ns : List Int) (v : V) : Prop := ∃ a, v = .ref a ∧ H a = some (.tup (.str (wS w) :: ns.map V.int))
end St
set_option maxHeartbeats 1000000
namespace L2
open PySem PySem.Spec PyProof.Rows
section
variable {X : Cx} {CX : CXT} {E : XK} {k : Nat} {C f : Addr} {fd : FuncData} {ps : List Str} {sp : Sp} {m : Str} {o e : Expr} {es : List Expr} {t : TA} {ty : TE} {pos apos cpos p : Pos} {mc : Value}
structure ClsFn (K : PySem.W.Frag) (C : Addr) (m : Str) (f : Addr) : Prop where
  ga : PySem.W.specialIn K (.ref C) "__getattribute__" = some (some (.builtin "type.__getattribute__"))
  rd : PySem.W.readsIn K C (.type "type") = true
  fc : PySem.W.findCls K (.ref C) (.type "type") m = some (.val (.ref f))
  hi : PySem.W.handedIn (.ref f) = true
  kp : PySem.W.keepIn K (.ref f) = true
theorem pe_clsm {pl : Sem Bool} (ho : PE X o (tC (.ref C))) (c : ClsFn X.K C m f) (F : FnOk X.prog X.w X.K X.mg X.base CX k f fd ps sp) (hr : Room k X.A) (hb : Binds X.K fd ps []) (hx : Passes CX X E) (ha : PA X (e :: es) t)
    (hst : starEach (e :: es) X.env = (false, eval e X.env) :: starEach es X.env := by rfl) (hpl : (backTo pos (starEach es X.env)).any (·.1) = false := by rfl)
    (ht : eval (.Call (.Attribute o m apos) (e :: es) [] pos) X.env = (do
      let ov ← eval o X.env
      standAt apos.atName
      let (f, first) ← holding [ov] (getMethod ov m pl)
      callWith pos f first (backTo pos (starEach (e :: es) X.env)) (backToKw pos (keywordEach [] X.env))) := by rfl) :
    PE X (.Call (.Attribute o m apos) (e :: es) [] pos) (tCall sp [] E t) := by
  intro pins s σ H Q I h
  refine PySem.W.methodCall_KW (pl := pl) (thn (ho pins s σ H (fun x H1 => x = .ref C ∧ t σ H1 fun vs H2 => sp (vs ++ []) H2 Q E) I ⟨rfl, h⟩) fun u s1 ⟨x, H1, I1, rx, ex, q⟩ => ?_) ht
  subst ex
  obtain rfl : u = Value.ref C := rx
  refine PySem.W.method_cls I1.kIn c.ga (PySem.W.cls_value I1.kIn c.rd c.fc c.hi ?_)
  have I2 : Inv X pins σ H1 { s1 with toks := s1.toks + 1 } := I1.tok _
  refine PySem.W.callWith_K (first := []) (h₀ := X.base) I.ok.mod.kin c.kp (thn (ha pos pins _ σ H1 _ I2 q) fun us s2 ⟨vs, H2, I3, r, q2⟩ => ⟨I3.kIn, ?_⟩) hst hpl
  exact run_fn (us := us) (vs := vs) F hr hb .nil hx I3 r q2
end
end L2
set_option maxHeartbeats 1000000
namespace St
open PySem L2 Lo Km PySem.NumText
structure TxW (K : PySem.W.Frag) (CW : Wd → Addr) : Prop where
  cl : ∀ w, Cls K (CW w)
  nW : ∀ w, NoAttr K (CW w) "where"
  nC : ∀ w, NoAttr K (CW w) "cell"
  nL : ∀ w, NoAttr K (CW w) "low"
  nH : ∀ w, NoAttr K (CW w) "high"
  nA : ∀ w, NoAttr K (CW w) "amount"
def isC : Wd → Bool
  | .take => true | .mean => true | .give => true | _ => false
theorem lk_hit {f : Str} {v : V} {fs : List (Str × V)} : (putF f v fs).lookup f = some v := by rw [lookup_putF, if_pos rfl]
theorem lk_miss {f g : Str} {v : V} {fs : List (Str × V)} (h : ¬ g = f) : (putF f v fs).lookup g = fs.lookup g := by rw [lookup_putF, if_neg h]
section
variable (CW : Wd → Addr)
def spWInit (w : Wd) : Sp := fun vs H Q _ => ∃ a dx ns, vs = .ref a :: (ns : List Int).map V.int ∧ Ar w ns ∧ H a = some (.ins (CW w) dx []) ∧ ∀ H', H' a = some (.ins (CW w) dx (fsOf w ns)) → Kp a H H' → Q .non H'
def spCInit : Sp := fun vs H Q _ => ∃ a dx w h c, vs = [.ref a, .int h, .int c] ∧ H a = some (.ins (CW w) dx []) ∧ ∀ H', H' a = some (.ins (CW w) dx (putF "cell" (.int c) (putF "where" (.int h) []))) → Kp a H H' → Q .non H'
end
theorem Ar.c {w : Wd} {ns : List Int} (hw : isC w = true) (h : Ar w ns) : ∃ a b, ns = [a, b] ∧ inN a ∧ inN b ∧ fsOf w ns = putF "cell" (.int b) (putF "where" (.int a) []) := by
  cases w <;> first | cases hw | skip
  all_goals
    match ns, h with
    | [a, b], h => exact ⟨a, b, rfl, h.1, h.2, rfl⟩
theorem Ar.s {ns : List Int} (h : Ar .sum ns) : ∃ a b c, ns = [a, b, c] ∧ inN a ∧ inN b ∧ inN c ∧ b ≤ c := by
  match ns, h with
  | [a, b, c], h => exact ⟨a, b, c, rfl, h⟩
theorem Ar.a {ns : List Int} (h : Ar .add ns) : ∃ a b c, ns = [a, b, c] ∧ inN a ∧ inN b ∧ inV c := by
  match ns, h with
  | [a, b, c], h => exact ⟨a, b, c, rfl, h⟩
theorem Ar.p {ns : List Int} (h : Ar .plus ns) : ∃ a, ns = [a] ∧ inV a := by
  match ns, h with
  | [a], h => exact ⟨a, rfl, h⟩
theorem Ar.n {ns : List Int} (h : Ar .need ns) : ∃ a, ns = [a] ∧ inV a := by
  match ns, h with
  | [a], h => exact ⟨a, rfl, h⟩
end St
set_option maxHeartbeats 1000000
namespace St
open PySem PySem.Spec PyProof.Rows L2 Lo Km PySem.NumText
section
variable {K : PySem.W.Frag} {H : Hp} {a : Addr} {bl : L2.St} {te : TE} {Fin : List V → Hp → Prop}
end
theorem at0 {x : V} {xs : List V} : atI (x :: xs) 0 = some x := atI_nat (j := 0) rfl
theorem wS_inj {a b : Wd} (h : wS a = wS b) : a = b := by
  cases a <;> cases b <;> first | rfl | exact absurd h (by decide +kernel)
theorem w_hit {a b : Wd} (c : decide (V.str (wS a) = V.str (wS b)) = true) : a = b := wS_inj (V.str.inj (of_decide_eq_true c))
theorem w_miss {a b : Wd} (c : ¬ decide (V.str (wS a) = V.str (wS b)) = true) : a ≠ b := fun e => c (by rw [e]; exact decide_eq_true rfl)
theorem w_need {a : Wd} (h1 : a ≠ .take) (h2 : a ≠ .mean) (h3 : a ≠ .sum) (h4 : a ≠ .give) (h5 : a ≠ .add) (h6 : a ≠ .plus) : a = .need := by
  cases a <;> first | rfl | contradiction
theorem w_of (i : Int) (h0 : 0 ≤ i) (h7 : i < 7) : ∃ w, atI ([.str "take", .str "mean", .str "sum", .str "give", .str "add", .str "plus", .str "need"] : List V) i = some (.str (wS w)) := by
  have : i = 0 ∨ i = 1 ∨ i = 2 ∨ i = 3 ∨ i = 4 ∨ i = 5 ∨ i = 6 := by omega
  rcases this with rfl | rfl | rfl | rfl | rfl | rfl | rfl
  · exact ⟨.take, rfl⟩
  · exact ⟨.mean, rfl⟩
  · exact ⟨.sum, rfl⟩
  · exact ⟨.give, rfl⟩
  · exact ⟨.add, rfl⟩
  · exact ⟨.plus, rfl⟩
  · exact ⟨.need, rfl⟩
theorem fs_no {m : Str} (h1 : ¬ m = "where") (h2 : ¬ m = "cell") (h3 : ¬ m = "low") (h4 : ¬ m = "high") (h5 : ¬ m = "amount") (w : Wd) (ns : List Int) : (fsOf w ns).lookup m = none := by
  unfold fsOf
  split <;> simp only [lk_miss h1, lk_miss h2, lk_miss h3, lk_miss h4, lk_miss h5, List.lookup_nil]
theorem mk_kp {H H' : Hp} {x dx : Addr} {o1 o2 : HO} (nx : H x = none) (nd : H dx = none) (k : Kp x (upd (upd H dx o1) x o2) H') : Same H H' := fun b o e => by
  have hx : b ≠ x := fun z => by rw [z, nx] at e; cases e
  have hd : b ≠ dx := fun z => by rw [z, nd] at e; cases e
  exact k b o hx (by rw [upd_ne hx, upd_ne hd]; exact e)
structure WI (P : Program) (w : World) (K : PySem.W.Frag) (mg : Str → Option Value) (base : Heap) (CW : Wd → Addr) (wd : Wd) where
  fI : Addr
  dI : FuncData
  ps : List Str
  M : Mk K (CW wd) fI
  ok : FnOk P w K mg base CX0 2 fI dI ps (spWInit CW wd)
  b : Binds K dI ps []
  m : mg (wN wd) = some (.ref (CW wd))
section
variable (CW : Wd → Addr)
def spLMade : Sp := fun vs H Q _ => ∃ wd ns v, vs = [v] ∧ tSt H wd ns v ∧ Ar wd ns ∧ ∀ u H', Same H H' → StO CW H' wd ns u → Q u H'
end
def spNumber : Sp := fun vs H Q _ => ∃ c k, vs = [.int c, .int k] ∧ ∀ r, inN r → Q (.int r) H
def spEither : Sp := fun vs H Q _ => ∃ c k, vs = [.int c, .int k] ∧ ∀ r, inV r → Q (.int r) H
def spLStep : Sp := fun vs H Q _ => ∃ c, vs = [.int c] ∧ ∀ wd ns v H', Ar wd ns → Same H H' → tSt H' wd ns v → Q v H'
end St
set_option maxHeartbeats 4000000
namespace K23
open PySem L2 Lo
def top (i : Nat) : Stmt := PySem.Challenge.pw_pactroom_k23_a_step_undone.main.body.getD i (.Pass ⟨0, 0, 0, 0⟩)
abbrev m_Step_back : Stmt := inClass (top 5) 3
abbrev m_CellStep_init : Stmt := inClass (top 6) 0
abbrev m_TakeStep_step_done : Stmt := inClass (top 7) 1
abbrev m_MeanStep_step_done : Stmt := inClass (top 8) 1
abbrev m_SumStep_init : Stmt := inClass (top 9) 0
abbrev m_SumStep_step_done : Stmt := inClass (top 9) 3
abbrev m_GiveStep_step_done : Stmt := inClass (top 10) 1
abbrev m_AddStep_init : Stmt := inClass (top 11) 0
abbrev m_AddStep_step_done : Stmt := inClass (top 11) 2
abbrev m_AddStep_back : Stmt := inClass (top 11) 3
abbrev m_PlusStep_init : Stmt := inClass (top 12) 0
abbrev m_PlusStep_step_done : Stmt := inClass (top 12) 1
abbrev m_NeedStep_init : Stmt := inClass (top 13) 0
abbrev m_NeedStep_step_done : Stmt := inClass (top 13) 1
abbrev s__law_cell : Stmt := top 15
abbrev s__law_whole : Stmt := top 16
abbrev s__law_mixed : Stmt := top 17
abbrev s__law_number : Stmt := top 18
abbrev s__law_either : Stmt := top 19
abbrev s__law_step : Stmt := top 20
abbrev s__law_made : Stmt := top 22
abbrev s__law_close : Stmt := top 23
abbrev s__law_put : Stmt := top 24
abbrev s__law_own : Stmt := top 25
abbrev s_law : Stmt := top 26
theorem sc_Step_back : FnScope ["self", "value_of"] ["self", "value_of"] (defScope m_Step_back) := ⟨rfl, rfl, rfl, by decide +kernel, rfl, by decide +kernel, by decide +kernel⟩
theorem sc_CellStep_init : FnScope ["self", "where", "cell"] ["self", "where", "cell"] (defScope m_CellStep_init) := ⟨rfl, rfl, rfl, by decide +kernel, rfl, by decide +kernel, by decide +kernel⟩
theorem sc_TakeStep_step_done : FnScope ["self", "hand", "value_of"] ["self", "hand", "value_of"] (defScope m_TakeStep_step_done) := ⟨rfl, rfl, rfl, by decide +kernel, rfl, by decide +kernel, by decide +kernel⟩
theorem sc_MeanStep_step_done : FnScope ["self", "hand", "value_of"] ["self", "hand", "value_of"] (defScope m_MeanStep_step_done) := ⟨rfl, rfl, rfl, by decide +kernel, rfl, by decide +kernel, by decide +kernel⟩
theorem sc_SumStep_init : FnScope ["self", "where", "low", "high"] ["self", "where", "low", "high"] (defScope m_SumStep_init) := ⟨rfl, rfl, rfl, by decide +kernel, rfl, by decide +kernel, by decide +kernel⟩
theorem sc_SumStep_step_done : FnScope ["self", "hand", "value_of"] ["self", "hand", "value_of"] (defScope m_SumStep_step_done) := ⟨rfl, rfl, rfl, by decide +kernel, rfl, by decide +kernel, by decide +kernel⟩
def cm_SumStep_step_done_0 : Scope := match defBody m_SumStep_step_done with
  | .Return (some (.Tuple [(.Call _ [.ListComp _ _ sc _] _ _), _] _ _)) _ :: _ => sc
  | _ => default
theorem sb_SumStep_step_done_0 : BlkScope ["self", "hand", "value_of"] (defScope m_SumStep_step_done) cm_SumStep_step_done_0 "cell" ["cell", "value_of"] [2] := ⟨by decide +kernel, rfl, by decide +kernel, rfl, by decide +kernel, by decide +kernel, rfl, rfl, by decide +kernel⟩
theorem sc_GiveStep_step_done : FnScope ["self", "hand", "value_of"] ["self", "hand", "value_of"] (defScope m_GiveStep_step_done) := ⟨rfl, rfl, rfl, by decide +kernel, rfl, by decide +kernel, by decide +kernel⟩
theorem sc_AddStep_init : FnScope ["self", "where", "cell", "amount"] ["self", "where", "cell", "amount"] (defScope m_AddStep_init) := ⟨rfl, rfl, rfl, by decide +kernel, rfl, by decide +kernel, by decide +kernel⟩
theorem sc_AddStep_step_done : FnScope ["self", "hand", "value_of"] ["self", "hand", "value_of"] (defScope m_AddStep_step_done) := ⟨rfl, rfl, rfl, by decide +kernel, rfl, by decide +kernel, by decide +kernel⟩
theorem sc_AddStep_back : FnScope ["self", "value_of"] ["self", "value_of"] (defScope m_AddStep_back) := ⟨rfl, rfl, rfl, by decide +kernel, rfl, by decide +kernel, by decide +kernel⟩
theorem sc_PlusStep_init : FnScope ["self", "amount"] ["self", "amount"] (defScope m_PlusStep_init) := ⟨rfl, rfl, rfl, by decide +kernel, rfl, by decide +kernel, by decide +kernel⟩
theorem sc_PlusStep_step_done : FnScope ["self", "hand", "value_of"] ["self", "hand", "value_of"] (defScope m_PlusStep_step_done) := ⟨rfl, rfl, rfl, by decide +kernel, rfl, by decide +kernel, by decide +kernel⟩
theorem sc_NeedStep_init : FnScope ["self", "amount"] ["self", "amount"] (defScope m_NeedStep_init) := ⟨rfl, rfl, rfl, by decide +kernel, rfl, by decide +kernel, by decide +kernel⟩
theorem sc_NeedStep_step_done : FnScope ["self", "hand", "value_of"] ["self", "hand", "value_of"] (defScope m_NeedStep_step_done) := ⟨rfl, rfl, rfl, by decide +kernel, rfl, by decide +kernel, by decide +kernel⟩
theorem sc__law_cell : FnScope ["_law_script", "_law_k"] ["_law_script", "_law_k"] (defScope s__law_cell) := ⟨rfl, rfl, rfl, by decide +kernel, rfl, by decide +kernel, by decide +kernel⟩
theorem sc__law_whole : FnScope ["_law_found"] ["_law_found"] (defScope s__law_whole) := ⟨rfl, rfl, rfl, by decide +kernel, rfl, by decide +kernel, by decide +kernel⟩
theorem sc__law_mixed : FnScope ["_law_cell_here", "_law_k", "_law_number_here"] ["_law_cell_here", "_law_k"] (defScope s__law_mixed) := ⟨rfl, rfl, rfl, by decide +kernel, rfl, by decide +kernel, by decide +kernel⟩
theorem sc__law_number : FnScope ["_law_cell_here", "_law_k", "_law_number_here", "_law_j"] ["_law_cell_here", "_law_k"] (defScope s__law_number) := ⟨rfl, rfl, rfl, by decide +kernel, rfl, by decide +kernel, by decide +kernel⟩
theorem sc__law_either : FnScope ["_law_cell_here", "_law_k"] ["_law_cell_here", "_law_k"] (defScope s__law_either) := ⟨rfl, rfl, rfl, by decide +kernel, rfl, by decide +kernel, by decide +kernel⟩
theorem sc__law_step : FnScope ["_law_cell_here", "_law_word", "_law_where", "_law_one", "_law_other"] ["_law_cell_here"] (defScope s__law_step) := ⟨rfl, rfl, rfl, by decide +kernel, rfl, by decide +kernel, by decide +kernel⟩
theorem sc__law_made : FnScope ["_law_step_here"] ["_law_step_here"] (defScope s__law_made) := ⟨rfl, rfl, rfl, by decide +kernel, rfl, by decide +kernel, by decide +kernel⟩
theorem sc__law_close : FnScope ["_law_step_here", "_law_cell_here", "_law_hand", "_law_at"] ["_law_step_here", "_law_cell_here", "_law_hand"] (defScope s__law_close) := ⟨rfl, rfl, rfl, by decide +kernel, rfl, by decide +kernel, by decide +kernel⟩
theorem sc__law_put : FnScope ["_law_values", "_law_changes", "_law_own_here", "_law_pair"] ["_law_values", "_law_changes", "_law_own_here"] (defScope s__law_put) := ⟨rfl, rfl, rfl, by decide +kernel, rfl, by decide +kernel, by decide +kernel⟩
theorem sc__law_own : FnScope ["_law_step_here"] ["_law_step_here"] (defScope s__law_own) := ⟨rfl, rfl, rfl, by decide +kernel, rfl, by decide +kernel, by decide +kernel⟩
theorem sc_law : FnScope ["_law_script", "_law_salt", "_law_hand", "_law_values", "_law_more", "_law_done", "_law_value", "_law_cell_here", "_law_step_here", "_law_made_here", "_law_changes", "_law_at"] ["_law_script"] (defScope s_law) := ⟨rfl, rfl, rfl, by decide +kernel, rfl, by decide +kernel, by decide +kernel⟩
end K23
set_option maxHeartbeats 4000000
namespace K23
open PySem L2 Lo St
section
variable {P : Program} {w : World} {K : PySem.W.Frag} {mg : Str → Option Value} {base : Heap} {f CL : Addr} {fd : FuncData} {C : Kd → Addr} {CW : Wd → Addr}
theorem kp2 {a : Addr} {H : Hp} {o1 o2 : HO} : Kp a H (upd (upd H a o1) a o2) := fun b o n e => by rw [upd_ne n, upd_ne n]; exact e
theorem ok_cinit (F : Fun K "__init__" "CellStep.__init__" m_CellStep_init f fd) (T : TxW K CW) : FnOk P w K mg base CX0 1 f fd ["self", "where", "cell"] (spCInit CW) := by
  refine F.ok sc_CellStep_init (fun vs H Q E h => ?_) (fun cdv A outer s H vs Q E hr h => ?_)
  · obtain ⟨a, dx, wd, x, y, rfl, _⟩ := h
    rfl
  obtain ⟨a, dx, wd, x, y, rfl, ha, q⟩ := h
  refine ⟨_, pss_cons (ps_fld (pv 0) (pv 1) rfl) (pss_one (ps_fld (pv 0) (pv 2) rfl)), ?_⟩
  exact ⟨_, rfl, _, rfl, a, CW wd, dx, [], rfl, ha, T.cl wd, T.nW wd, (by show 0 < 1000; decide), _, rfl, _, rfl, a, CW wd, dx, _, rfl, upd_same, T.cl wd, T.nC wd, (by show 1 < 1000; decide), q _ upd_same kp2⟩
theorem cinit_w {wd : Wd} (hw : isC wd = true) {vs : List V} {H : Hp} {Q : VK} {E : XK} (h : spWInit CW wd vs H Q E) : spCInit CW vs H Q E := by
  obtain ⟨a, dx, ns, rfl, ar, ha, q⟩ := h
  obtain ⟨x, y, rfl, _, _, e⟩ := ar.c hw
  exact ⟨a, dx, wd, x, y, rfl, ha, fun H' h1 h2 => q H' (by rw [e]; exact h1) h2⟩
theorem ok_sinit (F : Fun K "__init__" "SumStep.__init__" m_SumStep_init f fd) (T : TxW K CW) : FnOk P w K mg base CX0 1 f fd ["self", "where", "low", "high"] (spWInit CW .sum) := by
  refine F.ok sc_SumStep_init (fun vs H Q E h => ?_) (fun cdv A outer s H vs Q E hr h => ?_)
  · obtain ⟨a, dx, ns, rfl, ar, _⟩ := h
    obtain ⟨x, y, z, rfl, _⟩ := ar.s
    rfl
  obtain ⟨a, dx, ns, rfl, ar, ha, q⟩ := h
  obtain ⟨x, y, z, rfl, _⟩ := ar.s
  refine ⟨_, pss_cons (ps_fld (pv 0) (pv 1) rfl) (pss_cons (ps_fld (pv 0) (pv 2) rfl) (pss_one (ps_fld (pv 0) (pv 3) rfl))), ?_⟩
  exact ⟨_, rfl, _, rfl, a, CW .sum, dx, [], rfl, ha, T.cl _, T.nW _, (by show 0 < 1000; decide), _, rfl, _, rfl, a, CW .sum, dx, _, rfl, upd_same, T.cl _, T.nL _, (by show 1 < 1000; decide), _, rfl, _, rfl, a, CW .sum, dx, _, rfl, upd_same, T.cl _, T.nH _, Nat.lt_of_le_of_lt (length_putF _ _ _) (by show 1 + 1 < 1000; decide), q _ upd_same fun b o n e => by rw [upd_ne n, upd_ne n, upd_ne n]; exact e⟩
theorem ok_ainit {CC fC : Addr} {dC : FuncData} (F : Fun K "__init__" "AddStep.__init__" m_AddStep_init f fd) (T : TxW K CW) (mgC : mg "CellStep" = some (.ref CC)) (cf : ClsFn K CC "__init__" fC) (GC : FnOk P w K mg base CX0 1 fC dC ["self", "where", "cell"] (spCInit CW)) (bC : Binds K dC ["self", "where", "cell"] []) :
    FnOk P w K mg base CX0 2 f fd ["self", "where", "cell", "amount"] (spWInit CW .add) := by
  refine F.ok sc_AddStep_init (fun vs H Q E h => ?_) (fun cdv A outer s H vs Q E hr h => ?_)
  · obtain ⟨a, dx, ns, rfl, ar, _⟩ := h
    obtain ⟨x, y, z, rfl, _⟩ := ar.a
    rfl
  obtain ⟨a, dx, ns, rfl, ar, ha, q⟩ := h
  obtain ⟨x, y, z, rfl, _⟩ := ar.a
  refine ⟨_, pss_cons (ps_expr (pe_clsm (pe_glob (v := .ref CC) rfl mgC rfl) cf GC hr bC pass0 (pa_cons (pv 0) (pa_cons (pv 1) (pa_cons (pv 2) pa_nil))))) (pss_one (ps_fld (pv 0) (pv 3) rfl)), ?_⟩
  refine ⟨_, rfl, _, rfl, _, rfl, a, dx, .add, x, y, rfl, ha, fun H' h1 h2 => ?_⟩
  exact ⟨_, rfl, _, rfl, a, CW .add, dx, _, rfl, h1, T.cl _, T.nA _, Nat.lt_of_le_of_lt (length_putF _ _ _) (by show 1 + 1 < 1000; decide), q _ upd_same fun b o n e => by rw [upd_ne n]; exact h2 b o n e⟩
theorem ok_pinit (F : Fun K "__init__" "PlusStep.__init__" m_PlusStep_init f fd) (T : TxW K CW) : FnOk P w K mg base CX0 1 f fd ["self", "amount"] (spWInit CW .plus) := by
  refine F.ok sc_PlusStep_init (fun vs H Q E h => ?_) (fun cdv A outer s H vs Q E hr h => ?_)
  · obtain ⟨a, dx, ns, rfl, ar, _⟩ := h
    obtain ⟨x, rfl, _⟩ := ar.p
    rfl
  obtain ⟨a, dx, ns, rfl, ar, ha, q⟩ := h
  obtain ⟨x, rfl, _⟩ := ar.p
  refine ⟨_, pss_one (ps_fld (pv 0) (pv 1) rfl), ?_⟩
  exact ⟨_, rfl, _, rfl, a, CW .plus, dx, [], rfl, ha, T.cl _, T.nA _, (by show 0 < 1000; decide), q _ upd_same kp_upd⟩
theorem ok_ninit (F : Fun K "__init__" "NeedStep.__init__" m_NeedStep_init f fd) (T : TxW K CW) : FnOk P w K mg base CX0 1 f fd ["self", "amount"] (spWInit CW .need) := by
  refine F.ok sc_NeedStep_init (fun vs H Q E h => ?_) (fun cdv A outer s H vs Q E hr h => ?_)
  · obtain ⟨a, dx, ns, rfl, ar, _⟩ := h
    obtain ⟨x, rfl, _⟩ := ar.n
    rfl
  obtain ⟨a, dx, ns, rfl, ar, ha, q⟩ := h
  obtain ⟨x, rfl, _⟩ := ar.n
  refine ⟨_, pss_one (ps_fld (pv 0) (pv 1) rfl), ?_⟩
  exact ⟨_, rfl, _, rfl, a, CW .need, dx, [], rfl, ha, T.cl _, T.nA _, (by show 0 < 1000; decide), q _ upd_same kp_upd⟩
end
end K23
set_option maxHeartbeats 4000000
namespace K23
open PySem L2 Lo St
section
variable {P : Program} {w : World} {K : PySem.W.Frag} {mg : Str → Option Value} {base : Heap} {f CL : Addr} {fd : FuncData} {C : Kd → Addr} {CW : Wd → Addr}
def mixN (c k : Int) : Int := ((c + 7919 * k + 1) * 48271 % 2147483647) * (((c + 7919 * k + 1) * 48271 % 2147483647) / 1009 + 69621) % 2147483647
theorem mix0 (c k : Int) : 0 ≤ mixN c k := Int.emod_nonneg _ (by decide)
theorem mix1 (c k : Int) : mixN c k < 2147483647 := Int.emod_lt_of_pos _ (by decide)
def numL (c k : Int) : Nat → Int
  | 0 => mixN c k
  | i + 1 => numL c k i * (1 + mixN c (k + 17 * (i + 1)))
theorem nl_step (c k : Int) (i : Nat) : numL c k i * (1 + mixN c (k + 17 * (0 + i + 1))) = numL c k (i + 1) := by rw [Int.zero_add]; rfl
def numN (c k : Int) : Int := if mixN c k % 23 = 0 then 10 ^ 40 - 1 else if mixN c k % 3 = 0 then mixN c k / 3 % 9 else if mixN c k % 3 = 1 then mixN c k / 3 else numL c k 4 % 10 ^ 40
def eiN (c k : Int) : Int := if mixN c (k + 5) % 2 = 1 then 0 - numN c k else numN c k
theorem num_in' (c k : Int) : inN (numN c k) := by
  have h0 := mix0 c k
  have h1 := mix1 c k
  have hbig : (2147483647 : Int) ≤ 10 ^ 40 := by decide +kernel
  unfold numN
  split
  · exact ⟨by decide +kernel, by decide +kernel⟩
  split
  · exact ⟨Int.emod_nonneg _ (by decide), Int.lt_of_lt_of_le (Int.emod_lt_of_pos _ (by decide)) (by decide +kernel)⟩
  split
  · exact ⟨Int.ediv_nonneg h0 (by decide), Int.lt_of_lt_of_le (show mixN c k / 3 < 2147483647 by omega) hbig⟩
  · exact ⟨Int.emod_nonneg _ (by decide +kernel), Int.emod_lt_of_pos _ (by decide +kernel)⟩
theorem ei_in (c k : Int) : inV (eiN c k) := by
  have h := (num_in' c k).v
  unfold eiN
  split
  · unfold St.inV at h ⊢
    omega
  · exact h
def spMixX : Sp := fun vs H Q _ => ∃ c k, vs = [.int c, .int k] ∧ Q (.int (mixN c k)) H
def spNumX : Sp := fun vs H Q _ => ∃ c k, vs = [.int c, .int k] ∧ Q (.int (numN c k)) H
def spEiX : Sp := fun vs H Q _ => ∃ c k, vs = [.int c, .int k] ∧ Q (.int (eiN c k)) H
theorem ok_mixed (F : Fun K "_law_mixed" "_law_mixed" s__law_mixed f fd) : FnOk P w K mg base CX0 1 f fd ["_law_cell_here", "_law_k"] spMixX := by
  refine F.ok sc__law_mixed (fun vs H Q E h => ?_) (fun cdv A outer s H vs Q E hr h => ?_)
  · obtain ⟨c, k, rfl, _⟩ := h
    rfl
  obtain ⟨c, k, rfl, q⟩ := h
  have nd := sc__law_mixed.nd
  refine ⟨_, pss_cons (ps_set (i := 2) nd rfl (Or.inl rfl) (pe_op op_mod (pe_op op_mul (pe_op op_add (pe_op op_add (pv 0) (pe_op op_mul pe_int (pv 1))) pe_int) pe_int) pe_int))
    (pss_one (ps_ret (pe_op op_mod (pe_op op_mul (pv 2) (pe_op op_add (pe_op op_fdiv (pv 2) pe_int) pe_int)) pe_int))), ?_⟩
  refine ⟨_, rfl, _, rfl, _, _, rfl, rfl, .inl ⟨by decide +kernel, by decide +kernel⟩, _, _, rfl, rfl, _, _, rfl, rfl, _, _, rfl, rfl, .inr ⟨by decide +kernel, by decide +kernel⟩, _, _, rfl, rfl, (by show (0 : Int) < 2147483647; decide), ?_⟩
  have h0 : 0 ≤ (c + 7919 * k + 1) * 48271 % 2147483647 := Int.emod_nonneg _ (by decide)
  have h1 : (c + 7919 * k + 1) * 48271 % 2147483647 < 2147483647 := Int.emod_lt_of_pos _ (by decide)
  exact ⟨_, rfl, _, rfl, _, _, rfl, rfl, ⟨by decide, by decide⟩, _, _, rfl, rfl, _, _, rfl, rfl, .inl ⟨by omega, by omega⟩, _, _, rfl, rfl, (by show (0 : Int) < 2147483647; decide), q⟩
theorem ok_number (F : Fun K "_law_number" "_law_number" s__law_number f fd) (B : TxB mg) (GX : GF P w K mg base CX0 1 "_law_mixed" ["_law_cell_here", "_law_k"] spMixX) : FnOk P w K mg base CX0 2 f fd ["_law_cell_here", "_law_k"] spNumX := by
  refine F.ok sc__law_number (fun vs H Q E h => ?_) (fun cdv A outer s H vs Q E hr h => ?_)
  · obtain ⟨c, k, rfl, _⟩ := h
    rfl
  obtain ⟨c, k, rfl, q⟩ := h
  have nd := sc__law_number.nd
  refine ⟨_, pss_cons (ps_set (i := 2) nd rfl (Or.inl rfl) (pc GX hr (pa_cons (pv 0) (pa_cons (pv 1) pa_nil))))
    (pss_cons (ps_if (pt_cmpR op_eq (pe_op op_mod (pv 2) pe_int) pe_int (nomark _)) (pss_one (ps_ret (pe_op op_sub (pe_op op_pow pe_int pe_int) pe_int))) pss_nil)
    (pss_cons (ps_if (pt_cmpR op_eq (pe_op op_mod (pv 2) pe_int) pe_int (nomark _)) (pss_one (ps_ret (pe_op op_mod (pe_op op_fdiv (pv 2) pe_int) pe_int))) pss_nil)
    (pss_cons (ps_if (pt_cmpR op_eq (pe_op op_mod (pv 2) pe_int) pe_int (nomark _)) (pss_one (ps_ret (pe_op op_fdiv (pv 2) pe_int))) pss_nil)
    (pss_cons (ps_for PassesOwn.never rfl (pi_range1 rfl B.range (pa_cons pe_int pa_nil)) (pg_name (i := 3) nd rfl (Or.inl rfl))
      (pss_one (ps_set (i := 2) nd rfl (Or.inl rfl) (pe_op op_mul (pv 2) (pe_op op_add pe_int (pc GX hr (pa_cons (pv 0) (pa_cons (pe_op op_add (pv 1) (pe_op op_mul pe_int (pe_op op_add (pv 3) pe_int))) pa_nil))))))))
    (pss_one (ps_ret (pe_op op_mod (pv 2) (pe_op op_pow pe_int pe_int)))))))), ?_⟩
  refine ⟨_, rfl, _, rfl, _, _, rfl, ?_⟩
  have inj : ∀ {a b : Int}, decide (V.int a = V.int b) = true → a = b := fun h => V.int.inj (of_decide_eq_true h)
  have ninj : ∀ {a b : Int}, ¬ decide (V.int a = V.int b) = true → ¬ a = b := fun h z => h (decide_eq_true (congrArg V.int z))
  refine ⟨_, rfl, _, _, rfl, rfl, (by show (0 : Int) < 23; decide), rfl, _, rfl, ite2 (fun c1 => ?_) (fun c1 => ?_)⟩
  · have e : numN c k = 10 ^ 40 - 1 := if_pos (inj c1)
    rw [e] at q
    exact ⟨_, _, rfl, rfl, ⟨by decide, by decide, by decide⟩, _, _, rfl, rfl, q⟩
  refine ⟨_, rfl, _, _, rfl, rfl, (by show (0 : Int) < 3; decide), rfl, _, rfl, ite2 (fun c2 => ?_) (fun c2 => ?_)⟩
  · have e : numN c k = mixN c k / 3 % 9 := (if_neg (ninj c1)).trans (if_pos (inj c2))
    rw [e] at q
    exact ⟨_, rfl, _, _, rfl, rfl, ⟨by decide, by decide⟩, _, _, rfl, rfl, (by show (0 : Int) < 9; decide), q⟩
  refine ⟨_, rfl, _, _, rfl, rfl, (by show (0 : Int) < 3; decide), rfl, _, rfl, ite2 (fun c3 => ?_) (fun c3 => ?_)⟩
  · have e : numN c k = mixN c k / 3 := (if_neg (ninj c1)).trans ((if_neg (ninj c2)).trans (if_pos (inj c3)))
    rw [e] at q
    exact ⟨_, rfl, _, _, rfl, rfl, ⟨by decide, by decide⟩, q⟩
  have e : numN c k = numL c k 4 % 10 ^ 40 := (if_neg (ninj c1)).trans ((if_neg (ninj c2)).trans (if_neg (ninj c3)))
  rw [e] at q
  refine ⟨4, rfl, by decide, by decide, ?_⟩
  refine for_range (n := 4) (fun i σ H' => H' = H ∧ ∃ x3, σ = [some (.int c), some (.int k), some (.int (numL c k i)), x3]) ⟨rfl, none, rfl⟩ ?_ ?_
  · rintro i σ H1 hi ⟨rfl, x3, rfl⟩
    have g0 := mix0 c (k + 17 * (0 + i + 1))
    have g1 := mix1 c (k + 17 * (0 + i + 1))
    exact ⟨_, rfl, _, rfl, _, rfl, _, rfl, _, _, rfl, rfl, _, _, rfl, rfl, .inl ⟨by decide +kernel, by decide +kernel⟩, _, _, rfl, rfl, _, _, rfl, _, _, rfl, rfl, _, _, rfl, rfl, .inr ⟨by omega, by omega⟩, rfl, some (.int (0 + i)), by rw [← nl_step]; rfl⟩
  · rintro σ H1 ⟨rfl, x3, rfl⟩
    exact ⟨_, rfl, _, _, rfl, rfl, ⟨by decide, by decide, by decide⟩, _, _, rfl, rfl, (by show (0 : Int) < 10 ^ 40; decide +kernel), q⟩
theorem ok_either (F : Fun K "_law_either" "_law_either" s__law_either f fd) (GX : GF P w K mg base CX0 1 "_law_mixed" ["_law_cell_here", "_law_k"] spMixX) (GN : GF P w K mg base CX0 2 "_law_number" ["_law_cell_here", "_law_k"] spNumX) : FnOk P w K mg base CX0 3 f fd ["_law_cell_here", "_law_k"] spEiX := by
  refine F.ok sc__law_either (fun vs H Q E h => ?_) (fun cdv A outer s H vs Q E hr h => ?_)
  · obtain ⟨c, k, rfl, _⟩ := h
    rfl
  obtain ⟨c, k, rfl, q⟩ := h
  refine ⟨_, pss_cons (ps_if (pt_cmpR op_eq (pe_op op_mod (pc GX hr (pa_cons (pv 0) (pa_cons (pe_op op_add (pv 1) pe_int) pa_nil))) pe_int) pe_int (nomark _)) (pss_one (ps_ret (pe_op op_sub pe_int (pc GN hr (pa_cons (pv 0) (pa_cons (pv 1) pa_nil)))))) pss_nil)
    (pss_one (ps_ret (pc GN hr (pa_cons (pv 0) (pa_cons (pv 1) pa_nil))))), ?_⟩
  refine ⟨_, rfl, _, rfl, _, _, rfl, rfl, _, _, rfl, _, _, rfl, rfl, (by show (0 : Int) < 2; decide), rfl, _, rfl, ite2 (fun c1 => ?_) (fun c1 => ?_)⟩
  · have e : eiN c k = 0 - numN c k := if_pos (V.int.inj (of_decide_eq_true c1))
    rw [e] at q
    exact ⟨_, rfl, _, rfl, _, _, rfl, _, _, rfl, rfl, q⟩
  · have e : eiN c k = numN c k := if_neg fun z => c1 (decide_eq_true (congrArg V.int z))
    rw [e] at q
    exact ⟨_, rfl, _, rfl, _, _, rfl, q⟩
def gf_imp {CX : CXT} {k : Nat} {x : Str} {ps : List Str} {sp sp' : Sp} (G : GF P w K mg base CX k x ps sp) (h : ∀ vs H Q E, sp' vs H Q E → sp vs H Q E) : GF P w K mg base CX k x ps sp' := ⟨G.f, G.fd, G.ok.imp h, G.bd, G.kp, G.mgx⟩
theorem num_w {vs : List V} {H : Hp} {Q : VK} {E : XK} (h : spNumber vs H Q E) : spNumX vs H Q E := by
  obtain ⟨c, k, e, q⟩ := h
  exact ⟨c, k, e, q _ (num_in' c k)⟩
theorem ei_w {vs : List V} {H : Hp} {Q : VK} {E : XK} (h : spEither vs H Q E) : spEiX vs H Q E := by
  obtain ⟨c, k, e, q⟩ := h
  exact ⟨c, k, e, q _ (ei_in c k)⟩
theorem ok_lstep (F : Fun K "_law_step" "_law_step" s__law_step f fd) (B : TxB mg) (hmin : mg "min" = none) (GN : GF P w K mg base CX0 2 "_law_number" ["_law_cell_here", "_law_k"] spNumber) (GE : GF P w K mg base CX0 3 "_law_either" ["_law_cell_here", "_law_k"] spEither) : FnOk P w K mg base CX0 4 f fd ["_law_cell_here"] spLStep := by
  refine F.ok sc__law_step (fun vs H Q E h => ?_) (fun cdv A outer s H vs Q E hr h => ?_)
  · obtain ⟨c, rfl, _⟩ := h
    rfl
  obtain ⟨c, rfl, q⟩ := h
  have nd := sc__law_step.nd
  obtain ⟨wd, hw⟩ := w_of (c % 7) (Int.emod_nonneg _ (by decide)) (Int.emod_lt_of_pos _ (by decide))
  refine ⟨_, pss_cons (ps_set (i := 1) nd rfl (Or.inl rfl) (pe_ix (r := rIxL K) ix_list (pe_lst (pa_cons pe_str (pa_cons pe_str (pa_cons pe_str (pa_cons pe_str (pa_cons pe_str (pa_cons pe_str (pa_cons pe_str pa_nil)))))))) (pe_op op_mod (pv 0) pe_int) (fun _ _ => rfl)))
    (pss_cons (ps_set (i := 2) nd rfl (Or.inl rfl) (pc GN hr (pa_cons (pv 0) (pa_cons pe_int pa_nil))))
    (pss_cons (ps_set (i := 3) nd rfl (Or.inl rfl) (pc GN hr (pa_cons (pv 0) (pa_cons pe_int pa_nil))))
    (pss_cons (ps_set (i := 4) nd rfl (Or.inl rfl) (pc GN hr (pa_cons (pv 0) (pa_cons pe_int pa_nil))))
    (pss_cons (ps_if (PW.pt (pw_or (pt_cmpR op_eq (pv 1) pe_str (nomark _)) (pw_or1 (pt_cmpR op_eq (pv 1) pe_str (nomark _))))) (pss_one (ps_ret (pe_tup (pa_cons (pv 1) (pa_cons (pc GE hr (pa_cons (pv 0) (pa_cons pe_int pa_nil))) pa_nil))))) pss_nil)
    (pss_cons (ps_if (pt_cmpR op_eq (pv 1) pe_str (nomark _)) (pss_one (ps_ret (pe_tup (pa_cons (pv 1) (pa_cons (pv 2) (pa_cons (pv 3) (pa_cons (pc GE hr (pa_cons (pv 0) (pa_cons pe_int pa_nil))) pa_nil))))))) pss_nil)
    (pss_cons (ps_if (pt_cmpR op_eq (pv 1) pe_str (nomark _)) (pss_one (ps_ret (pe_tup (pa_cons (pv 1) (pa_cons (pv 2) (pa_cons (pe_callB (call_min2 rfl) rfl hmin PyProof.Rows.boot_min (pa_cons (pv 3) (pa_cons (pv 4) pa_nil))) (pa_cons (pe_callB (call_max2 rfl) rfl B.max PyProof.Rows.boot_max (pa_cons (pv 3) (pa_cons (pv 4) pa_nil))) pa_nil))))))) pss_nil)
    (pss_one (ps_ret (pe_tup (pa_cons (pv 1) (pa_cons (pv 2) (pa_cons (pv 3) pa_nil))))))))))))  , ?_⟩
  refine ⟨(by show 7 ≤ sizeLine; decide), fun l hl => ?_⟩
  have s1 : Same H _ := same_new (o := .lst [.str "take", .str "mean", .str "sum", .str "give", .str "add", .str "plus", .str "need"]) hl
  refine ⟨_, rfl, _, _, rfl, rfl, (by show (0 : Int) < 7; decide), l, _, _, _, rfl, rfl, SqL.of upd_same, hw, ?_⟩
  generalize (upd H l _) = H1 at s1 ⊢
  refine ⟨_, rfl, _, _, rfl, fun x hx => ⟨_, rfl, _, _, rfl, fun y hy => ⟨_, rfl, _, _, rfl, fun z hz => ?_⟩⟩⟩
  have pn : ∀ (hw : wd = .plus ∨ wd = .need) (r : Int), inV r → Ar wd [r] := fun hw r hr => by rcases hw with rfl | rfl <;> exact hr
  refine ⟨_, rfl, rfl, _, rfl, ite2 (fun c => iteT ?_) (fun c1 => ⟨_, rfl, rfl, _, rfl, ite2 (fun c => ?_) (fun c2 => ?_)⟩)⟩
  · exact ⟨_, rfl, _, rfl, _, _, rfl, fun r hr => ⟨(by show 2 ≤ sizeLine; decide), fun t ht => q wd [r] _ _ (pn (.inl (w_hit c)) r hr) (s1.trans (same_new ht)) ⟨t, rfl, upd_same⟩⟩⟩
  · exact ⟨_, rfl, _, rfl, _, _, rfl, fun r hr => ⟨(by show 2 ≤ sizeLine; decide), fun t ht => q wd [r] _ _ (pn (.inr (w_hit c)) r hr) (s1.trans (same_new ht)) ⟨t, rfl, upd_same⟩⟩⟩
  refine ⟨_, rfl, rfl, _, rfl, ite2 (fun c => ?_) (fun c3 => ?_)⟩
  · obtain rfl : wd = .add := w_hit c
    exact ⟨_, rfl, _, rfl, _, rfl, _, rfl, _, _, rfl, fun r hr => ⟨(by show 4 ≤ sizeLine; decide), fun t ht => q .add [x, y, r] _ _ ⟨hx, hy, hr⟩ (s1.trans (same_new ht)) ⟨t, rfl, upd_same⟩⟩⟩
  refine ⟨_, rfl, rfl, _, rfl, ite2 (fun c => ?_) (fun c4 => ?_)⟩
  · obtain rfl : wd = .sum := w_hit c
    refine ⟨_, rfl, _, rfl, _, rfl, _, rfl, _, _, rfl, _, rfl, _, rfl, _, _, rfl, (by show 4 ≤ sizeLine; decide), fun t ht => q .sum [x, if z < y then z else y, if z > y then z else y] _ _ ⟨hx, ?_, ?_, ?_⟩ (s1.trans (same_new ht)) ⟨t, rfl, upd_same⟩⟩
    · split
      · exact hz
      · exact hy
    · split
      · exact hz
      · exact hy
    · split <;> split <;> omega
  · refine ⟨_, rfl, _, rfl, _, rfl, (by show 3 ≤ sizeLine; decide), fun t ht => q wd [x, y] _ _ ?_ (s1.trans (same_new ht)) ⟨t, rfl, upd_same⟩⟩
    have n1 := w_miss (b := .plus) c1
    have n2 := w_miss (b := .need) c2
    have n3 := w_miss (b := .add) c3
    have n4 := w_miss (b := .sum) c4
    cases wd <;> first | contradiction | exact ⟨hx, hy⟩
theorem ok_lmade (F : Fun K "_law_made" "_law_made" s__law_made f fd) (I : ∀ wd, WI P w K mg base CW wd) : FnOk P w K mg base CX0 5 f fd ["_law_step_here"] (spLMade CW) := by
  refine F.ok sc__law_made (fun vs H Q E h => ?_) (fun cdv A outer s H vs Q E hr h => ?_)
  · obtain ⟨wd, ns, v, rfl, _⟩ := h
    rfl
  obtain ⟨wd, ns, v, rfl, ⟨b, rfl, hb⟩, ar, q⟩ := h
  have hr1 : Room (2 + 1) _ := hr.mono (by decide)
  refine ⟨_, (pss_cons (ps_if (pt_cmpR op_eq (pe_ix (r := rIxT K) ix_tup (pv 0) pe_int (fun _ _ => rfl)) pe_str (nomark _)) (pss_one (ps_ret (pe_make (I .take).M (I .take).ok hr1 rfl (I .take).m (I .take).b .nil pass0 (pa_cons (pe_ix (r := rIxT K) ix_tup (pv 0) pe_int (fun _ _ => rfl)) (pa_cons (pe_ix (r := rIxT K) ix_tup (pv 0) pe_int (fun _ _ => rfl)) pa_nil))))) pss_nil)
    (pss_cons (ps_if (pt_cmpR op_eq (pe_ix (r := rIxT K) ix_tup (pv 0) pe_int (fun _ _ => rfl)) pe_str (nomark _)) (pss_one (ps_ret (pe_make (I .mean).M (I .mean).ok hr1 rfl (I .mean).m (I .mean).b .nil pass0 (pa_cons (pe_ix (r := rIxT K) ix_tup (pv 0) pe_int (fun _ _ => rfl)) (pa_cons (pe_ix (r := rIxT K) ix_tup (pv 0) pe_int (fun _ _ => rfl)) pa_nil))))) pss_nil)
    (pss_cons (ps_if (pt_cmpR op_eq (pe_ix (r := rIxT K) ix_tup (pv 0) pe_int (fun _ _ => rfl)) pe_str (nomark _)) (pss_one (ps_ret (pe_make (I .sum).M (I .sum).ok hr1 rfl (I .sum).m (I .sum).b .nil pass0 (pa_cons (pe_ix (r := rIxT K) ix_tup (pv 0) pe_int (fun _ _ => rfl)) (pa_cons (pe_ix (r := rIxT K) ix_tup (pv 0) pe_int (fun _ _ => rfl)) (pa_cons (pe_ix (r := rIxT K) ix_tup (pv 0) pe_int (fun _ _ => rfl)) pa_nil)))))) pss_nil)
    (pss_cons (ps_if (pt_cmpR op_eq (pe_ix (r := rIxT K) ix_tup (pv 0) pe_int (fun _ _ => rfl)) pe_str (nomark _)) (pss_one (ps_ret (pe_make (I .give).M (I .give).ok hr1 rfl (I .give).m (I .give).b .nil pass0 (pa_cons (pe_ix (r := rIxT K) ix_tup (pv 0) pe_int (fun _ _ => rfl)) (pa_cons (pe_ix (r := rIxT K) ix_tup (pv 0) pe_int (fun _ _ => rfl)) pa_nil))))) pss_nil)
    (pss_cons (ps_if (pt_cmpR op_eq (pe_ix (r := rIxT K) ix_tup (pv 0) pe_int (fun _ _ => rfl)) pe_str (nomark _)) (pss_one (ps_ret (pe_make (I .add).M (I .add).ok hr1 rfl (I .add).m (I .add).b .nil pass0 (pa_cons (pe_ix (r := rIxT K) ix_tup (pv 0) pe_int (fun _ _ => rfl)) (pa_cons (pe_ix (r := rIxT K) ix_tup (pv 0) pe_int (fun _ _ => rfl)) (pa_cons (pe_ix (r := rIxT K) ix_tup (pv 0) pe_int (fun _ _ => rfl)) pa_nil)))))) pss_nil)
    (pss_cons (ps_if (pt_cmpR op_eq (pe_ix (r := rIxT K) ix_tup (pv 0) pe_int (fun _ _ => rfl)) pe_str (nomark _)) (pss_one (ps_ret (pe_make (I .plus).M (I .plus).ok hr1 rfl (I .plus).m (I .plus).b .nil pass0 (pa_cons (pe_ix (r := rIxT K) ix_tup (pv 0) pe_int (fun _ _ => rfl)) pa_nil)))) pss_nil)
    (pss_one (ps_ret (pe_make (I .need).M (I .need).ok hr1 rfl (I .need).m (I .need).b .nil pass0 (pa_cons (pe_ix (r := rIxT K) ix_tup (pv 0) pe_int (fun _ _ => rfl)) pa_nil)))))))))), ?_⟩
  refine ⟨_, rfl, b, _, _, _, rfl, rfl, SqT.of hb, at0, rfl, _, rfl, ite2 (fun c => ?_) (fun c0 => ?_)⟩
  · obtain rfl : wd = .take := w_hit c
    obtain ⟨x, y, rfl, _⟩ := ar.c rfl
    exact ⟨_, rfl, b, _, _, _, rfl, rfl, SqT.of hb, rfl, _, rfl, b, _, _, _, rfl, rfl, SqT.of hb, rfl, fun p dp np ndp nep => ⟨p, dp, [x, y], rfl, ar, upd_same, fun H' h1 h2 => ⟨rfl, q _ H' (mk_kp np ndp h2) ⟨p, dp, rfl, h1⟩⟩⟩⟩
  refine ⟨_, rfl, b, _, _, _, rfl, rfl, SqT.of hb, at0, rfl, _, rfl, ite2 (fun c => ?_) (fun c1 => ?_)⟩
  · obtain rfl : wd = .mean := w_hit c
    obtain ⟨x, y, rfl, _⟩ := ar.c rfl
    exact ⟨_, rfl, b, _, _, _, rfl, rfl, SqT.of hb, rfl, _, rfl, b, _, _, _, rfl, rfl, SqT.of hb, rfl, fun p dp np ndp nep => ⟨p, dp, [x, y], rfl, ar, upd_same, fun H' h1 h2 => ⟨rfl, q _ H' (mk_kp np ndp h2) ⟨p, dp, rfl, h1⟩⟩⟩⟩
  refine ⟨_, rfl, b, _, _, _, rfl, rfl, SqT.of hb, at0, rfl, _, rfl, ite2 (fun c => ?_) (fun c2 => ?_)⟩
  · obtain rfl : wd = .sum := w_hit c
    obtain ⟨x, y, z, rfl, _⟩ := ar.s
    exact ⟨_, rfl, b, _, _, _, rfl, rfl, SqT.of hb, rfl, _, rfl, b, _, _, _, rfl, rfl, SqT.of hb, rfl, _, rfl, b, _, _, _, rfl, rfl, SqT.of hb, rfl, fun p dp np ndp nep => ⟨p, dp, [x, y, z], rfl, ar, upd_same, fun H' h1 h2 => ⟨rfl, q _ H' (mk_kp np ndp h2) ⟨p, dp, rfl, h1⟩⟩⟩⟩
  refine ⟨_, rfl, b, _, _, _, rfl, rfl, SqT.of hb, at0, rfl, _, rfl, ite2 (fun c => ?_) (fun c3 => ?_)⟩
  · obtain rfl : wd = .give := w_hit c
    obtain ⟨x, y, rfl, _⟩ := ar.c rfl
    exact ⟨_, rfl, b, _, _, _, rfl, rfl, SqT.of hb, rfl, _, rfl, b, _, _, _, rfl, rfl, SqT.of hb, rfl, fun p dp np ndp nep => ⟨p, dp, [x, y], rfl, ar, upd_same, fun H' h1 h2 => ⟨rfl, q _ H' (mk_kp np ndp h2) ⟨p, dp, rfl, h1⟩⟩⟩⟩
  refine ⟨_, rfl, b, _, _, _, rfl, rfl, SqT.of hb, at0, rfl, _, rfl, ite2 (fun c => ?_) (fun c4 => ?_)⟩
  · obtain rfl : wd = .add := w_hit c
    obtain ⟨x, y, z, rfl, _⟩ := ar.a
    exact ⟨_, rfl, b, _, _, _, rfl, rfl, SqT.of hb, rfl, _, rfl, b, _, _, _, rfl, rfl, SqT.of hb, rfl, _, rfl, b, _, _, _, rfl, rfl, SqT.of hb, rfl, fun p dp np ndp nep => ⟨p, dp, [x, y, z], rfl, ar, upd_same, fun H' h1 h2 => ⟨rfl, q _ H' (mk_kp np ndp h2) ⟨p, dp, rfl, h1⟩⟩⟩⟩
  refine ⟨_, rfl, b, _, _, _, rfl, rfl, SqT.of hb, at0, rfl, _, rfl, ite2 (fun c => ?_) (fun c5 => ?_)⟩
  · obtain rfl : wd = .plus := w_hit c
    obtain ⟨x, rfl, _⟩ := ar.p
    exact ⟨_, rfl, b, _, _, _, rfl, rfl, SqT.of hb, rfl, fun p dp np ndp nep => ⟨p, dp, [x], rfl, ar, upd_same, fun H' h1 h2 => ⟨rfl, q _ H' (mk_kp np ndp h2) ⟨p, dp, rfl, h1⟩⟩⟩⟩
  obtain rfl : wd = .need := w_need (w_miss (b := .take) c0) (w_miss (b := .mean) c1) (w_miss (b := .sum) c2) (w_miss (b := .give) c3) (w_miss (b := .add) c4) (w_miss (b := .plus) c5)
  obtain ⟨x, rfl, _⟩ := ar.n
  exact ⟨_, rfl, b, _, _, _, rfl, rfl, SqT.of hb, rfl, fun p dp np ndp nep => ⟨p, dp, [x], rfl, ar, upd_same, fun H' h1 h2 => ⟨rfl, q _ H' (mk_kp np ndp h2) ⟨p, dp, rfl, h1⟩⟩⟩⟩
end
end K23
set_option maxHeartbeats 4000000
namespace K23
open PySem L2 Lo St
section
variable {P : Program} {w : World} {K : PySem.W.Frag} {mg : Str → Option Value} {base : Heap} {f CL : Addr} {fd : FuncData} {C : Kd → Addr} {CW : Wd → Addr}
structure CloV (P : Program) (w : World) (K : PySem.W.Frag) (mg : Str → Option Value) (base : Heap) (fv : Addr) (sp : Sp) : Prop where
  ex : ∃ fo fd0 fdv, base.get? fv = some fo ∧ fo.data = .func fd0 ∧ FnOk P w K mg base CX0 4 fv fdv ["_law_cell_here"] sp ∧ Binds K fdv ["_law_cell_here"] []
def spDV (val : Int → Int) (la : Addr) (kvs : List (Key × V)) : Sp := fun vs H Q _ => ∃ c, vs = [.int c] ∧ H la = some (.dK kvs) ∧ Q (.int (val c)) H
def sumN (val : Int → Int) (a : Int) : Nat → Int
  | 0 => 0
  | n + 1 => sumN val a n + val (a + n)
def runN (a : Int) (n : Nat) : List Int := (List.range n).map fun i => a + (i : Nat)
theorem sum_run (val : Int → Int) (a : Int) (n : Nat) : ((runN a n).map val).sum = sumN val a n := by
  induction n with
  | zero => rfl
  | succ n ih =>
    have e : runN a (n + 1) = runN a n ++ [a + n] := by
      unfold runN
      rw [List.range_succ, List.map_append]
      rfl
    rw [e, List.map_append, List.sum_append, ih]
    simp [sumN]
theorem run_succ (a : Int) (n : Nat) : runN a (n + 1) = runN a n ++ [a + n] := by
  unfold runN
  rw [List.range_succ, List.map_append]
  rfl
def Dn (val : Int → Int) : Wd → List Int → Int → Option (Int × List (Int × Int))
  | .take, [_, c], _ => some (val c, [])
  | .mean, [_, c], _ => some (val c, [])
  | .sum, [_, a, b], _ => some (sumN val a (b + 1 - a).toNat, [])
  | .give, [_, c], h => some (h, [(c, h)])
  | .add, [_, c, v], h => some (h, [(c, val c + v)])
  | .plus, [v], h => some (h + v, [])
  | .need, [v], h => if h < v then none else some (h, [])
  | _, _, _ => none
def nearA : Wd → List Int → Prop
  | .sum, [_, a, b] => b < a + 40
  | _, _ => True
def chT (H : Hp) : List (Int × Int) → Addr → Prop
  | [], a => H a = some (.tup [])
  | c :: _, a => ∃ b, H a = some (.tup [.ref b]) ∧ H b = some (.tup [.int c.1, .int c.2])
def resT (H : Hp) (r : Int × List (Int × Int)) (u : V) : Prop := ∃ t a, u = .ref t ∧ H t = some (.tup [.int r.1, .ref a]) ∧ chT H r.2 a
def spDone (CW : Wd → Addr) (val : Int → Int) (la fv : Addr) (kvs : List (Key × V)) (wd : Wd) : Sp := fun vs H Q E => ∃ v ns hand, vs = [v, .int hand, .ref fv] ∧ Ar wd ns ∧ nearA wd ns ∧ StO CW H wd ns v ∧ H la = some (.dK kvs) ∧
  ∃ r, Dn val wd ns hand = some r ∧ ∀ u H', Same H H' → resT H' r u → Q u H'
section
variable {val : Int → Int} {la fv : Addr} {kvs : List (Key × V)}
theorem ok_dtake (F : Fun K "step_done" "TakeStep.step_done" m_TakeStep_step_done f fd) (T : TxW K CW) (CV : CloV P w K mg base fv (spDV val la kvs)) : FnOk P w K mg base CX0 5 f fd ["self", "hand", "value_of"] (spDone CW val la fv kvs .take) := by
  refine F.ok sc_TakeStep_step_done (fun vs H Q E h => ?_) (fun cdv A outer s H vs Q E hr h => ?_)
  · obtain ⟨v, ns, hand, rfl, _⟩ := h
    rfl
  obtain ⟨v, ns, hand, rfl, ar, nr, ⟨a, dx, rfl, ha⟩, hla, r, hdn, q⟩ := h
  obtain ⟨x, y, rfl, _, _, e⟩ := ar.c rfl
  rw [e] at ha
  cases hdn
  obtain ⟨fo, fd0, fdv, h1, h2, h3, h4⟩ := CV.ex
  refine ⟨_, pss_one (ps_ret (pe_tup (pa_cons (pe_callP (i := 2) rfl (.inl rfl) h1 h2 h3 hr h4 pass0 (pa_cons (pe_fld (pv 0) rfl) pa_nil)) (pa_cons (pe_tup pa_nil) pa_nil)))), ?_⟩
  exact ⟨rfl, _, rfl, a, CW .take, dx, _, _, rfl, ha, T.cl _, T.nC _, lk_hit, y, rfl, hla, (by show 0 ≤ sizeLine; decide), fun t ht => ⟨(by show 2 ≤ sizeLine; decide), fun t2 ht2 => q _ _ ((same_new ht).trans (same_new ht2)) ⟨t2, t, rfl, upd_same, same_new ht2 _ _ upd_same⟩⟩⟩
theorem ok_dmean (F : Fun K "step_done" "MeanStep.step_done" m_MeanStep_step_done f fd) (T : TxW K CW) (CV : CloV P w K mg base fv (spDV val la kvs)) : FnOk P w K mg base CX0 5 f fd ["self", "hand", "value_of"] (spDone CW val la fv kvs .mean) := by
  refine F.ok sc_MeanStep_step_done (fun vs H Q E h => ?_) (fun cdv A outer s H vs Q E hr h => ?_)
  · obtain ⟨v, ns, hand, rfl, _⟩ := h
    rfl
  obtain ⟨v, ns, hand, rfl, ar, nr, ⟨a, dx, rfl, ha⟩, hla, r, hdn, q⟩ := h
  obtain ⟨x, y, rfl, _, _, e⟩ := ar.c rfl
  rw [e] at ha
  cases hdn
  obtain ⟨fo, fd0, fdv, h1, h2, h3, h4⟩ := CV.ex
  refine ⟨_, pss_one (ps_ret (pe_tup (pa_cons (pe_callP (i := 2) rfl (.inl rfl) h1 h2 h3 hr h4 pass0 (pa_cons (pe_fld (pv 0) rfl) pa_nil)) (pa_cons (pe_tup pa_nil) pa_nil)))), ?_⟩
  exact ⟨rfl, _, rfl, a, CW .mean, dx, _, _, rfl, ha, T.cl _, T.nC _, lk_hit, y, rfl, hla, (by show 0 ≤ sizeLine; decide), fun t ht => ⟨(by show 2 ≤ sizeLine; decide), fun t2 ht2 => q _ _ ((same_new ht).trans (same_new ht2)) ⟨t2, t, rfl, upd_same, same_new ht2 _ _ upd_same⟩⟩⟩
theorem ok_dgive (F : Fun K "step_done" "GiveStep.step_done" m_GiveStep_step_done f fd) (T : TxW K CW) : FnOk P w K mg base CX0 1 f fd ["self", "hand", "value_of"] (spDone CW val la fv kvs .give) := by
  refine F.ok sc_GiveStep_step_done (fun vs H Q E h => ?_) (fun cdv A outer s H vs Q E hr h => ?_)
  · obtain ⟨v, ns, hand, rfl, _⟩ := h
    rfl
  obtain ⟨v, ns, hand, rfl, ar, nr, ⟨a, dx, rfl, ha⟩, hla, r, hdn, q⟩ := h
  obtain ⟨x, y, rfl, _, _, e⟩ := ar.c rfl
  rw [e] at ha
  cases hdn
  refine ⟨_, pss_one (ps_ret (pe_tup (pa_cons (pv 1) (pa_cons (pe_tup (pa_cons (pe_tup (pa_cons (pe_fld (pv 0) rfl) (pa_cons (pv 1) pa_nil))) pa_nil)) pa_nil)))), ?_⟩
  exact ⟨_, rfl, _, rfl, a, CW .give, dx, _, _, rfl, ha, T.cl _, T.nC _, lk_hit, _, rfl, (by show 2 ≤ sizeLine; decide), fun t ht => ⟨(by show 1 ≤ sizeLine; decide), fun t1 ht1 => ⟨(by show 2 ≤ sizeLine; decide), fun t2 ht2 => q _ _ ((same_new ht).trans ((same_new ht1).trans (same_new ht2))) ⟨t2, t1, rfl, upd_same, t, same_new ht2 _ _ upd_same, same_new ht2 _ _ (same_new ht1 _ _ upd_same)⟩⟩⟩⟩
theorem ok_dadd (F : Fun K "step_done" "AddStep.step_done" m_AddStep_step_done f fd) (T : TxW K CW) (CV : CloV P w K mg base fv (spDV val la kvs)) : FnOk P w K mg base CX0 5 f fd ["self", "hand", "value_of"] (spDone CW val la fv kvs .add) := by
  refine F.ok sc_AddStep_step_done (fun vs H Q E h => ?_) (fun cdv A outer s H vs Q E hr h => ?_)
  · obtain ⟨v, ns, hand, rfl, _⟩ := h
    rfl
  obtain ⟨v, ns, hand, rfl, ar, nr, ⟨a, dx, rfl, ha⟩, hla, r, hdn, q⟩ := h
  obtain ⟨x, y, z, rfl, _⟩ := ar.a
  cases hdn
  obtain ⟨fo, fd0, fdv, h1, h2, h3, h4⟩ := CV.ex
  have lc : (fsOf .add [x, y, z]).lookup (Str.ofString "cell") = some (V.int y) := by
    show (putF "amount" _ (putF "cell" _ (putF "where" _ []))).lookup _ = _
    rw [lk_miss (by decide +kernel), lk_hit]
  have lm : (fsOf .add [x, y, z]).lookup (Str.ofString "amount") = some (V.int z) := by
    show (putF "amount" _ (putF "cell" _ (putF "where" _ []))).lookup _ = _
    rw [lk_hit]
  refine ⟨_, pss_one (ps_ret (pe_tup (pa_cons (pv 1) (pa_cons (pe_tup (pa_cons (pe_tup (pa_cons (pe_fld (pv 0) rfl) (pa_cons (pe_op op_add (pe_callP (i := 2) rfl (.inl rfl) h1 h2 h3 hr h4 pass0 (pa_cons (pe_fld (pv 0) rfl) pa_nil)) (pe_fld (pv 0) rfl)) pa_nil))) pa_nil)) pa_nil)))), ?_⟩
  exact ⟨_, rfl, _, rfl, a, CW .add, dx, _, _, rfl, ha, T.cl _, T.nC _, lc, rfl, _, rfl, a, CW .add, dx, _, _, rfl, ha, T.cl _, T.nC _, lc, y, rfl, hla, _, rfl, a, CW .add, dx, _, _, rfl, ha, T.cl _, T.nA _, lm, _, _, rfl, rfl, (by show 2 ≤ sizeLine; decide), fun t ht => ⟨(by show 1 ≤ sizeLine; decide), fun t1 ht1 => ⟨(by show 2 ≤ sizeLine; decide), fun t2 ht2 => q _ _ ((same_new ht).trans ((same_new ht1).trans (same_new ht2))) ⟨t2, t1, rfl, upd_same, t, same_new ht2 _ _ upd_same, same_new ht2 _ _ (same_new ht1 _ _ upd_same)⟩⟩⟩⟩
theorem ok_dplus (F : Fun K "step_done" "PlusStep.step_done" m_PlusStep_step_done f fd) (T : TxW K CW) : FnOk P w K mg base CX0 1 f fd ["self", "hand", "value_of"] (spDone CW val la fv kvs .plus) := by
  refine F.ok sc_PlusStep_step_done (fun vs H Q E h => ?_) (fun cdv A outer s H vs Q E hr h => ?_)
  · obtain ⟨v, ns, hand, rfl, _⟩ := h
    rfl
  obtain ⟨v, ns, hand, rfl, ar, nr, ⟨a, dx, rfl, ha⟩, hla, r, hdn, q⟩ := h
  obtain ⟨x, rfl, _⟩ := ar.p
  cases hdn
  refine ⟨_, pss_one (ps_ret (pe_tup (pa_cons (pe_op op_add (pv 1) (pe_fld (pv 0) rfl)) (pa_cons (pe_tup pa_nil) pa_nil)))), ?_⟩
  exact ⟨_, rfl, _, rfl, a, CW .plus, dx, _, _, rfl, ha, T.cl _, T.nA _, lk_hit, _, _, rfl, rfl, (by show 0 ≤ sizeLine; decide), fun t ht => ⟨(by show 2 ≤ sizeLine; decide), fun t2 ht2 => q _ _ ((same_new ht).trans (same_new ht2)) ⟨t2, t, rfl, upd_same, same_new ht2 _ _ upd_same⟩⟩⟩
theorem ok_dneed (F : Fun K "step_done" "NeedStep.step_done" m_NeedStep_step_done f fd) (T : TxW K CW) : FnOk P w K mg base CX0 1 f fd ["self", "hand", "value_of"] (spDone CW val la fv kvs .need) := by
  refine F.ok sc_NeedStep_step_done (fun vs H Q E h => ?_) (fun cdv A outer s H vs Q E hr h => ?_)
  · obtain ⟨v, ns, hand, rfl, _⟩ := h
    rfl
  obtain ⟨v, ns, hand, rfl, ar, nr, ⟨a, dx, rfl, ha⟩, hla, r, hdn, q⟩ := h
  obtain ⟨x, rfl, _⟩ := ar.n
  have hnn : ¬ hand < x := fun z => by
    have hd2 : (if hand < x then none else some (hand, [])) = some r := hdn
    rw [if_pos z] at hd2
    cases hd2
  have hd2 : (if hand < x then none else some (hand, [])) = some r := hdn
  rw [if_neg hnn] at hd2
  cases hd2
  refine ⟨_, pss_cons (ps_if (pt_cmpR op_lt (pv 1) (pe_fld (pv 0) rfl) (nomark _)) pss_never pss_nil) (pss_one (ps_ret (pe_tup (pa_cons (pv 1) (pa_cons (pe_tup pa_nil) pa_nil))))), ?_⟩
  refine ⟨_, rfl, _, rfl, a, CW .need, dx, _, _, rfl, ha, T.cl _, T.nA _, lk_hit, _, _, rfl, rfl, _, rfl, ite2 (fun c => absurd (of_decide_eq_true c) hnn) (fun c => ?_)⟩
  exact ⟨_, rfl, (by show 0 ≤ sizeLine; decide), fun t ht => ⟨(by show 2 ≤ sizeLine; decide), fun t2 ht2 => q _ _ ((same_new ht).trans (same_new ht2)) ⟨t2, t, rfl, upd_same, same_new ht2 _ _ upd_same⟩⟩⟩
theorem ok_dsum (F : Fun K "step_done" "SumStep.step_done" m_SumStep_step_done f fd) (T : TxW K CW) (B : TxB mg) (hsum : mg "sum" = none) (CV : CloV P w K mg base fv (spDV val la kvs)) : FnOk P w K mg base CX0 5 f fd ["self", "hand", "value_of"] (spDone CW val la fv kvs .sum) := by
  refine F.ok sc_SumStep_step_done (fun vs H Q E h => ?_) (fun cdv A outer s H vs Q E hr h => ?_)
  · obtain ⟨v, ns, hand, rfl, _⟩ := h
    rfl
  obtain ⟨v, ns, hand, rfl, ar, nr, ⟨a, dx, rfl, ha⟩, hla, r, hdn, q⟩ := h
  obtain ⟨x, y, z, rfl, _, _, _, hyz⟩ := ar.s
  cases hdn
  have nr : z < y + 40 := nr
  obtain ⟨fo, fd0, fdv, h1, h2, h3, h4⟩ := CV.ex
  refine ⟨_, pss_one (ps_ret (pe_tup (pa_cons (pe_callB (call_sum_ints rfl) rfl hsum PyProof.Rows.boot_sum (pa_cons (pe_lc sb_SumStep_step_done_0 rfl (pi_rangeL rfl B.range (pa_cons (pe_fld (pv 0) rfl) (pa_cons (pe_op op_add (pe_fld (pv 0) rfl) pe_int) pa_nil))) (fun _ _ _ _ => pts_nil)
    (fun _ _ _ _ => pe_callP (i := 1) rfl (by first | exact Or.inl rfl | exact Or.inr (Or.inl rfl) | exact Or.inr (Or.inr rfl)) h1 h2 h3 hr h4 pass0 (pa_cons (pv 0) pa_nil))) pa_nil)) (pa_cons (pe_tup pa_nil) pa_nil)))), ?_⟩
  have ll : (fsOf .sum [x, y, z]).lookup (Str.ofString "low") = some (V.int y) := by
    show (putF "high" _ (putF "low" _ (putF "where" _ []))).lookup _ = _
    rw [lk_miss (by decide +kernel), lk_hit]
  have lh : (fsOf .sum [x, y, z]).lookup (Str.ofString "high") = some (V.int z) := by
    show (putF "high" _ (putF "low" _ (putF "where" _ []))).lookup _ = _
    rw [lk_hit]
  refine ⟨_, rfl, a, CW .sum, dx, _, _, rfl, ha, T.cl _, T.nL _, ll, _, rfl, a, CW .sum, dx, _, _, rfl, ha, T.cl _, T.nH _, lh, _, _, rfl, rfl, _, _, rfl, ?_⟩
  have hn : (z + 1 - y).toNat ≤ 40 := by omega
  refine lc_rangeL (fun i ys H' => H' = H ∧ ys = ((runN y i).map val).map V.int) ⟨rfl, rfl⟩ (Nat.le_trans hn (by decide)) ?_ ?_
  · rintro i ys H2 hi ⟨rfl, rfl⟩
    refine tAllT ⟨rfl, _, rfl, y + i, rfl, hla, rfl, ?_⟩
    rw [run_succ, List.map_append, List.map_append]
    rfl
  · rintro ys H2 ⟨rfl, rfl⟩ p hp
    refine ⟨p, _, rfl, SqL.of upd_same, ?_⟩
    rw [sum_run]
    exact ⟨(by show 0 ≤ sizeLine; decide), fun t ht => ⟨(by show 2 ≤ sizeLine; decide), fun t2 ht2 => q _ _ ((same_new hp).trans ((same_new ht).trans (same_new ht2))) ⟨t2, t, rfl, upd_same, same_new ht2 _ _ upd_same⟩⟩⟩
def bkN (val : Int → Int) : Wd → List Int → List (Int × Int)
  | .add, [_, c, v] => [(c, val c - v)]
  | _, _ => []
def spBack (CW : Wd → Addr) (val : Int → Int) (la fv : Addr) (kvs : List (Key × V)) (wd : Wd) : Sp := fun vs H Q _ => ∃ v ns, vs = [v, .ref fv] ∧ Ar wd ns ∧ StO CW H wd ns v ∧ H la = some (.dK kvs) ∧ ∀ a H', Same H H' → chT H' (bkN val wd ns) a → Q (.ref a) H'
theorem ok_bnone {wd : Wd} (hw : wd ≠ .add) (F : Fun K "back" "Step.back" m_Step_back f fd) : FnOk P w K mg base CX0 1 f fd ["self", "value_of"] (spBack CW val la fv kvs wd) := by
  refine F.ok sc_Step_back (fun vs H Q E h => ?_) (fun cdv A outer s H vs Q E hr h => ?_)
  · obtain ⟨v, ns, rfl, _⟩ := h
    rfl
  obtain ⟨v, ns, rfl, ar, so, hla, q⟩ := h
  have e : bkN val wd ns = [] := by
    cases wd <;> first | contradiction | rfl
  rw [e] at q
  exact ⟨_, pss_one (ps_ret (pe_tup pa_nil)), (by show 0 ≤ sizeLine; decide), fun t ht => q t _ (same_new ht) upd_same⟩
theorem ok_badd (F : Fun K "back" "AddStep.back" m_AddStep_back f fd) (T : TxW K CW) (CV : CloV P w K mg base fv (spDV val la kvs)) : FnOk P w K mg base CX0 5 f fd ["self", "value_of"] (spBack CW val la fv kvs .add) := by
  refine F.ok sc_AddStep_back (fun vs H Q E h => ?_) (fun cdv A outer s H vs Q E hr h => ?_)
  · obtain ⟨v, ns, rfl, _⟩ := h
    rfl
  obtain ⟨v, ns, rfl, ar, ⟨a, dx, rfl, ha⟩, hla, q⟩ := h
  obtain ⟨x, y, z, rfl, _⟩ := ar.a
  obtain ⟨fo, fd0, fdv, h1, h2, h3, h4⟩ := CV.ex
  have lc : (fsOf .add [x, y, z]).lookup (Str.ofString "cell") = some (V.int y) := by
    show (putF "amount" _ (putF "cell" _ (putF "where" _ []))).lookup _ = _
    rw [lk_miss (by decide +kernel), lk_hit]
  have lm : (fsOf .add [x, y, z]).lookup (Str.ofString "amount") = some (V.int z) := by
    show (putF "amount" _ (putF "cell" _ (putF "where" _ []))).lookup _ = _
    rw [lk_hit]
  refine ⟨_, pss_one (ps_ret (pe_tup (pa_cons (pe_tup (pa_cons (pe_fld (pv 0) rfl) (pa_cons (pe_op op_sub (pe_callP (i := 1) rfl (.inl rfl) h1 h2 h3 hr h4 pass0 (pa_cons (pe_fld (pv 0) rfl) pa_nil)) (pe_fld (pv 0) rfl)) pa_nil))) pa_nil))), ?_⟩
  exact ⟨_, rfl, a, CW .add, dx, _, _, rfl, ha, T.cl _, T.nC _, lc, rfl, _, rfl, a, CW .add, dx, _, _, rfl, ha, T.cl _, T.nC _, lc, y, rfl, hla, _, rfl, a, CW .add, dx, _, _, rfl, ha, T.cl _, T.nA _, lm, _, _, rfl, rfl, (by show 2 ≤ sizeLine; decide), fun t ht => ⟨(by show 1 ≤ sizeLine; decide), fun t1 ht1 => q t1 _ ((same_new ht).trans (same_new ht1)) ⟨t, upd_same, same_new ht1 _ _ upd_same⟩⟩⟩
end
end
end K23
set_option maxHeartbeats 4000000
namespace K23
open PySem L2 Lo St
section
variable {P : Program} {w : World} {K : PySem.W.Frag} {mg : Str → Option Value} {base : Heap} {f CL : Addr} {fd : FuncData} {C : Kd → Addr} {CW : Wd → Addr}
theorem ok_whole (F : Fun K "_law_whole" "_law_whole" s__law_whole f fd) (B : TxB mg) : FnOk P w K mg base CX0 1 f fd ["_law_found"] spWhole := by
  refine F.ok sc__law_whole (fun vs H Q E h => ?_) (fun cdv A outer s H vs Q E hr h => ?_)
  · obtain ⟨i, rfl, _⟩ := h
    rfl
  obtain ⟨i, rfl, q⟩ := h
  refine ⟨_, pss_one (ps_ret (pe_and (pe_callB call_isinst rfl B.isi PyProof.Rows.boot_isinstance (pa_cons (pv 0) (pa_cons (pe_bltn (v := .ty "int") rfl B.int PyProof.Rows.boot_int rfl) pa_nil)))
    (pe_one (pe_not (pe_callB call_isinst rfl B.isi PyProof.Rows.boot_isinstance (pa_cons (pv 0) (pa_cons (pe_bltn (v := .ty "bool") rfl B.bool PyProof.Rows.boot_bool rfl) pa_nil))))))), ?_⟩
  refine ⟨_, rfl, _, _, _, _, rfl, TyOf.int i, kit_ii, _, rfl, iteT ?_⟩
  exact ⟨_, rfl, _, _, _, _, rfl, TyOf.int i, kit_ib, _, rfl, q⟩
theorem ok_lcell (F : Fun K "_law_cell" "_law_cell" s__law_cell f fd) (B : TxB mg) : FnOk P w K mg base CX0 1 f fd ["_law_script", "_law_k"] (spCell K) := by
  refine F.ok sc__law_cell (fun vs H Q E h => ?_) (fun cdv A outer s H vs Q E hr h => ?_)
  · obtain ⟨a, ns, k, rfl, _⟩ := h
    rfl
  obtain ⟨a, ns, k, rfl, hS, q⟩ := h
  refine ⟨_, pss_cons (ps_if (pt_cmpR op_lt (pv 1) (pe_callB call_len_seq rfl B.len PySem.boot_len (pa_cons (pv 0) pa_nil)) (nomark _)) (pss_one (ps_ret (pe_ix ix_list (pv 0) (pv 1) (fun _ _ => rfl)))) pss_nil)
    (pss_one (ps_ret pe_int)), ?_⟩
  refine ⟨_, rfl, _, rfl, a, _, rfl, .inl hS, _, _, rfl, rfl, _, rfl, ?_⟩
  refine ite2 (fun c => ?_) (fun c => ?_)
  · have c' : (k : Int) < (((ns.map V.int).length : Nat) : Int) := of_decide_eq_true c
    rw [List.length_map] at c'
    have hk : k < ns.length := by omega
    have q1 : atI (ns.map V.int) ((k : Nat) : Int) = some (.int ns[k]) := atI_nat (by rw [List.getElem?_map, List.getElem?_eq_getElem hk] <;> rfl)
    have e : cellAt ns k = ns[k] := by unfold cellAt; rw [List.getElem?_eq_getElem hk]; rfl
    rw [e] at q
    exact ⟨_, rfl, _, rfl, a, _, _, _, rfl, rfl, hS, q1, q⟩
  · have c' : ¬ (k : Int) < (((ns.map V.int).length : Nat) : Int) := fun z => c (decide_eq_true z)
    rw [List.length_map] at c'
    have e : cellAt ns k = 0 := by unfold cellAt; rw [List.getElem?_eq_none (by omega)]; rfl
    rw [e] at q
    exact q
def ownV : Wd → List Int → V
  | .add, [_, c, _] => .int c
  | _, _ => .non
def spOwn : Sp := fun vs H Q _ => ∃ wd ns v, vs = [v] ∧ tSt H wd ns v ∧ Ar wd ns ∧ Q (ownV wd ns) H
theorem ok_own (F : Fun K "_law_own" "_law_own" s__law_own f fd) : FnOk P w K mg base CX0 1 f fd ["_law_step_here"] spOwn := by
  refine F.ok sc__law_own (fun vs H Q E h => ?_) (fun cdv A outer s H vs Q E hr h => ?_)
  · obtain ⟨wd, ns, v, rfl, _⟩ := h
    rfl
  obtain ⟨wd, ns, v, rfl, ⟨b, rfl, hb⟩, ar, q⟩ := h
  refine ⟨_, pss_cons (ps_if (pt_cmpR op_eq (pe_ix (r := rIxT K) ix_tup (pv 0) pe_int (fun _ _ => rfl)) pe_str (nomark _)) (pss_one (ps_ret (pe_ix (r := rIxT K) ix_tup (pv 0) pe_int (fun _ _ => rfl)))) pss_nil) (pss_one (ps_ret pe_non)), ?_⟩
  refine ⟨_, rfl, b, _, _, _, rfl, rfl, SqT.of hb, at0, rfl, _, rfl, ite2 (fun c => ?_) (fun c => ?_)⟩
  · obtain rfl : wd = .add := w_hit c
    obtain ⟨x, y, z, rfl, _⟩ := ar.a
    exact ⟨_, rfl, b, _, _, _, rfl, rfl, SqT.of hb, rfl, q⟩
  · have n := w_miss (b := .add) c
    have e : ownV wd ns = .non := by
      cases wd <;> first | contradiction | rfl
    rw [e] at q
    exact q
def putD (kvs : List (Key × V)) : List (Int × Int) → List (Key × V)
  | [] => kvs
  | c :: _ => putK kvs (.inl c.1) (.int c.2)
def spPut : Sp := fun vs H Q _ => ∃ lv kvs a cs o, vs = [.ref lv, .ref a, o] ∧ H lv = some (.dK kvs) ∧ kvs.length < 1000 ∧ chT H cs a ∧ (∀ c ∈ cs, o = .int c.1) ∧ ∀ H', H' lv = some (.dK (putD kvs cs)) → Kp lv H H' → Q (.bl true) H'
theorem ok_put (F : Fun K "_law_put" "_law_put" s__law_put f fd) (B : TxB mg) (GW : GF P w K mg base CX0 1 "_law_whole" ["_law_found"] Lo.spWhole) : FnOk P w K mg base CX0 2 f fd ["_law_values", "_law_changes", "_law_own_here"] spPut := by
  refine F.ok sc__law_put (fun vs H Q E h => ?_) (fun cdv A outer s H vs Q E hr h => ?_)
  · obtain ⟨lv, kvs, a, cs, o, rfl, _⟩ := h
    rfl
  obtain ⟨lv, kvs, a, cs, o, rfl, hlv, hz, hc, ho, q⟩ := h
  have nd := sc__law_put.nd
  refine ⟨_, pss_cons (ps_if (pt_not (pt_val (pe_callB call_isinstT rfl B.isi PyProof.Rows.boot_isinstance (pa_cons (pv 1) (pa_cons (pe_bltn (v := .ty "tuple") rfl B.tuple PyProof.Rows.boot_tuple rfl) pa_nil))))) pss_never pss_nil)
    (pss_cons (ps_for PassesOwn.never rfl (pi_tup (pv 1)) (pg_name (i := 3) nd rfl (Or.inl rfl))
      (pss_cons (ps_if (PW.pt (pw_or (pt_not (pt_val (pe_callB call_isinstT rfl B.isi PyProof.Rows.boot_isinstance (pa_cons (pv 3) (pa_cons (pe_bltn (v := .ty "tuple") rfl B.tuple PyProof.Rows.boot_tuple rfl) pa_nil))))) (pw_or (pt_cmpR op_ne (pe_callB call_len_seq rfl B.len PySem.boot_len (pa_cons (pv 3) pa_nil)) pe_int (nomark _)) (pw_or (pt_cmpR op_ne (pe_ix (r := rIxT K) ix_tup (pv 3) pe_int (fun _ _ => rfl)) (pv 2) (nomark _)) (pw_or1 (pt_not (pt_val (pc GW hr (pa_cons (pe_ix (r := rIxT K) ix_tup (pv 3) pe_int (fun _ _ => rfl)) pa_nil))))))))) pss_never pss_nil)
      (pss_one (ps_dput (hun (c := 0) hr) (pv 0) (pe_ix (r := rIxT K) ix_tup (pv 3) pe_int (fun _ _ => rfl)) (pe_ix (r := rIxT K) ix_tup (pv 3) pe_int (fun _ _ => rfl)) rfl))))
    (pss_one (ps_ret pe_bl))), ?_⟩
  cases cs with
  | nil =>
    have hc : H a = some (.tup []) := hc
    refine ⟨_, rfl, a, _, rfl, SqT.of hc, _, rfl, iteF ?_⟩
    refine ⟨_, rfl, a, rfl, ⟨_, SqT.of hc⟩, ?_⟩
    refine for_tup (xs := []) (fun i σ H' => H' = H) rfl (fun i σ H' _ z => by rw [z]; exact SqT.of hc) (fun i x σ H' hx _ => by cases hx) (fun σ H' z => ?_)
    rw [z]
    exact q H hlv (Kp.of (Same.refl _))
  | cons c cs =>
    obtain ⟨b, ha, hb⟩ := hc
    have eo := ho c List.mem_cons_self
    subst eo
    refine ⟨_, rfl, a, _, rfl, SqT.of ha, _, rfl, iteF ?_⟩
    refine ⟨_, rfl, a, rfl, ⟨_, SqT.of ha⟩, ?_⟩
    have na : a ≠ lv := fun z => by
      rw [z, hlv] at ha
      cases ha
    refine for_tup (xs := [.ref b]) (fun i σ H' => (i = 0 ∧ H' = H ∧ ∃ x3, σ = [some (.ref lv), some (.ref a), some (.int c.1), x3]) ∨ (i = 1 ∧ H' = upd H lv (.dK (putD kvs (c :: cs))))) (.inl ⟨rfl, rfl, none, rfl⟩) (fun i σ H' _ z => ?_) (fun i x σ H' hx z => ?_) (fun σ H' z => ?_)
    · rcases z with ⟨_, z, _⟩ | ⟨_, z⟩
      · rw [z]
        exact SqT.of ha
      · rw [z]
        exact SqT.of ((upd_ne na).trans ha)
    · rcases z with ⟨rfl, rfl, x3, rfl⟩ | ⟨rfl, _⟩
      · cases hx
        refine ⟨_, rfl, b, _, rfl, SqT.of hb, _, rfl, iteF ?_⟩
        refine ⟨_, rfl, b, _, rfl, .inr (SqT.of hb), rfl, _, rfl, iteF ?_⟩
        refine ⟨_, rfl, b, _, _, _, rfl, rfl, SqT.of hb, rfl, _, rfl, rfl, _, rfl, iteNS rfl ?_⟩
        refine ⟨_, rfl, b, _, _, _, rfl, rfl, SqT.of hb, rfl, _, rfl, _, rfl, iteF ?_⟩
        exact ⟨_, rfl, b, _, _, _, rfl, rfl, SqT.of hb, rfl, _, rfl, _, rfl, b, _, _, _, rfl, rfl, SqT.of hb, rfl, lv, _, rfl, DPut.k (k := .inl c.1) hlv (Nat.lt_of_lt_of_le hz (by decide)), .inr ⟨rfl, rfl⟩⟩
      · cases hx
    · rcases z with ⟨z, _⟩ | ⟨_, z⟩
      · cases z
      · rw [z]
        exact q _ upd_same kp_upd
end
end K23
set_option maxHeartbeats 4000000
namespace K23
open PySem L2 Lo St
section
variable {P : Program} {w : World} {K : PySem.W.Frag} {mg : Str → Option Value} {base : Heap} {f CL : Addr} {fd : FuncData} {C : Kd → Addr} {CW : Wd → Addr}
theorem cut_2 (w x y : V) (r : List V) : cutV (w :: x :: y :: r) none (some 2) = [w, x] := by
  unfold cutV
  rw [HT.sIx_none, show (some (2 : Int)) = some ((2 : Nat) : Int) from rfl, HT.sIx_nat, List.length_cons, List.length_cons, Nat.min_eq_left (by omega)]
  rfl
theorem cut_2_no (w x y : V) (r : List V) : ¬ (HT.sIx (w :: x :: y :: r).length 0 none = 0 ∧ HT.sIx (w :: x :: y :: r).length (w :: x :: y :: r).length (some (2 : Int)) = (w :: x :: y :: r).length) := by
  rintro ⟨_, h⟩
  rw [show (some (2 : Int)) = some ((2 : Nat) : Int) from rfl, HT.sIx_nat, List.length_cons, List.length_cons, List.length_cons, Nat.min_eq_left (by omega)] at h
  omega
theorem cut_3 (w x y : V) (r : List V) : cutV (w :: x :: y :: r) (some 3) none = r := by
  unfold cutV
  rw [HT.sIx_none, show (some (3 : Int)) = some ((3 : Nat) : Int) from rfl, HT.sIx_nat, List.length_cons, List.length_cons, List.length_cons, Nat.min_eq_left (by omega)]
  simp
theorem cut_3_no (w x y : V) (r : List V) : ¬ (HT.sIx (w :: x :: y :: r).length 0 (some (3 : Int)) = 0 ∧ HT.sIx (w :: x :: y :: r).length (w :: x :: y :: r).length none = (w :: x :: y :: r).length) := by
  rintro ⟨h, _⟩
  rw [show (some (3 : Int)) = some ((3 : Nat) : Int) from rfl, HT.sIx_nat, List.length_cons, List.length_cons, List.length_cons, Nat.min_eq_left (by omega)] at h
  omega
theorem ar_xy {wd : Wd} {x y : Int} {r : List Int} (h : Ar wd (x :: y :: r)) : inN x ∧ inN y := by
  cases wd with
  | take => match r, h with | [], h => exact ⟨h.1, h.2⟩
  | mean => match r, h with | [], h => exact ⟨h.1, h.2⟩
  | give => match r, h with | [], h => exact ⟨h.1, h.2⟩
  | sum => match r, h with | [z], h => exact ⟨h.1, h.2.1⟩
  | add => match r, h with | [z], h => exact ⟨h.1, h.2.1⟩
  | plus => exact h.elim
  | need => exact h.elim
theorem ar_set {wd : Wd} {x y z : Int} {r : List Int} (hz : inN z) (hs : wd ≠ .sum) (h : Ar wd (x :: y :: r)) : Ar wd (x :: z :: r) := by
  cases wd with
  | take => match r, h with | [], h => exact ⟨h.1, hz⟩
  | mean => match r, h with | [], h => exact ⟨h.1, hz⟩
  | give => match r, h with | [], h => exact ⟨h.1, hz⟩
  | sum => exact absurd rfl hs
  | add => match r, h with | [v], h => exact ⟨h.1, hz, h.2.2⟩
  | plus => exact h.elim
  | need => exact h.elim
theorem near_t {wd : Wd} {ns : List Int} (h : wd ≠ .sum) : nearA wd ns := by
  cases wd <;> first | contradiction | trivial
def spClose : Sp := fun vs H Q _ => ∃ wd ns v c hand, vs = [v, .int c, .int hand] ∧ tSt H wd ns v ∧ Ar wd ns ∧ ∀ wd' ns' v' H', Ar wd' ns' → nearA wd' ns' → (wd' = .need → ∀ x ∈ ns', x ≤ hand) → Same H H' → tSt H' wd' ns' v' → Q v' H'
theorem ok_close (F : Fun K "_law_close" "_law_close" s__law_close f fd) (B : TxB mg) (habs : mg "abs" = none) (GX : GF P w K mg base CX0 1 "_law_mixed" ["_law_cell_here", "_law_k"] spMixX) : FnOk P w K mg base CX0 2 f fd ["_law_step_here", "_law_cell_here", "_law_hand"] spClose := by
  refine F.ok sc__law_close (fun vs H Q E h => ?_) (fun cdv A outer s H vs Q E hr h => ?_)
  · obtain ⟨wd, ns, v, c, hand, rfl, _⟩ := h
    rfl
  obtain ⟨wd, ns, v, c, hand, rfl, ⟨b, rfl, hb⟩, ar, q⟩ := h
  have nd := sc__law_close.nd
  refine ⟨_, pss_cons (ps_if (PW.pt (pw_and (pt_cmpR op_eq (pe_ix (r := rIxT K) ix_tup (pv 0) pe_int (fun _ _ => rfl)) pe_str (nomark _)) (pw_and1 (pt_cmpR op_lt (pe_callB call_abs rfl habs PyProof.Rows.boot_abs (pa_cons (pv 2) pa_nil)) (pe_op op_pow pe_int pe_int) (nomark _)))))
      (pss_one (ps_ret (pe_tup (pa_cons pe_str (pa_cons (pe_op op_sub (pv 2) (pe_op op_mod (pc GX hr (pa_cons (pv 1) (pa_cons pe_int pa_nil))) pe_int)) pa_nil))))) pss_nil)
    (pss_cons (ps_if (pt_cmpR op_eq (pe_ix (r := rIxT K) ix_tup (pv 0) pe_int (fun _ _ => rfl)) pe_str (nomark _)) (pss_one (ps_ret (pe_tup (pa_cons pe_str (pa_cons (pe_ix (r := rIxT K) ix_tup (pv 0) pe_int (fun _ _ => rfl)) pa_nil))))) pss_nil)
    (pss_cons (ps_if (pt_cmpR op_lt (pe_callB call_len_seq rfl B.len PySem.boot_len (pa_cons (pv 0) pa_nil)) pe_int (nomark _)) (pss_one (ps_ret (pv 0))) pss_nil)
    (pss_cons (ps_set (i := 3) nd rfl (Or.inl rfl) (pe_ix (r := rIxT K) ix_tup (pv 0) pe_int (fun _ _ => rfl)))
    (pss_cons (ps_if (pt_cmpR op_gt (pe_op op_mod (pc GX hr (pa_cons (pv 1) (pa_cons pe_int pa_nil))) pe_int) pe_int (nomark _)) (pss_one (ps_set (i := 3) nd rfl (Or.inl rfl) (pe_op op_mod (pc GX hr (pa_cons (pv 1) (pa_cons pe_int pa_nil))) pe_int))) pss_nil)
    (pss_cons (ps_if (pt_cmpR op_eq (pe_ix (r := rIxT K) ix_tup (pv 0) pe_int (fun _ _ => rfl)) pe_str (nomark _))
      (pss_one (ps_ret (pe_tup (pa_cons pe_str (pa_cons (pe_ix (r := rIxT K) ix_tup (pv 0) pe_int (fun _ _ => rfl)) (pa_cons (pe_op op_mod (pv 3) (pe_op op_pow pe_int pe_int)) (pa_cons (pe_op op_add (pe_op op_mod (pv 3) (pe_op op_pow pe_int pe_int)) (pe_op op_mod (pc GX hr (pa_cons (pv 1) (pa_cons pe_int pa_nil))) pe_int)) pa_nil))))))) pss_nil)
    (pss_one (ps_ret (pe_op op_catT (pe_op op_catT (pe_slice sl_tup (pv 0) po_none (po_some pe_int)) (pe_tup (pa_cons (pv 3) pa_nil))) (pe_slice sl_tup (pv 0) (po_some pe_int) po_none))))))))), ?_⟩
  have p39 : (0 : Int) < 10 ^ 39 := by decide +kernel
  have z2 : 2 ≤ sizeLine := by decide
  have p2 : (10 : Int) ^ 39 + 40 < 10 ^ 40 := by decide +kernel
  refine ⟨_, rfl, b, _, _, _, rfl, rfl, SqT.of hb, at0, rfl, _, rfl, ite2 (fun cn => ?_) (fun cn => ?_)⟩
  · obtain rfl : wd = .need := w_hit cn
    obtain ⟨x, rfl, hx⟩ := ar.n
    refine ⟨_, rfl, _, rfl, _, _, rfl, rfl, ⟨by decide, by decide, by decide⟩, _, _, rfl, rfl, _, rfl, ite2 (fun ca => ?_) (fun _ => ?_)⟩
    · have ca' : (if hand < 0 then -hand else hand) < 10 ^ 39 := of_decide_eq_true ca
      have g0 : 0 ≤ mixN c 9 % 3 := Int.emod_nonneg _ (by decide)
      have g1 : mixN c 9 % 3 < 3 := Int.emod_lt_of_pos _ (by decide)
      have p3 : (10 : Int) ^ 39 = ((10 ^ 39 : Nat) : Int) := by decide +kernel
      have p4 : (10 : Nat) ^ 39 + 3 < 10 ^ 40 := by decide +kernel
      refine ⟨_, rfl, _, rfl, _, _, rfl, _, _, rfl, rfl, (by show (0 : Int) < 3; decide), _, _, rfl, rfl, z2, fun t ht => q .need [hand - mixN c 9 % 3] _ _ ?_ trivial (fun _ y hy => ?_) (same_new ht) ⟨t, rfl, upd_same⟩⟩
      · show (hand - mixN c 9 % 3).natAbs < 10 ^ 40
        rw [p3] at ca'
        split at ca' <;> omega
      · obtain rfl := List.mem_singleton.mp hy
        omega
    · refine ⟨_, rfl, b, _, _, _, rfl, rfl, SqT.of hb, at0, rfl, _, rfl, ite2 (fun _ => ?_) (fun c' => absurd (decide_eq_true rfl) c')⟩
      exact ⟨_, rfl, b, _, _, _, rfl, rfl, SqT.of hb, rfl, z2, fun t ht => q .plus [x] _ _ hx trivial (fun h => by cases h) (same_new ht) ⟨t, rfl, upd_same⟩⟩
  have nn := w_miss (b := .need) cn
  refine ⟨_, rfl, b, _, _, _, rfl, rfl, SqT.of hb, at0, rfl, _, rfl, ite2 (fun c' => absurd (w_hit c') nn) (fun _ => ?_)⟩
  refine ⟨_, rfl, b, _, rfl, .inr (SqT.of hb), _, _, rfl, rfl, _, rfl, ite2 (fun c3 => ?_) (fun c3 => ?_)⟩
  · have c3' : (((V.str (wS wd) :: ns.map V.int).length : Nat) : Int) < 3 := of_decide_eq_true c3
    have nsm : wd ≠ .sum := fun e => by
      subst e
      obtain ⟨x, y, z, rfl, _⟩ := ar.s
      exact absurd c3' (by show ¬ ((4 : Nat) : Int) < 3; decide)
    exact ⟨_, rfl, q wd ns _ _ ar (near_t nsm) (fun h => absurd h nn) (Same.refl _) ⟨b, rfl, hb⟩⟩
  have c3' : ¬ (((V.str (wS wd) :: ns.map V.int).length : Nat) : Int) < 3 := fun z => c3 (decide_eq_true z)
  obtain ⟨x, y, r, rfl⟩ : ∃ x y r, ns = x :: y :: r := by
    match ns, c3' with
    | [], h => exact absurd (by show ((1 : Nat) : Int) < 3; decide) h
    | [x], h => exact absurd (by show ((2 : Nat) : Int) < 3; decide) h
    | x :: y :: r, _ => exact ⟨x, y, r, rfl⟩
  obtain ⟨hx, hy⟩ := ar_xy ar
  have at2 : atI (V.str (wS wd) :: List.map V.int (x :: y :: r)) 2 = some (.int y) := atI_nat (j := 2) rfl
  have at1 : atI (V.str (wS wd) :: List.map V.int (x :: y :: r)) 1 = some (.int x) := atI_nat (j := 1) rfl
  refine ⟨_, rfl, b, _, _, _, rfl, rfl, SqT.of hb, at2, ?_⟩
  refine ⟨_, rfl, _, _, rfl, _, _, rfl, rfl, (by show (0 : Int) < 3; decide), _, _, rfl, rfl, _, rfl, ite2 (fun _ => ?_) (fun _ => ?_)⟩
  · refine ⟨_, rfl, _, _, rfl, _, _, rfl, rfl, (by show (0 : Int) < 9; decide), ?_⟩
    have hz : inN (mixN c 12 % 9) := ⟨Int.emod_nonneg _ (by decide), Int.lt_of_lt_of_le (Int.emod_lt_of_pos _ (by decide)) (by decide +kernel)⟩
    refine ⟨_, rfl, b, _, _, _, rfl, rfl, SqT.of hb, at0, rfl, _, rfl, ite2 (fun cs => ?_) (fun cs => ?_)⟩
    · obtain rfl : wd = .sum := w_hit cs
      have l0 : 0 ≤ (mixN c 12 % 9) % 10 ^ 39 := Int.emod_nonneg _ (by decide +kernel)
      have l1 : (mixN c 12 % 9) % 10 ^ 39 < 10 ^ 39 := Int.emod_lt_of_pos _ p39
      have g0 : 0 ≤ mixN c 13 % 9 := Int.emod_nonneg _ (by decide)
      have g1 : mixN c 13 % 9 < 9 := Int.emod_lt_of_pos _ (by decide)
      refine ⟨_, rfl, b, _, _, _, rfl, rfl, SqT.of hb, at1, _, rfl, _, _, rfl, rfl, ⟨by decide, by decide, by decide⟩, _, _, rfl, rfl, p39, _, rfl, _, _, rfl, rfl, ⟨by decide, by decide, by decide⟩, _, _, rfl, rfl, p39, _, rfl, _, _, rfl, _, _, rfl, rfl, (by show (0 : Int) < 9; decide), _, _, rfl, rfl, (by show 4 ≤ sizeLine; decide), fun t ht => ?_⟩
      exact q .sum [x, (mixN c 12 % 9) % 10 ^ 39, (mixN c 12 % 9) % 10 ^ 39 + mixN c 13 % 9] _ _ ⟨hx, ⟨l0, by omega⟩, ⟨by omega, by omega⟩, by omega⟩ (show _ < _ by omega) (fun h => by cases h) (same_new ht) ⟨t, rfl, upd_same⟩
    · have ns' := w_miss (b := .sum) cs
      have ar' := ar_set hz ns' ar
      refine ⟨_, rfl, _, rfl, b, _, rfl, SqT.of hb, cut_2_no _ _ _ _, fun t ht => ?_⟩
      rw [show cutV (V.str (wS wd) :: List.map V.int (x :: y :: r)) none (some 2) = [V.str (wS wd), V.int x] from cut_2 _ _ _ _]
      refine ⟨_, rfl, (by show 1 ≤ sizeLine; decide), fun t1 ht1 => ⟨t, t1, _, _, rfl, rfl, SqT.of (same_new ht1 _ _ upd_same), SqT.of upd_same, (by intro e; cases e), (by show 3 ≤ sizeLine; decide), (fun e => by cases e), fun _ p hp => ?_⟩⟩
      refine ⟨_, rfl, _, rfl, b, _, rfl, SqT.of (same_new hp _ _ (same_new ht1 _ _ (same_new ht _ _ hb))), cut_3_no _ _ _ _, fun t3 ht3 => ?_⟩
      rw [show cutV (V.str (wS wd) :: List.map V.int (x :: y :: r)) (some 3) none = r.map V.int from cut_3 _ _ _ _]
      have s3 := (same_new (o := .tup [V.str (wS wd), V.int x]) ht).trans ((same_new (o := .tup [V.int (mixN c 12 % 9)]) ht1).trans ((same_new (o := .tup ([V.str (wS wd), V.int x] ++ [V.int (mixN c 12 % 9)])) hp).trans (same_new (o := .tup (r.map V.int)) ht3)))
      refine ⟨p, t3, _, _, rfl, rfl, SqT.of (same_new ht3 _ _ upd_same), SqT.of upd_same, (by intro e; cases e), ?_, fun e => ?_, fun _ p4 hp4 => ?_⟩
      · have := ar.len
        rw [List.length_map]
        show 3 + r.length ≤ sizeLine
        have h9 : (9 : Nat) ≤ sizeLine := by decide
        rw [List.length_cons, List.length_cons] at this
        omega
      · have er : r = [] := List.map_eq_nil_iff.mp e
        subst er
        exact q wd [x, (mixN c 12 % 9)] _ _ ar' (near_t ns') (fun h => absurd h nn) s3 ⟨p, rfl, same_new ht3 _ _ upd_same⟩
      · exact q wd (x :: (mixN c 12 % 9) :: r) _ _ ar' (near_t ns') (fun h => absurd h nn) (s3.trans (same_new hp4)) ⟨p4, rfl, upd_same⟩
  · have hz : inN y := hy
    obtain ⟨z, ez⟩ : ∃ z, z = y := ⟨y, rfl⟩
    rw [← ez] at hz
    refine ⟨_, rfl, b, _, _, _, rfl, rfl, SqT.of hb, at0, rfl, _, rfl, ite2 (fun cs => ?_) (fun cs => ?_)⟩
    · obtain rfl : wd = .sum := w_hit cs
      have l0 : 0 ≤ y % 10 ^ 39 := Int.emod_nonneg _ (by decide +kernel)
      have l1 : y % 10 ^ 39 < 10 ^ 39 := Int.emod_lt_of_pos _ p39
      have g0 : 0 ≤ mixN c 13 % 9 := Int.emod_nonneg _ (by decide)
      have g1 : mixN c 13 % 9 < 9 := Int.emod_lt_of_pos _ (by decide)
      refine ⟨_, rfl, b, _, _, _, rfl, rfl, SqT.of hb, at1, _, rfl, _, _, rfl, rfl, ⟨by decide, by decide, by decide⟩, _, _, rfl, rfl, p39, _, rfl, _, _, rfl, rfl, ⟨by decide, by decide, by decide⟩, _, _, rfl, rfl, p39, _, rfl, _, _, rfl, _, _, rfl, rfl, (by show (0 : Int) < 9; decide), _, _, rfl, rfl, (by show 4 ≤ sizeLine; decide), fun t ht => ?_⟩
      exact q .sum [x, y % 10 ^ 39, y % 10 ^ 39 + mixN c 13 % 9] _ _ ⟨hx, ⟨l0, by omega⟩, ⟨by omega, by omega⟩, by omega⟩ (show _ < _ by omega) (fun h => by cases h) (same_new ht) ⟨t, rfl, upd_same⟩
    · have ns' := w_miss (b := .sum) cs
      have ar' := ar
      refine ⟨_, rfl, _, rfl, b, _, rfl, SqT.of hb, cut_2_no _ _ _ _, fun t ht => ?_⟩
      rw [show cutV (V.str (wS wd) :: List.map V.int (x :: y :: r)) none (some 2) = [V.str (wS wd), V.int x] from cut_2 _ _ _ _]
      refine ⟨_, rfl, (by show 1 ≤ sizeLine; decide), fun t1 ht1 => ⟨t, t1, _, _, rfl, rfl, SqT.of (same_new ht1 _ _ upd_same), SqT.of upd_same, (by intro e; cases e), (by show 3 ≤ sizeLine; decide), (fun e => by cases e), fun _ p hp => ?_⟩⟩
      refine ⟨_, rfl, _, rfl, b, _, rfl, SqT.of (same_new hp _ _ (same_new ht1 _ _ (same_new ht _ _ hb))), cut_3_no _ _ _ _, fun t3 ht3 => ?_⟩
      rw [show cutV (V.str (wS wd) :: List.map V.int (x :: y :: r)) (some 3) none = r.map V.int from cut_3 _ _ _ _]
      have s3 := (same_new (o := .tup [V.str (wS wd), V.int x]) ht).trans ((same_new (o := .tup [V.int y]) ht1).trans ((same_new (o := .tup ([V.str (wS wd), V.int x] ++ [V.int y])) hp).trans (same_new (o := .tup (r.map V.int)) ht3)))
      refine ⟨p, t3, _, _, rfl, rfl, SqT.of (same_new ht3 _ _ upd_same), SqT.of upd_same, (by intro e; cases e), ?_, fun e => ?_, fun _ p4 hp4 => ?_⟩
      · have := ar.len
        rw [List.length_map]
        show 3 + r.length ≤ sizeLine
        have h9 : (9 : Nat) ≤ sizeLine := by decide
        rw [List.length_cons, List.length_cons] at this
        omega
      · have er : r = [] := List.map_eq_nil_iff.mp e
        subst er
        exact q wd [x, y] _ _ ar' (near_t ns') (fun h => absurd h nn) s3 ⟨p, rfl, same_new ht3 _ _ upd_same⟩
      · exact q wd (x :: y :: r) _ _ ar' (near_t ns') (fun h => absurd h nn) (s3.trans (same_new hp4)) ⟨p4, rfl, upd_same⟩
end
end K23
set_option maxHeartbeats 4000000
namespace K23
open PySem L2 Lo St
section
variable {P : Program} {w : World} {K : PySem.W.Frag} {mg : Str → Option Value} {base : Heap} {f CL : Addr} {fd : FuncData} {C : Kd → Addr} {CW : Wd → Addr}
abbrev s_lval : Stmt := (defBody s_law).getD 5 (.Pass default)
def dI (D : List (Int × Int)) : List (Key × V) := D.map fun p => (.inl p.1, .int p.2)
def getI (D : List (Int × Int)) (c : Int) : Option Int := (D.find? fun p => decide (p.1 = c)).map (·.2)
def valD (e : Int → Int) (D : List (Int × Int)) (c : Int) : Int := (getI D c).getD (e c)
theorem valV_dI (c : Int) : ∀ D : List (Int × Int), valV (dI D) (.inl c) = (getI D c).map V.int
  | [] => rfl
  | p :: r => by
    show valV ((Sum.inl p.1, V.int p.2) :: dI r) (.inl c) = _
    by_cases e : p.1 = c
    · rw [valV_pos (p := (Sum.inl p.1, V.int p.2)) (congrArg Sum.inl e)]
      simp [getI, List.find?_cons, e]
    · rw [valV_neg (p := (Sum.inl p.1, V.int p.2)) (fun z => e (Sum.inl.inj z)), valV_dI c r]
      simp [getI, List.find?_cons, e]
theorem val_dI (e : Int → Int) (D : List (Int × Int)) (c : Int) : (valV (dI D) (.inl c)).getD (.int (e c)) = .int (valD e D c) := by
  rw [valV_dI]
  unfold valD
  cases getI D c <;> rfl
def tExC {ι : Type} (t : ι → TE) : TE := fun σ H Q => ∃ i, t i σ H Q
theorem pe_exC {X : Cx} {e : Expr} {ι : Type} {t : ι → TE} (h : ∀ i, PE X e (t i)) : PE X e (tExC t) := fun pins s σ H Q I q => by
  obtain ⟨i, q⟩ := q
  exact h i pins s σ H Q I q
theorem lkC1 {x y : Str} {c a : Addr} (h : [(x, c)].lookup y = some a) : y = x ∧ a = c := by
  unfold List.lookup at h
  split at h
  · rename_i e
    exact ⟨eq_of_beq e, (Option.some.inj h).symm⟩
  · cases h
theorem lkC2 {x1 x2 y : Str} {c1 c2 a : Addr} (h : [(x1, c1), (x2, c2)].lookup y = some a) : (y = x1 ∧ a = c1) ∨ (y = x2 ∧ a = c2) := by
  unfold List.lookup at h
  split at h
  · rename_i e
    exact .inl ⟨eq_of_beq e, (Option.some.inj h).symm⟩
  · exact .inr (lkC1 h)
theorem clo_fn {q : Str} {fv c cL cS : Addr} {fo oc : Obj} (M : MadeAt q "_law_value" (defArgs s_lval) (defBody s_lval) (defScope s_lval) [("_law_values", cL), ("_law_salt", cS)] fv c fo oc) (ne : cL ≠ cS) :
    ∃ fd0 fdv, fo.data = .func fd0 ∧ Binds K fdv ["_law_cell_here"] [] ∧ ∀ (base : Heap) (la : Addr) (salt : Int) (D : List (Int × Int)), PinB [(fv, fo), (c, oc)] [(cL, .ref la), (cS, .int salt)] base → GF P w K mg base CX0 3 "_law_either" ["_law_cell_here", "_law_k"] spEiX → FnOk P w K mg base CX0 4 fv fdv ["_law_cell_here"] (spDV (valD (fun x => eiN (salt + x) 6) D) la (dI D)) := by
  obtain ⟨⟨doc, pm, ct, hfo⟩, hoc⟩ := M
  refine ⟨_, _, by rw [hfo], ?_, fun base la salt D hB GE => fn_clo (N := ["_law_cell_here", "_law_values", "_law_salt"]) (fvs := [.ref la, .int salt]) hfo hoc hB ⟨rfl, rfl, rfl, by decide +kernel, rfl, rfl, by decide +kernel, fun y hy => ?_, fun y z a h1 h2 => ?_⟩ rfl (fun y a h => ?_) (fun j y v h1 h2 => ?_) (fun vs H Q E h => ?_) (fun A outer s H v Q E hr h => ?_)⟩
  · exact .all fun us hl => by
      match us, hl with
      | [u], _ => rfl
  · have e : y = "_law_values" ∨ y = "_law_salt" := (by decide +kernel : ∀ p ∈ (defScope s_lval).names, p.2 = NameKind.free → p.1 = ("_law_values" : Str) ∨ p.1 = ("_law_salt" : Str)) _ (PySem.mem_of_lookup hy) rfl
    rcases e with e | e
    · subst e
      exact ⟨cL, rfl⟩
    · subst e
      exact ⟨cS, rfl⟩
  · rcases lkC2 h1 with ⟨rfl, rfl⟩ | ⟨rfl, rfl⟩
    · rcases lkC2 h2 with ⟨rfl, e⟩ | ⟨_, e⟩
      · rfl
      · exact absurd e ne
    · rcases lkC2 h2 with ⟨_, e⟩ | ⟨rfl, e⟩
      · exact absurd e.symm ne
      · rfl
  · rcases lkC2 h with ⟨_, rfl⟩ | ⟨_, rfl⟩
    · exact ⟨_, List.mem_cons_self⟩
    · exact ⟨_, List.mem_cons_of_mem _ List.mem_cons_self⟩
  · cases j with
    | zero =>
      cases h1
      cases h2
      refine ⟨rfl, cL, rfl, fun v' hm => ?_⟩
      rcases List.mem_cons.mp hm with e | e
      · cases e
        rfl
      · cases List.mem_singleton.mp e
        exact absurd rfl ne
    | succ j =>
      cases j with
      | zero =>
        cases h1
        cases h2
        refine ⟨rfl, cS, rfl, fun v' hm => ?_⟩
        rcases List.mem_cons.mp hm with e | e
        · cases e
          exact absurd rfl ne
        · cases List.mem_singleton.mp e
          rfl
      | succ j => cases h2
  · obtain ⟨x, rfl, _⟩ := h
    rfl
  · obtain ⟨x, e, hla, q⟩ := h
    cases e
    refine ⟨_, pss_one (ps_ret (pe_dget2 (hun (c := 0) hr) (pv 1) (pv 0) (pc GE hr (pa_cons (pe_op op_add (pv 2) (pv 0)) (pa_cons pe_int pa_nil))) ⟨rfl, rfl, rfl, rfl⟩)), ?_⟩
    refine ⟨_, rfl, la, rfl, .inl ⟨_, .inl hla⟩, _, rfl, _, rfl, _, rfl, _, _, rfl, rfl, _, _, rfl, _, DGet.k (k := .inl x) hla, ?_⟩
    have ev : (valV (dI D) (Sum.inl x)).getD (V.int (eiN (salt + x) 6)) = .int (valD (fun x => eiN (salt + x) 6) D x) := val_dI (fun x => eiN (salt + x) 6) D x
    rw [ev]
    exact q
theorem clo_val {q : Str} {fv c cL cS la : Addr} {fo oc : Obj} {salt : Int} {D : List (Int × Int)} (M : MadeAt q "_law_value" (defArgs s_lval) (defBody s_lval) (defScope s_lval) [("_law_values", cL), ("_law_salt", cS)] fv c fo oc) (ne : cL ≠ cS) (hB : PinB [(fv, fo), (c, oc)] [(cL, .ref la), (cS, .int salt)] base)
    (GE : GF P w K mg base CX0 3 "_law_either" ["_law_cell_here", "_law_k"] spEiX) : CloV P w K mg base fv (spDV (valD (fun x => eiN (salt + x) 6) D) la (dI D)) := by
  obtain ⟨fd0, fdv, e, b, F⟩ := clo_fn (P := P) (w := w) (K := K) (mg := mg) M ne
  exact ⟨fo, fd0, fdv, hB.1 _ List.mem_cons_self, e, F base la salt D hB GE, b⟩
theorem pe_lval {X : Cx} {i : Nat} {q : Str} {fv c cL cS la : Addr} {fo oc : Obj} {salt : Int} {D : List (Int × Int)} {e : Expr} {p pos : Pos} {t : TA} {E : XK} (hN : X.N[i]? = some "_law_value") (hv : Vis X.env.scope "_law_value") (M : MadeAt q "_law_value" (defArgs s_lval) (defBody s_lval) (defScope s_lval) [("_law_values", cL), ("_law_salt", cS)] fv c fo oc) (ne : cL ≠ cS)
    (hp : ∀ p ∈ [(fv, fo), (c, oc)], p ∈ X.pn) (GEB : ∀ Bh : Heap, X.K.In Bh → GF X.prog X.w X.K X.mg Bh CX0 3 "_law_either" ["_law_cell_here", "_law_k"] spEiX) (hr : Room 4 X.A) (hx : Passes CX0 X E) (ha : PA X [e] t) (he : starEach [e] X.env = [(false, eval e X.env)] := by rfl) :
    PE X (.Call (.Name "_law_value" p) [e] [] pos) (tCallPV X [(cL, .ref la), (cS, .int salt)] i fv (spDV (valD (fun x => eiN (salt + x) 6) D) la (dI D)) E t) := by
  obtain ⟨fd0, fdv, e, b, F⟩ := clo_fn (P := X.prog) (w := X.w) (K := X.K) (mg := X.mg) M ne
  exact pe_callPV hN hv (hp _ List.mem_cons_self) e (fun B kin pb => F B la salt D pb (GEB B kin)) hr b hx hp ha (by decide) (by decide) he
end
end K23
set_option maxHeartbeats 4000000
namespace K23
open PySem L2 Lo St
section
variable {P : Program} {w : World} {K : PySem.W.Frag} {mg : Str → Option Value} {base : Heap} {f CL : Addr} {fd : FuncData} {C : Kd → Addr} {CW : Wd → Addr}
def putI (D : List (Int × Int)) (c v : Int) : List (Int × Int) := if (D.any fun p => decide (p.1 = c)) = true then D.map (fun p => if p.1 = c then (p.1, v) else p) else D ++ [(c, v)]
theorem put_dI (D : List (Int × Int)) (c v : Int) : putK (dI D) (.inl c) (.int v) = dI (putI D c v) := by
  have e : ((dI D).any fun kv => decide (kv.1 = (Sum.inl c : Key))) = (D.any fun p => decide (p.1 = c)) := by
    unfold dI
    rw [List.any_map]
    congr 1
    funext p
    by_cases h : p.1 = c
    · simp [h]
    · have h' : ¬ ((Sum.inl p.1 : Key) = Sum.inl c) := fun z => h (Sum.inl.inj z)
      simp [h, h']
  unfold putK putI
  rw [e]
  split
  · unfold dI
    rw [List.map_map, List.map_map]
    apply List.map_congr_left
    intro p _
    by_cases h : p.1 = c
    · simp [h]
    · have h' : ¬ ((Sum.inl p.1 : Key) = Sum.inl c) := fun z => h (Sum.inl.inj z)
      simp [h, h']
  · unfold dI
    rw [List.map_append]
    rfl
theorem put_len (D : List (Int × Int)) (c v : Int) : (putI D c v).length ≤ D.length + 1 := by
  unfold putI
  split
  · rw [List.length_map]
    omega
  · rw [List.length_append]
    exact Nat.le_refl _
theorem getI_miss {c : Int} : ∀ {D : List (Int × Int)}, ¬ (D.any fun p => decide (p.1 = c)) = true → getI D c = none
  | [], _ => rfl
  | p :: r, h => by
    have h1 : ¬ p.1 = c := fun z => h (by simp [z])
    have h2 : ¬ (r.any fun p => decide (p.1 = c)) = true := fun z => h (by rw [List.any_cons, z, Bool.or_true])
    have := getI_miss h2
    unfold getI at this ⊢
    rw [List.find?_cons_of_neg (by simpa using h1)]
    exact this
theorem getI_app {c : Int} : ∀ {D E : List (Int × Int)}, getI (D ++ E) c = (getI D c).or (getI E c)
  | [], E => by simp [getI]
  | p :: r, E => by
    have ih := getI_app (c := c) (D := r) (E := E)
    unfold getI at ih ⊢
    rw [List.cons_append]
    by_cases h : p.1 = c
    · rw [List.find?_cons_of_pos (by simpa using h), List.find?_cons_of_pos (by simpa using h)]
      rfl
    · rw [List.find?_cons_of_neg (by simpa using h), List.find?_cons_of_neg (by simpa using h)]
      exact ih
theorem getI_map {c v x : Int} : ∀ {D : List (Int × Int)}, getI (D.map fun p => if p.1 = c then (p.1, v) else p) x = if x = c then (if (D.any fun p => decide (p.1 = c)) = true then some v else none) else getI D x
  | [] => by
    by_cases h : x = c <;> simp [getI, h]
  | p :: r => by
    have ih := getI_map (c := c) (v := v) (x := x) (D := r)
    unfold getI at ih ⊢
    rw [List.map_cons]
    by_cases hx : x = c
    · subst hx
      rw [if_pos rfl] at ih ⊢
      by_cases h : p.1 = x
      · rw [List.find?_cons_of_pos (by simp [h])]
        simp [h]
      · rw [List.find?_cons_of_neg (by simp [h])]
        rw [ih, List.any_cons, decide_eq_false h, Bool.false_or]
    · rw [if_neg hx] at ih ⊢
      by_cases h : p.1 = x
      · have h' : ¬ p.1 = c := fun z => hx (h.symm.trans z)
        rw [if_neg h', List.find?_cons_of_pos (by simp [h]), List.find?_cons_of_pos (by simp [h])]
      · have e : ∀ q : Int × Int, (if p.1 = c then (p.1, v) else p).1 = p.1 := fun _ => by split <;> rfl
        rw [List.find?_cons_of_neg (by simp [e p, h]), List.find?_cons_of_neg (by simp [h])]
        exact ih
theorem getI_put (D : List (Int × Int)) (c v x : Int) : getI (putI D c v) x = if x = c then some v else getI D x := by
  unfold putI
  split
  · rename_i h
    rw [getI_map, if_pos h]
  · rename_i h
    rw [getI_app]
    by_cases hx : x = c
    · subst hx
      rw [getI_miss h, if_pos rfl]
      simp [getI]
    · rw [if_neg hx]
      have : getI [(c, v)] x = none := getI_miss (by simp; exact fun z => hx z.symm)
      rw [this]
      cases getI D x <;> rfl
theorem getI_mem {D : List (Int × Int)} {p : Int × Int} (h : p ∈ D) : ∃ v, getI D p.1 = some v := by
  cases e : getI D p.1 with
  | some v => exact ⟨v, rfl⟩
  | none =>
    unfold getI at e
    rw [Option.map_eq_none_iff, List.find?_eq_none] at e
    exact absurd (decide_eq_true rfl) (e p h)
theorem valD_put (e : Int → Int) (D : List (Int × Int)) (c v x : Int) : valD e (putI D c v) x = if x = c then v else valD e D x := by
  unfold valD
  rw [getI_put]
  split <;> rfl
def moreN (M : List (Int × Int)) (c : Int) : Int := (getI M c).getD 0
theorem more_put (M : List (Int × Int)) (c v x : Int) : moreN (putI M c v) x = if x = c then v else moreN M x := by
  unfold moreN
  rw [getI_put]
  split <;> rfl
def amt (p : Wd × List Int) (c : Int) : Int := match p.1, p.2 with
  | .add, [_, d, v] => if c = d then v else 0
  | _, _ => 0
def sumA (A : List (Wd × List Int)) (c : Int) : Int := (A.map fun p => amt p c).sum
theorem sumA_snoc (A : List (Wd × List Int)) (p : Wd × List Int) (c : Int) : sumA (A ++ [p]) c = sumA A c + amt p c := by
  unfold sumA
  rw [List.map_append, List.sum_append]
  simp
def putsI (D : List (Int × Int)) : List (Int × Int) → List (Int × Int)
  | [] => D
  | c :: _ => putI D c.1 c.2
theorem puts_dI (D cs : List (Int × Int)) : putD (dI D) cs = dI (putsI D cs) := by
  cases cs with
  | nil => rfl
  | cons c cs => exact put_dI D c.1 c.2
theorem puts_len (D cs : List (Int × Int)) : (putsI D cs).length ≤ D.length + 1 := by
  cases cs with
  | nil => exact Nat.le_succ _
  | cons c cs => exact put_len D c.1 c.2
theorem done_val {wd : Wd} {ns : List Int} {hand : Int} {e : Int → Int} {D : List (Int × Int)} {r : Int × List (Int × Int)} (ar : Ar wd ns) (ng : wd ≠ .give) (h : Dn (valD e D) wd ns hand = some r) (c : Int) :
    valD e (putsI D r.2) c = valD e D c + amt (wd, ns) c ∧ ∀ x ∈ r.2, ownV wd ns = .int x.1 := by
  unfold Ar at ar
  split at ar
  all_goals first | exact ar.elim | contradiction | skip
  all_goals first
    | (cases h; exact ⟨(Int.add_zero _).symm, fun x hx => by cases hx⟩)
    | skip
  · cases h
    refine ⟨?_, fun x hx => ?_⟩
    · show valD e (putI D _ _) c = valD e D c + (if c = _ then _ else 0)
      rw [valD_put]
      split
      · rename_i z
        rw [z]
      · exact (Int.add_zero _).symm
    · cases List.mem_singleton.mp hx
      rfl
  · rename_i v
    have h : (if hand < v then none else some (hand, [])) = some r := h
    split at h
    · cases h
    · cases h
      exact ⟨(Int.add_zero _).symm, fun x hx => by cases hx⟩
theorem done_some {wd : Wd} {ns : List Int} {hand : Int} (val : Int → Int) (ar : Ar wd ns) (nd : wd = .need → ∀ x ∈ ns, x ≤ hand) : ∃ r, Dn val wd ns hand = some r := by
  unfold Ar at ar
  split at ar
  all_goals first | exact ar.elim | exact ⟨_, rfl⟩ | skip
  rename_i v
  have h := nd rfl v List.mem_cons_self
  exact ⟨_, if_neg (by omega)⟩
theorem back_val {wd : Wd} {ns : List Int} {e : Int → Int} {D : List (Int × Int)} (c : Int) :
    valD e (putsI D (bkN (valD e D) wd ns)) c = valD e D c - amt (wd, ns) c ∧ ∀ x ∈ bkN (valD e D) wd ns, ownV wd ns = .int x.1 := by
  unfold bkN
  split
  · refine ⟨?_, fun x hx => ?_⟩
    · show valD e (putI D _ _) c = valD e D c - (if c = _ then _ else 0)
      rw [valD_put]
      split
      · rename_i z
        rw [z]
      · exact (Int.sub_zero _).symm
    · cases List.mem_singleton.mp hx
      rfl
  · refine ⟨?_, fun x hx => by cases hx⟩
    have z : amt (wd, ns) c = 0 := by
      unfold amt
      split
      · rename_i hn _ _ _ _ _ h1 h2
        exact absurd h2 (hn _ _ _ h1)
      · rfl
    rw [z]
    exact (Int.sub_zero _).symm
end
end K23
set_option maxHeartbeats 4000000
namespace K23
open PySem L2 Lo St
section
variable {P : Program} {w : World} {K : PySem.W.Frag} {mg : Str → Option Value} {base : Heap} {f CL : Addr} {fd : FuncData} {C : Kd → Addr} {CW : Wd → Addr}
def fx : HO → Prop
  | .tup _ => True
  | .ins .. => True
  | _ => False
def dnR (CW : Wd → Addr) (H : Hp) (p : Wd × List Int) (v : V) : Prop := ∃ t b c dx, v = .ref t ∧ H t = some (.tup [.ref b, .ref c]) ∧ H b = some (.tup (.str (wS p.1) :: p.2.map V.int)) ∧ H c = some (.ins (CW p.1) dx (fsOf p.1 p.2)) ∧ Ar p.1 p.2
theorem dnR.keep {H H' : Hp} {p : Wd × List Int} {v : V} (k : ∀ b o, fx o → H b = some o → H' b = some o) (h : dnR CW H p v) : dnR CW H' p v := by
  obtain ⟨t, b, c, dx, e, h1, h2, h3, h4⟩ := h
  exact ⟨t, b, c, dx, e, k _ _ trivial h1, k _ _ trivial h2, k _ _ trivial h3, h4⟩
structure Sv (CW : Wd → Addr) (H0 H : Hp) (a lv lm dn : Addr) (D M : List (Int × Int)) (A : List (Wd × List Int)) (xs : List V) : Prop where
  v : H lv = some (.dK (dI D))
  m : H lm = some (.dK (dI M))
  d : H dn = some (.lst xs)
  p : Paired (dnR CW H) A xs
  a : ∀ o, noT o → H0 a = some o → H a = some o
structure N4 (H0 : Hp) (a lv lm dn : Addr) : Prop where
  vm : lv ≠ lm
  vd : lv ≠ dn
  md : lm ≠ dn
  k : ∀ o, H0 a = some o → a ≠ lv ∧ a ≠ lm ∧ a ≠ dn
theorem sq_at {H H' : Hp} {a : Addr} {xs : List V} (e : ∀ o, noT o → H a = some o → H' a = some o) (h : SqL K H a xs) : SqL K H' a xs := by
  rcases h with (h | ⟨o, h⟩) | h
  · exact .inl (.inl (e _ trivial h))
  · exact .inl (.inr ⟨o, e _ trivial h⟩)
  · exact .inr h
section
variable {H0 H H' : Hp} {a lv lm dn : Addr} {D M D' M' : List (Int × Int)} {A : List (Wd × List Int)} {xs : List V}
theorem Sv.same (h : Sv CW H0 H a lv lm dn D M A xs) (s : Same H H') : Sv CW H0 H' a lv lm dn D M A xs :=
  ⟨s _ _ h.v, s _ _ h.m, s _ _ h.d, Paired.mapP h.p fun _ _ z => z.keep fun b o _ e => s b o e, fun o n e => s _ _ (h.a o n e)⟩
theorem Sv.put (N : N4 H0 a lv lm dn) (h : Sv CW H0 H a lv lm dn D M A xs) (k : Kp lv H H') (e : H' lv = some (.dK (dI D'))) : Sv CW H0 H' a lv lm dn D' M A xs :=
  ⟨e, k _ _ N.vm.symm h.m, k _ _ N.vd.symm h.d, Paired.mapP h.p fun _ _ z => z.keep fun b o f e' => k b o (fun y => by rw [y, h.v] at e'; cases e'; exact f) e', fun o n e => k _ _ (N.k o e).1 (h.a o n e)⟩
theorem Sv.more (N : N4 H0 a lv lm dn) (h : Sv CW H0 H a lv lm dn D M A xs) : Sv CW H0 (upd H lm (.dK (dI M'))) a lv lm dn D M' A xs :=
  ⟨(upd_ne N.vm).trans h.v, upd_same, (upd_ne N.md.symm).trans h.d, Paired.mapP h.p fun _ _ z => z.keep fun b o f e' => (upd_ne fun y => by rw [y, h.m] at e'; cases e'; exact f).trans e', fun o n e => (upd_ne (N.k o e).2.1).trans (h.a o n e)⟩
theorem Sv.snoc (N : N4 H0 a lv lm dn) {p : Wd × List Int} {v : V} (h : Sv CW H0 H a lv lm dn D M A xs) (r : dnR CW H p v) : Sv CW H0 (upd H dn (.lst (xs ++ [v]))) a lv lm dn D M (A ++ [p]) (xs ++ [v]) :=
  have k : ∀ b o, fx o → H b = some o → upd H dn (.lst (xs ++ [v])) b = some o := fun b o f e' => (upd_ne fun y => by rw [y, h.d] at e'; cases e'; exact f).trans e'
  ⟨(upd_ne N.vd).trans h.v, (upd_ne N.md).trans h.m, upd_same, Paired.snoc (Paired.mapP h.p fun _ _ z => z.keep k) (r.keep k), fun o n e => (upd_ne (N.k o e).2.2).trans (h.a o n e)⟩
end
theorem more_dI (M : List (Int × Int)) (c : Int) : (valV (dI M) (.inl c)).getD (.int 0) = .int (moreN M c) := val_dI (fun _ => 0) M c
abbrev eS (salt : Int) : Int → Int := fun x => eiN (salt + x) 6
theorem cells2 {X : Cx} {b c : Addr} {u v : V} {σ : St} (i j : Nat) (x y : Str) (h1 : X.N[i]? = some x ∧ σ[i]? = some (some u) ∧ X.env.kindOf x = some .cell ∧ X.env.cells.lookup x = some b ∧ X.fn x = true) (h2 : X.N[j]? = some y ∧ σ[j]? = some (some v) ∧ X.env.kindOf y = some .cell ∧ X.env.cells.lookup y = some c ∧ X.fn y = true) : CellsS X [(b, u), (c, v)] σ := fun p hm => by
  rcases List.mem_cons.mp hm with e | e
  · cases e
    exact ⟨i, x, h1⟩
  · cases List.mem_singleton.mp e
    exact ⟨j, y, h2⟩
def spLaw23 (K : PySem.W.Frag) (Pt : Addr) : Sp := fun vs H Q _ => ∃ a ns, vs = [.ref a] ∧ SqL K H a ((ns : List Int).map V.int) ∧ ns.length ≤ 63 ∧ H Pt = some (.tbl #[]) ∧ ∀ H', Q (.bl true) H'
theorem ok_law {cc Pt : Addr} {fS fB : Wd → Addr} {dS dB : Wd → FuncData} (F : Fun K "law" "law" s_law f fd) (B : TxB mg) (T : TxW K CW) (hB : BB mg base) (hcc : fd.code = .ref cc) (hC : PySem.W.codeHdIn K cc Pt = true) (hrev : mg "reversed" = none)
    (GA : GF P w K mg base CX0 1 "_law_cell" ["_law_script", "_law_k"] (spCell K)) (GE : GF P w K mg base CX0 3 "_law_either" ["_law_cell_here", "_law_k"] spEiX) (GS : GF P w K mg base CX0 4 "_law_step" ["_law_cell_here"] spLStep) (GC : GF P w K mg base CX0 2 "_law_close" ["_law_step_here", "_law_cell_here", "_law_hand"] spClose)
    (GMa : GF P w K mg base CX0 5 "_law_made" ["_law_step_here"] (spLMade CW)) (GP : GF P w K mg base CX0 2 "_law_put" ["_law_values", "_law_changes", "_law_own_here"] spPut) (GO : GF P w K mg base CX0 1 "_law_own" ["_law_step_here"] spOwn) (WG : WI P w K mg base CW .give)
    (GEB : ∀ Bh : Heap, K.In Bh → GF P w K mg Bh CX0 3 "_law_either" ["_law_cell_here", "_law_k"] spEiX)
    (HS : ∀ (wd : Wd) (Bh : Heap) (fv : Addr) (val : Int → Int) (la : Addr) (kvs : List (Key × V)), K.In Bh → CloV P w K mg Bh fv (spDV val la kvs) → FnOk P w K mg Bh CX0 5 (fS wd) (dS wd) ["self", "hand", "value_of"] (spDone CW val la fv kvs wd)) (mS : ∀ wd, Meth K (CW wd) "step_done" (fS wd)) (bS : ∀ wd, Binds K (dS wd) ["self", "hand", "value_of"] [])
    (HK : ∀ (wd : Wd) (Bh : Heap) (fv : Addr) (val : Int → Int) (la : Addr) (kvs : List (Key × V)), K.In Bh → CloV P w K mg Bh fv (spDV val la kvs) → FnOk P w K mg Bh CX0 5 (fB wd) (dB wd) ["self", "value_of"] (spBack CW val la fv kvs wd)) (mB : ∀ wd, Meth K (CW wd) "back" (fB wd)) (bB : ∀ wd, Binds K (dB wd) ["self", "value_of"] []) :
    FnOk P w K mg base CX0 6 f fd ["_law_script"] (spLaw23 K Pt) := by
  refine F.okC sc_law (fun vs H Q E h => ?_) (fun A outer s H vs Q E hr h => ?_)
  · obtain ⟨a, ns, rfl, _⟩ := h
    rfl
  obtain ⟨a, ns, rfl, hS, hl, hP, q⟩ := h
  have nd := sc_law.nd
  have ne : s.heap.objs.size + 2 ≠ s.heap.objs.size + 1 := by omega
  have hr4 : Room 4 _ := hr.mono (by decide)
  have hr3 : Room (2 + 1) _ := hr.mono (by decide)
  refine ⟨_, pss_cons (ps_set (i := 1) nd rfl (Or.inr rfl) (pe_op op_mod (pc GA hr (pa_cons (pv 0) (pa_cons pe_int pa_nil))) pe_int))
    (pss_cons (ps_set (i := 2) nd rfl (Or.inl rfl) (pc GE hr (pa_cons (pv 1) (pa_cons pe_int pa_nil))))
    (pss_cons (ps_set (i := 3) nd rfl (Or.inr rfl) pe_dnewK)
    (pss_cons (ps_set (i := 4) nd rfl (Or.inl rfl) pe_dnewK)
    (pss_cons (ps_set (i := 5) nd rfl (Or.inl rfl) (pe_lst pa_nil))
    (pss_def (i := 6) hcc hC hB rfl (clos := [("_law_values", s.heap.objs.size + 2), ("_law_salt", s.heap.objs.size + 1)]) rfl rfl rfl rfl nd rfl rfl (fun fv cv fo oc Mv =>
    pss_cons (ps_for PassesOwn.never rfl (pi_list (pe_slice sl_list (pv 0) (po_some pe_int) (po_some pe_int))) (pg_name (i := 7) nd rfl (Or.inl rfl))
      (pss_cons (ps_set (i := 8) nd rfl (Or.inl rfl) (pc GC hr (pa_cons (pc GS hr (pa_cons (pv 7) pa_nil)) (pa_cons (pv 7) (pa_cons (pv 2) pa_nil)))))
      (pss_one (ps_if (pt_cmpR op_ne (pe_ix (r := rIxT K) ix_tup (pv 8) pe_int (fun _ _ => rfl)) pe_str (nomark _))
        (pss_cons (ps_set (i := 9) nd rfl (Or.inl rfl) (pc GMa hr (pa_cons (pv 8) pa_nil)))
        (pss_cons (ps_asg (pe_exC fun z : Addr × List (Int × Int) × Wd => pe_methV (cs := [(s.heap.objs.size + 2, .ref z.1), (s.heap.objs.size + 1, .int (cellAt ns 0 % 1000003))]) (pp := [(fv, fo), (cv, oc)]) (pv 9) (T.cl z.2.2) (mS z.2.2) (fun Bh kin pb => HS z.2.2 Bh fv _ z.1 (dI z.2.1) kin (clo_val Mv ne pb (GEB Bh kin))) hr (bS z.2.2) pass0 (fun p hp => List.mem_append_left _ hp) (pa_cons (pv 2) (pa_cons (pv 6) pa_nil)))
          (pg_tup (n := 2) rfl (pgs_cons (pg_name (i := 2) nd rfl (Or.inl rfl)) (pgs_cons (pg_name (i := 10) nd rfl (Or.inl rfl)) pgs_nil))))
        (pss_cons (ps_if (pt_not (pt_val (pc GP hr (pa_cons (pv 3) (pa_cons (pv 10) (pa_cons (pc GO hr (pa_cons (pv 8) pa_nil)) pa_nil)))))) pss_never pss_nil)
        (pss_one (ps_expr (pe_bm PySem.F.plainAttrs_list PySem.F.slot_list_append PySem.F.type_list_append mt_append (pv 5) (pa_cons (pe_tup (pa_cons (pv 8) (pa_cons (pv 9) pa_nil))) pa_nil))))))) pss_nil))))
    (pss_cons (ps_for PassesOwn.never rfl (pi_list (pe_slice sl_list (pv 0) (po_some pe_int) (po_some pe_int))) (pg_name (i := 7) nd rfl (Or.inl rfl))
      (pss_cons (ps_set (i := 11) nd rfl (Or.inl rfl) (pe_op op_mod (pv 7) pe_int))
      (pss_cons (ps_dput (hun (c := 0) hr) (pv 4) (pv 11) (pe_op op_add (pe_dget2 (hun (c := 0) hr) (pv 4) (pv 11) pe_int ⟨rfl, rfl, rfl, rfl⟩) (pc GE hr (pa_cons (pv 7) (pa_cons pe_int pa_nil)))) rfl)
      (pss_one (ps_dput (hun (c := 0) hr) (pv 3) (pv 11) (pe_op op_add (pe_exC fun z : Addr × List (Int × Int) => pe_lval (la := z.1) (D := z.2) (i := 6) (salt := cellAt ns 0 % 1000003) rfl (.inl rfl) Mv ne (fun p hp => List.mem_append_left _ hp) GEB hr4 pass0 (pa_cons (pv 11) pa_nil)) (pc GE hr (pa_cons (pv 7) (pa_cons pe_int pa_nil)))) rfl)))))
    (pss_cons (ps_for PassesOwn.never rfl (pi_rev rfl hrev (pa_cons (pv 5) pa_nil)) (pg_tup (n := 2) rfl (pgs_cons (pg_name (i := 8) nd rfl (Or.inl rfl)) (pgs_cons (pg_name (i := 9) nd rfl (Or.inl rfl)) pgs_nil)))
      (pss_one (ps_if (pt_not (pt_val (pc GP hr (pa_cons (pv 3) (pa_cons (pe_exC fun z : Addr × List (Int × Int) × Wd => pe_methV (cs := [(s.heap.objs.size + 2, .ref z.1), (s.heap.objs.size + 1, .int (cellAt ns 0 % 1000003))]) (pp := [(fv, fo), (cv, oc)]) (pv 9) (T.cl z.2.2) (mB z.2.2) (fun Bh kin pb => HK z.2.2 Bh fv _ z.1 (dI z.2.1) kin (clo_val Mv ne pb (GEB Bh kin))) hr (bB z.2.2) pass0 (fun p hp => List.mem_append_left _ hp) (pa_cons (pv 6) pa_nil)) (pa_cons (pc GO hr (pa_cons (pv 8) pa_nil)) pa_nil)))))) pss_never pss_nil)))
    (pss_cons (ps_for PassesOwn.never rfl (pi_list (pe_callTy (call_list_dk rfl) rfl B.list PyProof.Rows.boot_list (pa_cons (pv 3) pa_nil))) (pg_name (i := 11) nd rfl (Or.inl rfl))
      (pss_one (ps_if (pt_cmpR op_ne (pe_dget (hun (c := 0) hr) (pv 3) (pv 11) (fun _ _ => rfl)) (pe_op op_add (pc GE hr (pa_cons (pe_op op_add (pv 1) (pv 11)) (pa_cons pe_int pa_nil))) (pe_dget2 (hun (c := 0) hr) (pv 4) (pv 11) pe_int ⟨rfl, rfl, rfl, rfl⟩)) (nomark _)) pss_never pss_nil)))
    (pss_one (ps_ret (pe_cmpR (op_eqV 1 (hun (c := 0) hr)) (pe_exC fun z : Addr × List (Int × Int) => pe_methV (cs := [(s.heap.objs.size + 2, .ref z.1), (s.heap.objs.size + 1, .int (cellAt ns 0 % 1000003))]) (pp := [(fv, fo), (cv, oc)]) (pe_make WG.M WG.ok hr3 rfl WG.m WG.b .nil pass0 (pa_cons pe_int (pa_cons (pe_op op_mod (pc GA hr (pa_cons (pv 0) (pa_cons pe_int pa_nil))) pe_int) pa_nil))) (T.cl .give) (mB .give) (fun Bh kin pb => HK .give Bh fv _ z.1 (dI z.2) kin (clo_val Mv ne pb (GEB Bh kin))) hr (bB .give) pass0 (fun p hp => List.mem_append_left _ hp) (pa_cons (pv 6) pa_nil)) (pe_tup pa_nil) (nomark _))))))))))))), ?_⟩
  have z0 : 0 ≤ sizeLine := by decide
  have z2 : 2 ≤ sizeLine := by decide
  refine ⟨_, rfl, a, ns, 0, rfl, hS, _, _, rfl, rfl, (by show (0 : Int) < 1000003; decide), _, rfl, _, _, rfl, fun lv hlv lm hlm => ⟨z0, fun dn hdn => ?_⟩⟩
  have nvm : lv ≠ lm := fun z => by
    rw [← z, upd_same] at hlm
    cases hlm
  have nvd : lv ≠ dn := fun z => by
    rw [← z, upd_ne nvm, upd_same] at hdn
    cases hdn
  have nmd : lm ≠ dn := fun z => by
    rw [← z, upd_same] at hdn
    cases hdn
  have fr : ∀ b o, H b = some o → b ≠ lv ∧ b ≠ lm ∧ b ≠ dn := fun b o e => by
    have n1 : b ≠ lv := fun z => by
      rw [z, hlv] at e
      cases e
    have n2 : b ≠ lm := fun z => by
      rw [← z, upd_ne n1, e] at hlm
      cases hlm
    refine ⟨n1, n2, fun z => ?_⟩
    rw [← z, upd_ne n2, upd_ne n1, e] at hdn
    cases hdn
  have N : N4 H a lv lm dn := ⟨nvm, nvd, nmd, fun o e => fr a o e⟩
  have sA : Same H (upd (upd (upd H lv (.dK [])) lm (.dK [])) dn (.lst [])) := (same_new hlv).trans ((same_new hlm).trans (same_new hdn))
  have hPa := sA _ _ hP
  have vA : (upd (upd (upd H lv (.dK [])) lm (.dK [])) dn (.lst [])) lv = some (.dK []) := (upd_ne nvd).trans ((upd_ne nvm).trans upd_same)
  have mA : (upd (upd (upd H lv (.dK [])) lm (.dK [])) dn (.lst [])) lm = some (.dK []) := (upd_ne nmd).trans upd_same
  have dA : (upd (upd (upd H lv (.dK [])) lm (.dK [])) dn (.lst [])) dn = some (.lst []) := upd_same
  generalize (upd (upd (upd H lv (.dK [])) lm (.dK [])) dn (.lst [])) = Ha at sA hPa vA mA dA ⊢
  refine ⟨#[], hPa, trivial, rfl, fun fv cv fo oc Mv => ?_⟩
  generalize hHb : (upd Ha Pt (.tbl _)) = Hb
  have sx : SameX Ha Hb := fun b o n h => by
    rw [← hHb]
    by_cases z : b = Pt
    · subst z
      rw [hPa] at h
      cases h
      exact n.elim
    · rw [upd_ne z]
      exact h
  have svb : Sv CW H Hb a lv lm dn [] [] [] [] := ⟨sx _ _ trivial vA, sx _ _ trivial mA, sx _ _ trivial dA, .nil, fun o n e => sx _ _ n (sA _ _ e)⟩
  clear hHb sx vA mA dA hPa
  obtain ⟨cs, ecs, lcs⟩ := cut_ints ns (some 1) (some 7)
  refine ⟨_, rfl, _, rfl, _, rfl, a, _, rfl, sq_at svb.a hS, fun l hl0 => ?_⟩
  rw [ecs]
  have svc := svb.same (same_new (o := .lst (cs.map V.int)) hl0)
  have hlc : (upd Hb l (.lst (cs.map V.int))) l = some (.lst (cs.map V.int)) := upd_same
  have nl : l ≠ dn := fun z => by
    rw [z, svb.d] at hl0
    cases hl0
  generalize (upd Hb l (.lst (cs.map V.int))) = Hc at svc hlc ⊢
  refine ⟨l, rfl, ⟨_, SqL.of hlc⟩, ?_⟩
  generalize hsalt : cellAt ns 0 % 1000003 = salt
  refine for_list (xs := cs.map V.int) (fun i σ H' => H' l = some (.lst (cs.map V.int)) ∧ ∃ (D : List (Int × Int)) (A : List (Wd × List Int)) (xs : List V) (hand : Int) (x7 x8 x9 x10 x11 : Option V), Sv CW H H' a lv lm dn D [] A xs ∧ D.length ≤ i ∧ A.length ≤ i ∧ (∀ c, valD (eS salt) D c = eS salt c + sumA A c) ∧ σ = [some (.ref a), some (.int salt), some (.int hand), some (.ref lv), some (.ref lm), some (.ref dn), some (.ref fv), x7, x8, x9, x10, x11])
    ⟨hlc, [], [], [], _, none, none, none, none, none, svc, Nat.le_refl _, Nat.le_refl _, fun c => (Int.add_zero _).symm, by rw [← hsalt]; rfl⟩ (fun i σ H' _ z => SqL.of z.1) ?_ ?_
  · rintro i u σ H1 hu ⟨h1, D, A, xs, hand, x7, x8, x9, x10, x11, sv, hD, hA, hval, rfl⟩
    have hi : i < 64 := by
      have := (List.getElem?_eq_some_iff.mp hu).1
      rw [List.length_map] at this
      omega
    obtain ⟨c, rfl⟩ : ∃ c, u = V.int c := by
      rw [List.getElem?_map] at hu
      cases e : cs[i]? with
      | none => rw [e] at hu; cases hu
      | some c => rw [e] at hu; cases hu; exact ⟨c, rfl⟩
    refine ⟨_, rfl, c, rfl, fun wd1 ns1 v H2 ar1 s2 st => ⟨_, rfl, _, rfl, wd1, ns1, v, c, hand, rfl, st, ar1, fun wd ns2 v2 H3 ar nr nn s3 st2 => ?_⟩⟩
    obtain ⟨b8, rfl, hb8⟩ := st2
    have sv3 := sv.same (s2.trans s3)
    have h13 := s3 _ _ (s2 _ _ h1)
    refine ⟨_, rfl, b8, _, _, _, rfl, rfl, SqT.of hb8, at0, rfl, _, rfl, ite2 (fun cg => ?_) (fun cg => ?_)⟩
    · have ng : wd ≠ .give := fun z => by
        subst z
        exact absurd cg (by decide)
      refine ⟨_, rfl, wd, ns2, _, rfl, ⟨b8, rfl, hb8⟩, ar, fun u9 H4 s4 so => ?_⟩
      obtain ⟨a9, dx9, rfl, ha9⟩ := so
      have sv4 := sv3.same s4
      obtain ⟨r, hdn'⟩ := done_some (valD (eS salt) D) ar nn
      have no9 : ∀ m : Str, ¬ m = "where" → ¬ m = "cell" → ¬ m = "low" → ¬ m = "high" → ¬ m = "amount" → (fsOf wd ns2).lookup m = none := fun m q1 q2 q3 q4 q5 => fs_no q1 q2 q3 q4 q5 wd ns2
      refine ⟨(lv, D, wd), cells2 3 1 "_law_values" "_law_salt" ⟨rfl, rfl, rfl, rfl, rfl⟩ ⟨rfl, rfl, rfl, rfl, rfl⟩, _, rfl, a9, dx9, _, rfl, ha9, no9 _ (by decide +kernel) (by decide +kernel) (by decide +kernel) (by decide +kernel) (by decide +kernel), _, rfl, _, rfl, _, ns2, hand, rfl, ar, nr, ⟨a9, dx9, rfl, ha9⟩, sv4.v, r, hdn', fun u10 H5 s5 rt => ?_⟩
      obtain ⟨t10, aC, rfl, ht10, hc⟩ := rt
      have sv5 := sv4.same s5
      obtain ⟨hdv, hown⟩ : (∀ c, valD (eS salt) (putsI D r.2) c = valD (eS salt) D c + amt (wd, ns2) c) ∧ ∀ x ∈ r.2, ownV wd ns2 = .int x.1 := ⟨fun c => (done_val ar ng hdn' c).1, (done_val ar ng hdn' 0).2⟩
      have hb85 := s5 _ _ (s4 _ _ hb8)
      have ha95 := s5 _ _ ha9
      refine ⟨t10, _, rfl, SqT.of ht10, rfl, _, _, rfl, _, _, rfl, rfl, ?_⟩
      refine ⟨_, rfl, _, rfl, _, rfl, wd, ns2, _, rfl, ⟨b8, rfl, hb85⟩, ar, lv, dI D, aC, r.2, _, rfl, sv5.v, ?_, hc, hown, fun H6 e6 k6 => ⟨_, rfl, iteF ?_⟩⟩
      · show (dI D).length < 1000
        rw [dI, List.length_map]
        omega
      rw [puts_dI] at e6
      have sv6 := sv5.put N k6 e6
      have kx : ∀ b o, fx o → H5 b = some o → H6 b = some o := fun b o f e' => k6 b o (fun y => by rw [y, sv5.v] at e'; cases e'; exact f) e'
      have h15 := s5 _ _ (s4 _ _ h13)
      have h16 := k6 _ _ (fun y => by rw [y, sv5.v] at h15; cases h15) h15
      refine ⟨_, rfl, .inl ⟨rfl, _, SqL.of sv6.d⟩, _, rfl, _, rfl, z2, fun t ht => ?_⟩
      have s7 := same_new (o := .tup [.ref b8, .ref a9]) ht
      have sv7 := sv6.same s7
      have h17 := s7 _ _ h16
      have rt : dnR CW (upd H6 t (.tup [.ref b8, .ref a9])) (wd, ns2) (.ref t) := ⟨t, b8, a9, dx9, rfl, upd_same, s7 _ _ (kx _ _ trivial hb85), s7 _ _ (kx _ _ trivial ha95), ar⟩
      have hxl : xs.length = A.length := sv.p.len.symm
      refine ⟨dn, xs, _, rfl, rfl, sv7.d, ?_, (upd_ne nl).trans h17, putsI D r.2, A ++ [(wd, ns2)], xs ++ [.ref t], r.1, _, _, _, _, _, sv7.snoc N rt, ?_, ?_, fun c => ?_, rfl⟩
      · exact Nat.lt_of_lt_of_le (show xs.length < 64 by omega) (by decide)
      · have := puts_len D r.2
        omega
      · rw [List.length_append]
        exact Nat.succ_le_succ hA
      · rw [hdv, hval, sumA_snoc]
        omega
    · exact ⟨h13, D, A, xs, hand, _, _, _, _, _, sv3, Nat.le_succ_of_le hD, Nat.le_succ_of_le hA, hval, rfl⟩
  · rintro σ H1 ⟨_, D, A, xs, hand, x7, x8, x9, x10, x11, sv, hD, hA, hval, rfl⟩
    rw [List.length_map] at hD hA
    have hD1 : D.length ≤ 63 := by omega
    have hA1 : A.length ≤ 63 := by omega
    clear hlc nl lcs ecs svc svb hl0 hD hA
    obtain ⟨c2, ec2, lc2⟩ := cut_ints ns (some 7) (some 10)
    refine ⟨_, rfl, _, rfl, _, rfl, a, _, rfl, sq_at sv.a hS, fun l hl0 => ?_⟩
    rw [ec2]
    have svc := sv.same (same_new (o := .lst (c2.map V.int)) hl0)
    have hlc : (upd H1 l (.lst (c2.map V.int))) l = some (.lst (c2.map V.int)) := upd_same
    generalize (upd H1 l (.lst (c2.map V.int))) = Hd at svc hlc ⊢
    refine ⟨l, rfl, ⟨_, SqL.of hlc⟩, ?_⟩
    refine for_list (xs := c2.map V.int) (fun i σ H' => H' l = some (.lst (c2.map V.int)) ∧ ∃ (D M : List (Int × Int)) (x7 x8 x9 x10 x11 : Option V), Sv CW H H' a lv lm dn D M A xs ∧ D.length ≤ 63 + i ∧ M.length ≤ i ∧ (∀ c, valD (eS salt) D c = eS salt c + sumA A c + moreN M c) ∧ σ = [some (.ref a), some (.int salt), some (.int hand), some (.ref lv), some (.ref lm), some (.ref dn), some (.ref fv), x7, x8, x9, x10, x11])
      ⟨hlc, D, [], _, _, _, _, _, svc, hD1, Nat.le_refl _, fun c => (hval c).trans (Int.add_zero _).symm, rfl⟩ (fun i σ H' _ z => SqL.of z.1) ?_ ?_
    · clear hval svc hlc sv hD1 x7 x8 x9 x10 x11
      rintro i u σ H1 hu ⟨h1, D, M, x7, x8, x9, x10, x11, sv, hD, hM, hval, rfl⟩
      have hi : i < 64 := by
        have := (List.getElem?_eq_some_iff.mp hu).1
        rw [List.length_map] at this
        omega
      obtain ⟨c, rfl⟩ : ∃ c, u = V.int c := by
        rw [List.getElem?_map] at hu
        cases e : c2[i]? with
        | none => rw [e] at hu; cases hu
        | some c => rw [e] at hu; cases hu; exact ⟨c, rfl⟩
      refine ⟨_, rfl, _, _, rfl, rfl, (by show (0 : Int) < 9; decide), ?_⟩
      have ev := more_dI M (c % 9)
      refine ⟨_, rfl, lm, rfl, .inl ⟨_, .inl sv.m⟩, _, rfl, _, DGet.k (k := .inl (c % 9)) sv.m, ?_⟩
      rw [ev]
      refine ⟨_, rfl, c, 7, rfl, _, _, rfl, rfl, ?_⟩
      refine ⟨_, rfl, _, rfl, lm, _, rfl, DPut.k (k := .inl (c % 9)) sv.m ?_, ?_⟩
      · rw [dI, List.length_map]
        exact Nat.lt_of_lt_of_le (show M.length < 64 by omega) (by decide)
      rw [put_dI]
      have sv2 := sv.more (M' := putI M (c % 9) (moreN M (c % 9) + eiN c 7)) N
      have h12 : (upd H1 lm (.dK (dI (putI M (c % 9) (moreN M (c % 9) + eiN c 7))))) l = some (.lst (c2.map V.int)) := (upd_ne fun y => by rw [y, sv.m] at h1; cases h1).trans h1
      generalize (upd H1 lm (.dK (dI (putI M (c % 9) (moreN M (c % 9) + eiN c 7))))) = H2 at sv2 h12 ⊢
      refine ⟨(lv, D), cells2 3 1 "_law_values" "_law_salt" ⟨rfl, rfl, rfl, rfl, rfl⟩ ⟨rfl, rfl, rfl, rfl, rfl⟩, rfl, _, rfl, c % 9, rfl, sv2.v, ?_⟩
      refine ⟨_, rfl, c, 7, rfl, _, _, rfl, rfl, ?_⟩
      refine ⟨_, rfl, _, rfl, lv, _, rfl, DPut.k (k := .inl (c % 9)) sv2.v ?_, ?_⟩
      · rw [dI, List.length_map]
        exact Nat.lt_of_lt_of_le (show D.length < 200 by omega) (by decide)
      rw [put_dI]
      refine ⟨(upd_ne fun y => by rw [y, sv2.v] at h12; cases h12).trans h12, _, _, _, _, _, _, _, sv2.put N kp_upd upd_same, ?_, ?_, fun x => ?_, rfl⟩
      · exact Nat.le_trans (put_len D _ _) (by omega)
      · exact Nat.le_trans (put_len M _ _) (by omega)
      · rw [valD_put, more_put]
        split
        · rename_i z
          rw [z, hval]
          omega
        · exact hval x
    · clear hval svc hlc sv hD1 x7 x8 x9 x10 x11
      rintro σ H1 ⟨_, D, M, x7, x8, x9, x10, x11, sv, hD, hM, hval, rfl⟩
      rw [List.length_map] at hD hM
      have hD1 : D.length ≤ 126 := by omega
      clear lc2 ec2 hl0 hD hM
      have hxl : xs.length = A.length := sv.p.len.symm
      refine ⟨_, rfl, dn, xs, rfl, SqL.of sv.d, ?_⟩
      refine for_rev (xs := xs) (fun i σ H' => ∃ (D : List (Int × Int)) (x7 x8 x9 x10 x11 : Option V), Sv CW H H' a lv lm dn D M A xs ∧ D.length ≤ 126 + i ∧ (∀ c, valD (eS salt) D c = eS salt c + sumA (A.take (xs.length - i)) c + moreN M c) ∧ σ = [some (.ref a), some (.int salt), some (.int hand), some (.ref lv), some (.ref lm), some (.ref dn), some (.ref fv), x7, x8, x9, x10, x11])
        ⟨D, _, _, _, _, _, sv, hD1, fun c => by rw [Nat.sub_zero, hxl, List.take_length]; exact hval c, rfl⟩ (fun i σ H' _ z => by
          obtain ⟨_, _, _, _, _, _, z, _⟩ := z
          exact SqL.of z.d) ?_ ?_
      · clear hval sv hD1 x7 x8 x9 x10 x11
        rintro i u σ H1 hi hu ⟨D, x7, x8, x9, x10, x11, sv, hD, hval, rfl⟩
        obtain ⟨⟨wd, ns2⟩, hp, t, b8, a9, dx9, rfl, ht, hb8, ha9, ar⟩ := sv.p.get hu
        refine ⟨t, _, rfl, SqT.of ht, rfl, _, _, rfl, _, _, rfl, rfl, ?_⟩
        have no9 : ∀ m : Str, ¬ m = "where" → ¬ m = "cell" → ¬ m = "low" → ¬ m = "high" → ¬ m = "amount" → (fsOf wd ns2).lookup m = none := fun m q1 q2 q3 q4 q5 => fs_no q1 q2 q3 q4 q5 wd ns2
        refine ⟨_, rfl, (lv, D, wd), cells2 3 1 "_law_values" "_law_salt" ⟨rfl, rfl, rfl, rfl, rfl⟩ ⟨rfl, rfl, rfl, rfl, rfl⟩, _, rfl, a9, dx9, _, rfl, ha9, no9 _ (by decide +kernel) (by decide +kernel) (by decide +kernel) (by decide +kernel) (by decide +kernel), _, rfl, _, ns2, rfl, ar, ⟨a9, dx9, rfl, ha9⟩, sv.v, fun aC H2 s2 ch => ?_⟩
        have sv2 := sv.same s2
        refine ⟨_, rfl, wd, ns2, _, rfl, ⟨b8, rfl, s2 _ _ hb8⟩, ar, lv, dI D, aC, bkN (valD (eS salt) D) wd ns2, _, rfl, sv2.v, ?_, ch, (back_val 0).2, fun H3 e3 k3 => ⟨_, rfl, iteF ?_⟩⟩
        · show (dI D).length < 1000
          rw [dI, List.length_map]
          omega
        rw [puts_dI] at e3
        refine ⟨putsI D (bkN (valD (eS salt) D) wd ns2), _, _, _, _, _, sv2.put N k3 e3, Nat.le_trans (puts_len D _) (by omega), fun c => ?_, rfl⟩
        have et : A.take (xs.length - i) = A.take (xs.length - (i + 1)) ++ [(wd, ns2)] := by
          have e1 : xs.length - i = (xs.length - (i + 1)) + 1 := by omega
          have e2 : xs.length - 1 - i = xs.length - (i + 1) := by omega
          rw [e2] at hp
          rw [e1, List.take_add_one, hp]
          rfl
        have hv := hval c
        rw [et, sumA_snoc] at hv
        rw [(back_val c).1, hv]
        omega
      · clear hval sv hD1 x7 x8 x9 x10 x11
        rintro σ H1 ⟨D, x7, x8, x9, x10, x11, sv, hD, hval, rfl⟩
        refine ⟨_, rfl, lv, dI D, rfl, sv.v, fun l hl0 => ?_⟩
        have svc := sv.same (same_new (o := .lst ((dI D).map fun kv => kV kv.1)) hl0)
        have hlc : (upd H1 l (.lst ((dI D).map fun kv => kV kv.1))) l = some (.lst ((dI D).map fun kv => kV kv.1)) := upd_same
        generalize (upd H1 l (.lst ((dI D).map fun kv => kV kv.1))) = Hd at svc hlc ⊢
        refine ⟨l, rfl, ⟨_, SqL.of hlc⟩, ?_⟩
        refine for_list (xs := (dI D).map fun kv => kV kv.1) (fun i σ H' => Same Hd H' ∧ ∃ x11, σ = [some (.ref a), some (.int salt), some (.int hand), some (.ref lv), some (.ref lm), some (.ref dn), some (.ref fv), x7, x8, x9, x10, x11]) ⟨Same.refl _, _, rfl⟩ (fun i σ H' _ z => SqL.of (z.1 _ _ hlc)) ?_ ?_
        · rintro i u σ H2 hu ⟨s2, y, rfl⟩
          have sv2 := svc.same s2
          obtain ⟨p, hp, rfl⟩ : ∃ p ∈ D, u = V.int p.1 := by
            obtain ⟨kv, h1, rfl⟩ := List.mem_map.mp (List.mem_of_getElem? hu)
            obtain ⟨p, h2, rfl⟩ := List.mem_map.mp h1
            exact ⟨p, h2, rfl⟩
          obtain ⟨v, hv⟩ := getI_mem hp
          have hg := DGet.k (k := .inl p.1) sv2.v
          rw [valV_dI, hv] at hg
          have hvv := hval p.1
          rw [Nat.sub_self] at hvv
          have hz : v = eS salt p.1 + moreN M p.1 := by
            have e0 : sumA (A.take 0) p.1 = 0 := rfl
            rw [e0] at hvv
            unfold valD at hvv
            rw [hv] at hvv
            have hvv : v = eS salt p.1 + 0 + moreN M p.1 := hvv
            omega
          refine ⟨_, rfl, _, rfl, lv, .int v, rfl, hg, ?_⟩
          refine ⟨_, rfl, _, rfl, _, _, rfl, rfl, _, 6, rfl, ?_⟩
          refine ⟨_, rfl, lm, rfl, .inl ⟨_, .inl sv2.m⟩, _, rfl, _, DGet.k (k := .inl p.1) sv2.m, ?_⟩
          rw [more_dI]
          refine ⟨_, _, rfl, rfl, rfl, _, rfl, ite2 (fun c' => ?_) (fun _ => ⟨s2, _, rfl⟩)⟩
          exact absurd c' (by simp [hz])
        · rintro σ H2 ⟨s2, y, rfl⟩
          have sv2 := svc.same s2
          refine ⟨(lv, D), cells2 3 1 "_law_values" "_law_salt" ⟨rfl, rfl, rfl, rfl, rfl⟩ ⟨rfl, rfl, rfl, rfl, rfl⟩, _, rfl, a, ns, 1, rfl, sq_at sv2.a hS, _, _, rfl, rfl, (by show (0 : Int) < 9; decide), fun p dp np ndp nep => ?_⟩
          have ar : Ar .give [0, cellAt ns 1 % 9] := by
            have h1 := Int.emod_nonneg (cellAt ns 1) (show (9 : Int) ≠ 0 by decide)
            have h2 := Int.emod_lt_of_pos (cellAt ns 1) (show (0 : Int) < 9 by decide)
            exact ⟨⟨by decide, by decide⟩, h1, by omega⟩
          refine ⟨p, dp, [0, cellAt ns 1 % 9], rfl, ar, upd_same, fun H' h1 h2 => ⟨rfl, ?_⟩⟩
          have s3 := mk_kp np ndp h2
          have sv3 := sv2.same s3
          refine ⟨p, dp, _, rfl, h1, fs_no (by decide +kernel) (by decide +kernel) (by decide +kernel) (by decide +kernel) (by decide +kernel) .give [0, cellAt ns 1 % 9], _, rfl, _, [0, cellAt ns 1 % 9], rfl, ar, ⟨p, dp, rfl, h1⟩, sv3.v, fun aC H4 s4 ch => ?_⟩
          have ch : H4 aC = some (.tup []) := ch
          exact ⟨z0, fun t ht => ⟨(rc_tup (SqT.of (same_new ht _ _ ch)) (SqT.of upd_same) .nil).1, q _⟩⟩
end
end K23
section
set_option maxHeartbeats 0
open PySem PySem.W PyProof.Rows
lay_quick PySem.Challenge.pw_pactroom_k23_a_step_undone
namespace Q
noncomputable section
noncomputable abbrev vT : Value := Value.bool true
noncomputable abbrev vF : Value := Value.bool false
noncomputable abbrev A {α : Type} (l : List α) : Array α := Array.mk l
noncomputable abbrev E {α : Type} : Array α := Array.mk []
noncomputable abbrev vn : Value := Value.none
noncomputable abbrev vr (n : Nat) : Value := Value.ref n
noncomputable abbrev sr (n : Nat) : Option Value := some (Value.ref n)
noncomputable abbrev vi (a : Int) (n : Nat) : Value := Value.int a n
noncomputable abbrev vs (q : Str) (n : Nat) : Value := Value.str q n
noncomputable abbrev de (P : Params) (q : Str) (n : Nat) (v : Value) : DictEntry := DictEntry.mk (PyData.keyHash P q) (Value.str q n) v
noncomputable abbrev nd (o : Obj) (a b : BT) : BT := .node o a b
noncomputable abbrev l1 (o : Obj) : BT := .node o .nil .nil
abbrev S (l : List Nat) : Str := @Str.mk (Array.mk l)
abbrev q0:=S [60,109,111,100,117,108,101,62]
abbrev q1:=S [47,99,108,97,105,109,47,99,117,116,46,112,121]
abbrev q2:=S [95,95,109,97,105,110,95,95]
abbrev q3:=S [95,95,110,97,109,101,95,95]
abbrev q4:=S [112,97,99,116,114,111,111,109,46,115,116,101,112,115]
abbrev q5:=S [95,95,100,111,99,95,95]
abbrev q6:=S [95,95,112,97,99,107,97,103,101,95,95]
abbrev q7:=S [95,95,108,111,97,100,101,114,95,95]
abbrev q8:=S [95,95,115,112,101,99,95,95]
abbrev q9:=S [95,95,97,110,110,111,116,97,116,105,111,110,115,95,95]
abbrev q10:=S [95,95,98,117,105,108,116,105,110,115,95,95]
abbrev q11:=S [95,95,102,105,108,101,95,95]
abbrev q12:=S [95,95,99,97,99,104,101,100,95,95]
abbrev q13:=S [95,119,97,108,108]
abbrev q14:=S [80,97,99,116,69,114,114,111,114]
abbrev q15:=S [78,111,78,101,101,100]
abbrev q16:=S [107]
abbrev q17:=S [95,95,109,111,100,117,108,101,95,95]
abbrev q18:=S [112,97,99,116,114,111,111,109,46,101,114,114,111,114,115]
abbrev q19:=S [95,95,113,117,97,108,110,97,109,101,95,95]
abbrev q20:=S [95,95,102,105,114,115,116,108,105,110,101,110,111,95,95]
abbrev q21:=S [95,95,115,116,97,116,105,99,95,97,116,116,114,105,98,117,116,101,115,95,95]
abbrev q22:=S [95,95,119,101,97,107,114,101,102,95,95]
abbrev q23:=S [83,116,101,112]
abbrev q24:=S [104,111,117,115,101]
abbrev q25:=S [108,111,99,107]
abbrev q26:=S [115,116,101,112,95,100,111,110,101]
abbrev q27:=S [98,97,99,107]
abbrev q28:=S [115,117,114,101]
abbrev q29:=S [115,112,101,108,108,101,100]
abbrev q30:=S [115,101,108,102]
abbrev q31:=S [83,116,101,112,46,104,111,117,115,101]
abbrev q32:=S [83,116,101,112,46,108,111,99,107]
abbrev q33:=S [104,97,110,100]
abbrev q34:=S [118,97,108,117,101,95,111,102]
abbrev q35:=S [83,116,101,112,46,115,116,101,112,95,100,111,110,101]
abbrev q36:=S [83,116,101,112,46,98,97,99,107]
abbrev q37:=S [83,116,101,112,46,115,117,114,101]
abbrev q38:=S [83,116,101,112,46,115,112,101,108,108,101,100]
abbrev q39:=S [95,95,100,105,99,116,95,95]
abbrev q40:=S [67,101,108,108,83,116,101,112]
abbrev q41:=S [95,95,105,110,105,116,95,95]
abbrev q42:=S [119,104,101,114,101]
abbrev q43:=S [99,101,108,108]
abbrev q44:=S [67,101,108,108,83,116,101,112,46,95,95,105,110,105,116,95,95]
abbrev q45:=S [67,101,108,108,83,116,101,112,46,104,111,117,115,101]
abbrev q46:=S [84,97,107,101,83,116,101,112]
abbrev q47:=S [84,97,107,101,83,116,101,112,46,108,111,99,107]
abbrev q48:=S [84,97,107,101,83,116,101,112,46,115,116,101,112,95,100,111,110,101]
abbrev q49:=S [84,97,107,101,83,116,101,112,46,115,112,101,108,108,101,100]
abbrev q50:=S [77,101,97,110,83,116,101,112]
abbrev q51:=S [77,101,97,110,83,116,101,112,46,108,111,99,107]
abbrev q52:=S [77,101,97,110,83,116,101,112,46,115,116,101,112,95,100,111,110,101]
abbrev q53:=S [77,101,97,110,83,116,101,112,46,115,112,101,108,108,101,100]
abbrev q54:=S [83,117,109,83,116,101,112]
abbrev q55:=S [108,111,119]
abbrev q56:=S [104,105,103,104]
abbrev q57:=S [83,117,109,83,116,101,112,46,95,95,105,110,105,116,95,95]
abbrev q58:=S [83,117,109,83,116,101,112,46,104,111,117,115,101]
abbrev q59:=S [83,117,109,83,116,101,112,46,108,111,99,107]
abbrev q60:=S [83,117,109,83,116,101,112,46,115,116,101,112,95,100,111,110,101]
abbrev q61:=S [83,117,109,83,116,101,112,46,115,112,101,108,108,101,100]
abbrev q62:=S [71,105,118,101,83,116,101,112]
abbrev q63:=S [71,105,118,101,83,116,101,112,46,108,111,99,107]
abbrev q64:=S [71,105,118,101,83,116,101,112,46,115,116,101,112,95,100,111,110,101]
abbrev q65:=S [71,105,118,101,83,116,101,112,46,115,117,114,101]
abbrev q66:=S [71,105,118,101,83,116,101,112,46,115,112,101,108,108,101,100]
abbrev q67:=S [65,100,100,83,116,101,112]
abbrev q68:=S [97,109,111,117,110,116]
abbrev q69:=S [65,100,100,83,116,101,112,46,95,95,105,110,105,116,95,95]
abbrev q70:=S [65,100,100,83,116,101,112,46,108,111,99,107]
abbrev q71:=S [65,100,100,83,116,101,112,46,115,116,101,112,95,100,111,110,101]
abbrev q72:=S [65,100,100,83,116,101,112,46,98,97,99,107]
abbrev q73:=S [65,100,100,83,116,101,112,46,115,112,101,108,108,101,100]
abbrev q74:=S [80,108,117,115,83,116,101,112]
abbrev q75:=S [80,108,117,115,83,116,101,112,46,95,95,105,110,105,116,95,95]
abbrev q76:=S [80,108,117,115,83,116,101,112,46,115,116,101,112,95,100,111,110,101]
abbrev q77:=S [80,108,117,115,83,116,101,112,46,115,112,101,108,108,101,100]
abbrev q78:=S [108,97,119,95,112,97,99,116,114,111,111,109,95,107,50,51,95,97,95,115,116,101,112,95,117,110,100,111,110,101]
abbrev q79:=S [78,101,101,100,83,116,101,112]
abbrev q80:=S [95,108,97,119,95,99,101,108,108]
abbrev q81:=S [95,108,97,119,95,119,104,111,108,101]
abbrev q82:=S [95,108,97,119,95,109,105,120,101,100]
abbrev q83:=S [95,108,97,119,95,110,117,109,98,101,114]
abbrev q84:=S [95,108,97,119,95,101,105,116,104,101,114]
abbrev q85:=S [95,108,97,119,95,115,116,101,112]
abbrev q86:=S [95,108,97,119,95,116,101,120,116]
abbrev q87:=S [78,101,101,100,83,116,101,112,46,95,95,105,110,105,116,95,95]
abbrev q88:=S [78,101,101,100,83,116,101,112,46,115,116,101,112,95,100,111,110,101]
abbrev q89:=S [78,101,101,100,83,116,101,112,46,115,112,101,108,108,101,100]
abbrev q90:=S [95,108,97,119,95,115,99,114,105,112,116]
abbrev q91:=S [95,108,97,119,95,107]
abbrev q92:=S [95,108,97,119,95,102,111,117,110,100]
abbrev q93:=S [95,108,97,119,95,99,101,108,108,95,104,101,114,101]
abbrev q94:=S [95,108,97,119,95,110,117,109,98,101,114,95,104,101,114,101]
abbrev q95:=S [95,108,97,119,95,106]
abbrev q96:=S [95,108,97,119,95,119,111,114,100]
abbrev q97:=S [95,108,97,119,95,119,104,101,114,101]
abbrev q98:=S [95,108,97,119,95,111,110,101]
abbrev q99:=S [95,108,97,119,95,111,116,104,101,114]
abbrev q100:=S [95,108,97,119,95,109,97,100,101]
abbrev q101:=S [95,108,97,119,95,99,108,111,115,101]
abbrev q102:=S [95,108,97,119,95,112,117,116]
abbrev q103:=S [95,108,97,119,95,111,119,110]
abbrev q104:=S [108,97,119]
abbrev q105:=S [95,108,97,119,95,115,116,101,112,95,104,101,114,101]
abbrev q106:=S [95,108,97,119,95,104,97,110,100]
abbrev q107:=S [95,108,97,119,95,97,116]
abbrev q108:=S [95,108,97,119,95,118,97,108,117,101,115]
abbrev q109:=S [95,108,97,119,95,99,104,97,110,103,101,115]
abbrev q110:=S [95,108,97,119,95,111,119,110,95,104,101,114,101]
abbrev q111:=S [95,108,97,119,95,112,97,105,114]
abbrev q112:=S [95,108,97,119,95,109,111,114,101]
abbrev q113:=S [95,108,97,119,95,100,111,110,101]
abbrev q114:=S [95,108,97,119,95,118,97,108,117,101]
abbrev q115:=S [95,108,97,119,95,109,97,100,101,95,104,101,114,101]
abbrev q116:=S [95,108,97,119,95,115,97,108,116]
noncomputable abbrev y0 : Value := (@Value.type SL.s2766695959194262286x5)
noncomputable abbrev y1 : Value := (@Value.type SL.s5856160107412720595x4)
noncomputable abbrev y2 : Value := (@Value.type SL.s658472552662922059x5)
noncomputable abbrev y3 : Value := (@Value.type SL.s14018661285674007319x4)
noncomputable abbrev y4 : Value := (@Value.builtin SL.s7097527257260152453x26)
noncomputable abbrev y5 : Value := (@Value.type SL.s7174869446012820540x8)
noncomputable abbrev y6 : Value := (@Value.type SL.s6070975301684473832x10)
noncomputable abbrev y7 : Value := (@Value.type SL.s11030030927630378310x26)
noncomputable abbrev y8 : Value := (@Value.builtin SL.s10062305145149207511x16)
noncomputable abbrev y9 : Value := (@Value.type SL.s17162191345867700912x4)
noncomputable abbrev y10 : Value := (@Value.type SL.s5946037652744460706x9)
noncomputable abbrev y11 : Value := (@Value.type SL.s4278001404047624695x13)
noncomputable abbrev y12 : Value := (@Value.type SL.s2742458400755230247x6)
noncomputable abbrev y13 : Value := (@Value.builtin SL.s4209523147560561109x18)
noncomputable abbrev y14 : Value := (@Value.type SL.s14755015743595814543x17)
noncomputable abbrev y15 : Value := (@Value.builtin SL.s10220274742760427390x26)
noncomputable abbrev y16 : Value := (@Value.type SL.s4290257624100764138x5)
noncomputable abbrev y17 : Value := (@Value.builtin SL.s4860613602091757760x24)
noncomputable abbrev y18 : Value := (@Value.builtin SL.s11443829558043349243x14)
noncomputable abbrev y19 : Value := (@Value.builtin SL.s6511155373996960695x17)
noncomputable abbrev y20 : Value := (@Value.builtin SL.s12411053484034534018x21)
noncomputable abbrev p0 : Program := PySem.Challenge.pw_pactroom_k23_a_step_undone
noncomputable abbrev pq : Program := PySem.W.Fast.tw3935175109099915552
theorem pe : p0 = pq := PySem.W.Fast.te3935175109099915552
noncomputable def B (i : Nat) : Stmt := pq.main.body.getD i (.Pass ⟨0, 0, 0, 0⟩)
noncomputable def T (i : Nat) : Stmt := p0.main.body.getD i (.Pass ⟨0, 0, 0, 0⟩)
noncomputable def M (k j : Nat) : Stmt := L2.inClass (B k) j
noncomputable def N (k j : Nat) : Stmt := L2.inClass (T k) j
noncomputable abbrev fk (a b : Str) (s : Stmt) := FuncData.mk a b (L2.defArgs s) (.stmts (L2.defBody s)) (L2.defScope s)
section
variable (P : Params)
def a11:=Obj.mk y0 none (Data.seq E 0) E
def a12:=Obj.mk vn none (Data.fields E) E
def m0 (x0 : Str) (x1 : Nat) (x2 : Nat) (x3 : Nat) (x4 : Int) (x5 : Nat) (x6 : Nat) (x7 : Int) (x8 : Nat):=Obj.mk y1 none (Data.fields (A [vs x0 x1,vs x0 x2,vs q1 x3,vi x4 0,vi 0 0,vi 0 0,vi 0 0,vi 0 0,vr x5,vF,vi 181 0,vr x6,vn,vn,vn,vn,vi x7 0,vi x4 0,vs q1 x8])) E
def a13:=m0 q0 182 183 184 1 11 12 185 186
def m1 (x0 : Nat) (x1 : Nat) (x2 : Str) (x3 : Nat):=Obj.mk y2 none Data.plain (A [sr x0,sr 3,sr x1,none,some (vs x2 x3),none,sr 0])
def a14:=m1 13 3 q2 164
def u0:=nd (boot_o_0 P) (nd (boot_o_1 P) (nd (boot_o_3 P) (l1 (boot_o_7 P)) (l1 a11)) (nd (boot_o_5 P) (l1 (boot_o_9 P)) (l1 a13))) (nd (boot_o_2 P) (nd (boot_o_4 P) (l1 (boot_o_8 P)) (l1 a12)) (nd (boot_o_6 P) (l1 (boot_o_10 P)) (l1 a14)))
def ta:=u0 P
def tb:=u0 P
def c0_3:=Obj.mk y3 none (Data.dict (A [de P q3 165 (vs q4 230),de P q5 166 vn,de P q6 167 vn,de P q7 168 y4,de P q8 169 vn,de P q9 170 (vr 6),de P q10 171 (vr 4),de P q11 173 (vs q1 172),de P q12 174 vn,de P q13 193 (vr 21),de P q14 213 (vr 31),de P q15 229 (vr 44)]) 12) E
def m2 (x0 : Int) (x1 : Int) (x2 : Nat) (x3 : Int) (x4 : Nat) (x5 : Int) (x6 : Nat):=Obj.mk vn none (Data.fields (A [vi x0 0,vi x1 0,vr x2,vi x3 0,vi x1 0,vr x4,vi x5 0,vi x1 0,vr x6])) E
def c0_12:=m2 1 0 20 5 27 7 40
def m3 (x0 : Str) (x1 : Nat):=Obj.mk y0 none (Data.seq (A [vs x0 x1]) 0) E
def c0_17:=m3 q16 190
def m4 (x0 : Str) (x1 : Str) (x2 : Stmt):=Obj.mk vn none (Data.func (fk x0 x1 x2 0 [] vn vn vn vn none vn vn 0)) E
def c0_19:=m4 q13 q13 (B 0)
def m5 (x0 : Str) (x1 : Nat) (x2 : Str) (x3 : Nat) (x4 : Nat) (x5 : Int) (x6 : Int) (x7 : Nat) (x8 : Nat) (x9 : Nat) (x10 : Nat) (x11 : Nat) (x12 : Int) (x13 : Nat):=Obj.mk y1 none (Data.fields (A [vs x0 x1,vs x2 x3,vs q1 x4,vi x5 0,vi x6 0,vi 0 0,vi 0 0,vi 3 0,vr x7,vT,vi 181 0,vr x8,vn,vr x9,vr x10,vr x11,vi x12 0,vi x5 0,vs q1 x13])) E
def c0_20:=m5 q13 187 q13 188 189 1 1 15 16 17 18 19 191 192
def m6 (x0 : Str) (x1 : Str) (x2 : Stmt) (x3 : Str) (x4 : Nat) (x5 : Nat):=Obj.mk y5 none (Data.func (fk x0 x1 x2 3 [] vn vn vn (vs x3 x4) none (vr x5) vn 0)) E
def c0_21:=m6 q13 q13 (B 0) q2 164 20
def c0_22:=Obj.mk y0 none (Data.seq (A [y6]) 0) E
def c0_23:=Obj.mk y7 none (Data.fields (A [y8,y9])) E
def c0_24:=Obj.mk y3 none (Data.dict (A [de P q17 203 (vs q18 194),de P q19 205 (vs q14 204),de P q20 207 (vi 5 206),de P q21 208 (vr 29)]) 4) E
def c0_27:=m0 q14 198 199 200 5 25 26 201 202
def c0_28:=m1 27 24 q18 194
def c0_30:=Obj.mk y3 none (Data.dict (A [de P q17 203 (vs q18 194),de P q20 207 (vi 5 206),de P q21 208 (vr 29),de P q22 210 (vr 32),de P q5 211 vn]) 3) E
def c0_31:=Obj.mk y9 none (Data.cls (ClassData.mk q14 [y6] [vr 31,y6,y10,y11,y12] 30 q14 true [] [vr 44] false none false)) (A [sr 22,none,some (vs q14 196),some (vs q14 204),some y13,some vT])
def c0_32:=Obj.mk y14 none (Data.fields (A [vs q22 209,vr 31,y15,vn])) E
def m7 (x0 : Nat):=Obj.mk y16 none (Data.fields (A [vr x0,vr x0,vr x0])) E
def c0_33:=m7 31
def m8 (x0 : Nat):=Obj.mk y7 none (Data.fields (A [y17,vr x0])) E
def c0_34:=m8 31
def m9 (x0 : Nat):=Obj.mk y0 none (Data.seq (A [vr x0]) 0) E
def c0_35:=m9 31
def c0_37:=Obj.mk y3 none (Data.dict (A [de P q17 221 (vs q18 194),de P q19 223 (vs q15 222),de P q20 225 (vi 7 224),de P q21 226 (vr 42)]) 4) E
def c0_40:=m0 q15 216 217 218 7 38 39 219 220
def c0_41:=m1 40 37 q18 194
def c0_43:=Obj.mk y3 none (Data.dict (A [de P q17 221 (vs q18 194),de P q20 225 (vi 7 224),de P q21 226 (vr 42),de P q5 227 vn]) 2) E
def c0_44:=Obj.mk y9 none (Data.cls (ClassData.mk q15 [vr 31] [vr 44,vr 31,y6,y10,y11,y12] 43 q15 true [] [] false none false)) (A [sr 35,none,some (vs q15 214),some (vs q15 222),some y13,some vT])
def c0_45:=m7 44
def c0_46:=m8 44
def tc0_:=nd (boot_o_0 P) (nd (boot_o_1 P) (nd (c0_3 P) (nd (boot_o_7 P) (nd a11 (l1 c0_31) .nil) (nd c0_23 (l1 a12) .nil)) (nd a11 (nd c0_19 (l1 c0_35) .nil) (nd c0_27 (l1 (c0_43 P)) .nil))) (nd (boot_o_5 P) (nd (boot_o_9 P) (nd c0_17 (l1 c0_33) .nil) (nd a11 (l1 c0_41) .nil)) (nd a13 (nd c0_21 (l1 (c0_37 P)) .nil) (nd a11 (l1 c0_45) .nil)))) (nd (boot_o_2 P) (nd (boot_o_4 P) (nd (boot_o_8 P) (nd a12 (l1 c0_32) .nil) (nd (c0_24 P) (l1 c0_40) .nil)) (nd c0_12 (nd c0_20 (l1 c0_23) .nil) (nd c0_28 (l1 c0_44) .nil))) (nd (boot_o_6 P) (nd (boot_o_10 P) (nd a11 (l1 c0_34) .nil) (nd a12 (l1 a11) .nil)) (nd a14 (nd c0_22 (l1 a11) .nil) (nd (c0_30 P) (l1 c0_46) .nil))))
def c1_3:=Obj.mk y3 none (Data.dict (A [de P q3 165 (vs q4 230),de P q5 166 vn,de P q6 167 vn,de P q7 168 y4,de P q8 169 vn,de P q9 170 (vr 6),de P q10 171 (vr 4),de P q11 173 (vs q1 172),de P q12 174 vn,de P q13 193 (vr 21),de P q14 213 (vr 31),de P q15 229 (vr 44),de P q23 296 (vr 98)]) 13) E
def c1_12:=Obj.mk vn none (Data.fields (A [vi 1 0,vi 0 0,vr 20,vi 5 0,vi 0 0,vr 27,vi 7 0,vi 0 0,vr 40,vi 10 0,vi 0 0,vr 52])) E
def c1_49:=Obj.mk y3 none (Data.dict (A [de P q17 239 (vs q4 230),de P q19 241 (vs q23 240),de P q20 243 (vi 10 242),de P q24 250 (vr 60),de P q25 257 (vr 67),de P q26 266 (vr 74),de P q27 274 (vr 81),de P q28 281 (vr 88),de P q29 288 (vr 95),de P q21 289 (vr 96)]) 10) E
def c1_51:=Obj.mk vn none (Data.fields (A [vi 12 0,vi 4 0,vr 59,vi 15 0,vi 4 0,vr 66,vi 18 0,vi 4 0,vr 73,vi 21 0,vi 4 0,vr 80,vi 24 0,vi 4 0,vr 87,vi 27 0,vi 4 0,vr 94])) E
def c1_52:=m0 q23 234 235 236 10 50 51 237 238
def c1_53:=m1 52 49 q4 230
def c1_56:=m3 q30 247
def c1_58:=m4 q24 q31 (M 5 0)
def c1_59:=m5 q24 244 q31 245 246 12 1 54 55 56 57 58 248 249
def c1_60:=m6 q24 q31 (M 5 0) q4 230 59
def c1_63:=m3 q30 254
def c1_65:=m4 q25 q32 (M 5 1)
def c1_66:=m5 q25 251 q32 252 253 15 1 61 62 63 64 65 255 256
def c1_67:=m6 q25 q32 (M 5 1) q4 230 66
def m10 (x0 : Str) (x1 : Nat) (x2 : Str) (x3 : Nat) (x4 : Str) (x5 : Nat):=Obj.mk y0 none (Data.seq (A [vs x0 x1,vs x2 x3,vs x4 x5]) 0) E
def c1_70:=m10 q30 261 q33 262 q34 263
def c1_72:=m4 q26 q35 (M 5 2)
def c1_73:=m5 q26 258 q35 259 260 18 3 68 69 70 71 72 264 265
def c1_74:=m6 q26 q35 (M 5 2) q4 230 73
def m11 (x0 : Str) (x1 : Nat) (x2 : Str) (x3 : Nat):=Obj.mk y0 none (Data.seq (A [vs x0 x1,vs x2 x3]) 0) E
def c1_77:=m11 q30 270 q34 271
def c1_79:=m4 q27 q36 (M 5 3)
def c1_80:=m5 q27 267 q36 268 269 21 2 75 76 77 78 79 272 273
def c1_81:=m6 q27 q36 (M 5 3) q4 230 80
def c1_84:=m3 q30 278
def c1_86:=m4 q28 q37 (M 5 4)
def c1_87:=m5 q28 275 q37 276 277 24 1 82 83 84 85 86 279 280
def c1_88:=m6 q28 q37 (M 5 4) q4 230 87
def c1_91:=m3 q30 285
def c1_93:=m4 q29 q38 (M 5 5)
def c1_94:=m5 q29 282 q38 283 284 27 1 89 90 91 92 93 286 287
def c1_95:=m6 q29 q38 (M 5 5) q4 230 94
def c1_97:=Obj.mk y3 none (Data.dict (A [de P q17 239 (vs q4 230),de P q20 243 (vi 10 242),de P q24 250 (vr 60),de P q25 257 (vr 67),de P q26 266 (vr 74),de P q27 274 (vr 81),de P q28 281 (vr 88),de P q29 288 (vr 95),de P q21 289 (vr 96),de P q39 291 (vr 99),de P q22 293 (vr 100),de P q5 294 vn]) 4) E
def c1_98:=Obj.mk y9 none (Data.cls (ClassData.mk q23 [y12] [vr 98,y12] 97 q23 true [] [] false none false)) (A [none,none,some (vs q23 232),some (vs q23 240),some y18,some vT])
def c1_99:=Obj.mk y14 none (Data.fields (A [vs q39 290,vr 98,y19,y20])) E
def c1_100:=Obj.mk y14 none (Data.fields (A [vs q22 292,vr 98,y15,vn])) E
def c1_101:=m7 98
def c1_102:=m8 98
def tc1_:=nd (boot_o_0 P) (nd (boot_o_1 P) (nd (c1_3 P) (nd (boot_o_7 P) (nd a11 (nd c0_31 (l1 c1_63) (l1 c1_95)) (nd a11 (l1 c1_79) .nil)) (nd c0_23 (nd a12 (l1 a11) .nil) (nd a12 (l1 c1_87) .nil))) (nd a11 (nd c0_19 (nd c0_35 (l1 c1_67) (l1 c1_99)) (nd c1_51 (l1 a12) .nil)) (nd c0_27 (nd (c0_43 P) (l1 a11) .nil) (nd c1_59 (l1 c1_91) .nil)))) (nd (boot_o_5 P) (nd (boot_o_9 P) (nd c0_17 (nd c0_33 (l1 c1_65) (l1 (c1_97 P))) (nd (c1_49 P) (l1 c1_81) .nil)) (nd a11 (nd c0_41 (l1 c1_73) .nil) (nd a11 (l1 a11) .nil))) (nd a13 (nd c0_21 (nd (c0_37 P) (l1 a12) (l1 c1_101)) (nd c1_53 (l1 a11) .nil)) (nd a11 (nd c0_45 (l1 c1_77) .nil) (nd a11 (l1 c1_93) .nil))))) (nd (boot_o_2 P) (nd (boot_o_4 P) (nd (boot_o_8 P) (nd a12 (nd c0_32 (l1 a11) (l1 a11)) (nd c0_23 (l1 c1_80) .nil)) (nd (c0_24 P) (nd c0_40 (l1 c1_72) .nil) (nd c1_56 (l1 c1_88) .nil))) (nd c1_12 (nd c0_20 (nd c0_23 (l1 a11) (l1 c1_100)) (nd c1_52 (l1 c1_84) .nil)) (nd c0_28 (nd c0_44 (l1 a12) .nil) (nd c1_60 (l1 a11) .nil)))) (nd (boot_o_6 P) (nd (boot_o_10 P) (nd a11 (nd c0_34 (l1 c1_66) (l1 c1_98)) (nd a11 (l1 a11) .nil)) (nd a12 (nd a11 (l1 c1_74) .nil) (nd c1_58 (l1 a12) .nil))) (nd a14 (nd c0_22 (nd a11 (l1 c1_70) (l1 c1_102)) (nd a11 (l1 c1_86) .nil)) (nd (c0_30 P) (nd c0_46 (l1 a11) .nil) (nd a12 (l1 c1_94) .nil)))))
def c2_3:=Obj.mk y3 none (Data.dict (A [de P q3 165 (vs q4 230),de P q5 166 vn,de P q6 167 vn,de P q7 168 y4,de P q8 169 vn,de P q9 170 (vr 6),de P q10 171 (vr 4),de P q11 173 (vs q1 172),de P q12 174 vn,de P q13 193 (vr 21),de P q14 213 (vr 31),de P q15 229 (vr 44),de P q23 296 (vr 98),de P q40 330 (vr 126)]) 14) E
def m12 (x0 : Int) (x1 : Int) (x2 : Nat) (x3 : Int) (x4 : Nat) (x5 : Int) (x6 : Nat) (x7 : Int) (x8 : Nat) (x9 : Int) (x10 : Nat):=Obj.mk vn none (Data.fields (A [vi x0 0,vi x1 0,vr x2,vi x3 0,vi x1 0,vr x4,vi x5 0,vi x1 0,vr x6,vi x7 0,vi x1 0,vr x8,vi x9 0,vi x1 0,vr x10])) E
def c2_12:=m12 1 0 20 5 27 7 40 10 52 29 108
def c2_98:=Obj.mk y9 none (Data.cls (ClassData.mk q23 [y12] [vr 98,y12] 97 q23 true [] [vr 126] false none false)) (A [none,none,some (vs q23 232),some (vs q23 240),some y18,some vT])
def c2_103:=m9 98
def c2_105:=Obj.mk y3 none (Data.dict (A [de P q17 304 (vs q4 230),de P q19 306 (vs q40 305),de P q20 308 (vi 29 307),de P q41 317 (vr 116),de P q24 324 (vr 123),de P q21 327 (vr 124)]) 6) E
def c2_107:=Obj.mk vn none (Data.fields (A [vi 31 0,vi 4 0,vr 115,vi 35 0,vi 4 0,vr 122])) E
def c2_108:=m0 q40 299 300 301 29 106 107 302 303
def c2_109:=m1 108 105 q4 230
def c2_112:=m10 q30 312 q42 313 q43 314
def c2_114:=m4 q41 q44 (M 6 0)
def c2_115:=m5 q41 309 q44 310 311 31 3 110 111 112 113 114 315 316
def c2_116:=m6 q41 q44 (M 6 0) q4 230 115
def c2_119:=m3 q30 321
def c2_121:=m4 q24 q45 (M 6 1)
def c2_122:=m5 q24 318 q45 319 320 35 1 117 118 119 120 121 322 323
def c2_123:=m6 q24 q45 (M 6 1) q4 230 122
def c2_124:=m11 q43 325 q42 326
def c2_125:=Obj.mk y3 none (Data.dict (A [de P q17 304 (vs q4 230),de P q20 308 (vi 29 307),de P q41 317 (vr 116),de P q24 324 (vr 123),de P q21 327 (vr 124),de P q5 328 vn]) 2) E
def c2_126:=Obj.mk y9 none (Data.cls (ClassData.mk q40 [vr 98] [vr 126,vr 98,y12] 125 q40 true [] [] false none false)) (A [sr 103,none,some (vs q40 297),some (vs q40 305),some y18,some vT])
def c2_127:=m7 126
def c2_128:=m8 126
def tc2_:=nd (boot_o_0 P) (nd (boot_o_1 P) (nd (c2_3 P) (nd (boot_o_7 P) (nd a11 (nd c0_31 (nd c1_63 (l1 c2_127) .nil) (l1 c1_95)) (nd a11 (l1 c1_79) (l1 a12))) (nd c0_23 (nd a12 (l1 a11) (l1 c2_103)) (nd a12 (l1 c1_87) (l1 c2_119)))) (nd a11 (nd c0_19 (nd c0_35 (l1 c1_67) (l1 c1_99)) (nd c1_51 (l1 a12) (l1 c2_115))) (nd c0_27 (nd (c0_43 P) (l1 a11) (l1 c2_107)) (nd c1_59 (l1 c1_91) (l1 c2_123))))) (nd (boot_o_5 P) (nd (boot_o_9 P) (nd c0_17 (nd c0_33 (l1 c1_65) (l1 (c1_97 P))) (nd (c1_49 P) (l1 c1_81) (l1 a11))) (nd a11 (nd c0_41 (l1 c1_73) (l1 (c2_105 P))) (nd a11 (l1 a11) (l1 c2_121)))) (nd a13 (nd c0_21 (nd (c0_37 P) (l1 a12) (l1 c1_101)) (nd c1_53 (l1 a11) (l1 a11))) (nd a11 (nd c0_45 (l1 c1_77) (l1 c2_109)) (nd a11 (l1 c1_93) (l1 (c2_125 P))))))) (nd (boot_o_2 P) (nd (boot_o_4 P) (nd (boot_o_8 P) (nd a12 (nd c0_32 (nd a11 (l1 c2_128) .nil) (l1 a11)) (nd c0_23 (l1 c1_80) (l1 c2_112))) (nd (c0_24 P) (nd c0_40 (l1 c1_72) (l1 c0_23)) (nd c1_56 (l1 c1_88) (l1 a11)))) (nd c2_12 (nd c0_20 (nd c0_23 (l1 a11) (l1 c1_100)) (nd c1_52 (l1 c1_84) (l1 c2_116))) (nd c0_28 (nd c0_44 (l1 a12) (l1 c2_108)) (nd c1_60 (l1 a11) (l1 c2_124))))) (nd (boot_o_6 P) (nd (boot_o_10 P) (nd a11 (nd c0_34 (l1 c1_66) (l1 c2_98)) (nd a11 (l1 a11) (l1 c2_114))) (nd a12 (nd a11 (l1 c1_74) (l1 a11)) (nd c1_58 (l1 a12) (l1 c2_122)))) (nd a14 (nd c0_22 (nd a11 (l1 c1_70) (l1 c1_102)) (nd a11 (l1 c1_86) (l1 a12))) (nd (c0_30 P) (nd c0_46 (l1 a11) (l1 a11)) (nd a12 (l1 c1_94) (l1 c2_126))))))
def c3_3:=Obj.mk y3 none (Data.dict (A [de P q3 165 (vs q4 230),de P q5 166 vn,de P q6 167 vn,de P q7 168 y4,de P q8 169 vn,de P q9 170 (vr 6),de P q10 171 (vr 4),de P q11 173 (vs q1 172),de P q12 174 vn,de P q13 193 (vr 21),de P q14 213 (vr 31),de P q15 229 (vr 44),de P q23 296 (vr 98),de P q40 330 (vr 126),de P q46 369 (vr 159)]) 15) E
def c3_12:=Obj.mk vn none (Data.fields (A [vi 1 0,vi 0 0,vr 20,vi 5 0,vi 0 0,vr 27,vi 7 0,vi 0 0,vr 40,vi 10 0,vi 0 0,vr 52,vi 29 0,vi 0 0,vr 108,vi 37 0,vi 0 0,vr 134])) E
def c3_126:=Obj.mk y9 none (Data.cls (ClassData.mk q40 [vr 98] [vr 126,vr 98,y12] 125 q40 true [] [vr 159] false none false)) (A [sr 103,none,some (vs q40 297),some (vs q40 305),some y18,some vT])
def c3_129:=m9 126
def m13 (x0 : Nat) (x1 : Nat) (x2 : Str) (x3 : Nat) (x4 : Nat) (x5 : Int) (x6 : Nat) (x7 : Str) (x8 : Nat) (x9 : Nat) (x10 : Nat) (x11 : Nat) (x12 : Nat) (x13 : Nat) (x14 : Nat) (x15 : Nat):=Obj.mk y3 none (Data.dict (A [de P q17 x0 (vs q4 230),de P q19 x1 (vs x2 x3),de P q20 x4 (vi x5 x6),de P x7 x8 (vr x9),de P q26 x10 (vr x11),de P q29 x12 (vr x13),de P q21 x14 (vr x15)]) 7) E
def c3_131:=m13 P 338 340 q46 339 342 37 341 q25 349 142 358 149 365 156 366 157
def c3_133:=m2 39 4 141 42 148 45 155
def c3_134:=m0 q46 333 334 335 37 132 133 336 337
def c3_135:=m1 134 131 q4 230
def c3_138:=m3 q30 346
def c3_140:=m4 q25 q47 (M 7 0)
def c3_141:=m5 q25 343 q47 344 345 39 1 136 137 138 139 140 347 348
def c3_142:=m6 q25 q47 (M 7 0) q4 230 141
def c3_145:=m10 q30 353 q33 354 q34 355
def c3_147:=m4 q26 q48 (M 7 1)
def c3_148:=m5 q26 350 q48 351 352 42 3 143 144 145 146 147 356 357
def c3_149:=m6 q26 q48 (M 7 1) q4 230 148
def c3_152:=m3 q30 362
def c3_154:=m4 q29 q49 (M 7 2)
def c3_155:=m5 q29 359 q49 360 361 45 1 150 151 152 153 154 363 364
def c3_156:=m6 q29 q49 (M 7 2) q4 230 155
def m14 (x0 : Nat) (x1 : Nat) (x2 : Int) (x3 : Nat) (x4 : Str) (x5 : Nat) (x6 : Nat) (x7 : Nat) (x8 : Nat) (x9 : Nat) (x10 : Nat) (x11 : Nat) (x12 : Nat) (x13 : Nat):=Obj.mk y3 none (Data.dict (A [de P q17 x0 (vs q4 230),de P q20 x1 (vi x2 x3),de P x4 x5 (vr x6),de P q26 x7 (vr x8),de P q29 x9 (vr x10),de P q21 x11 (vr x12),de P q5 x13 vn]) 2) E
def c3_158:=m14 P 338 342 37 341 q25 349 142 358 149 365 156 366 157 367
def c3_159:=Obj.mk y9 none (Data.cls (ClassData.mk q46 [vr 126] [vr 159,vr 126,vr 98,y12] 158 q46 true [] [] false none false)) (A [sr 129,none,some (vs q46 331),some (vs q46 339),some y18,some vT])
def c3_160:=m7 159
def c3_161:=m8 159
def tc3_:=nd (boot_o_0 P) (nd (boot_o_1 P) (nd (c3_3 P) (nd (boot_o_7 P) (nd a11 (nd c0_31 (nd c1_63 (l1 c2_127) .nil) (nd c1_95 (l1 c3_159) .nil)) (nd a11 (nd c1_79 (l1 a11) .nil) (l1 a12))) (nd c0_23 (nd a12 (nd a11 (l1 c3_135) .nil) (l1 c2_103)) (nd a12 (nd c1_87 (l1 a12) .nil) (l1 c2_119)))) (nd a11 (nd c0_19 (nd c0_35 (nd c1_67 (l1 (c3_131 P)) .nil) (l1 c1_99)) (nd c1_51 (nd a12 (l1 c3_147) .nil) (l1 c2_115))) (nd c0_27 (nd (c0_43 P) (nd a11 (l1 a11) .nil) (l1 c2_107)) (nd c1_59 (nd c1_91 (l1 c3_155) .nil) (l1 c2_123))))) (nd (boot_o_5 P) (nd (boot_o_9 P) (nd c0_17 (nd c0_33 (nd c1_65 (l1 c3_129) .nil) (nd (c1_97 P) (l1 c3_161) .nil)) (nd (c1_49 P) (nd c1_81 (l1 c3_145) .nil) (l1 a11))) (nd a11 (nd c0_41 (nd c1_73 (l1 a12) .nil) (l1 (c2_105 P))) (nd a11 (nd a11 (l1 a11) .nil) (l1 c2_121)))) (nd a13 (nd c0_21 (nd (c0_37 P) (nd a12 (l1 c3_133) .nil) (l1 c1_101)) (nd c1_53 (nd a11 (l1 c3_149) .nil) (l1 a11))) (nd a11 (nd c0_45 (nd c1_77 (l1 c3_141) .nil) (l1 c2_109)) (nd a11 (nd c1_93 (l1 a11) .nil) (l1 (c2_125 P))))))) (nd (boot_o_2 P) (nd (boot_o_4 P) (nd (boot_o_8 P) (nd a12 (nd c0_32 (nd a11 (l1 c2_128) .nil) (nd a11 (l1 c3_160) .nil)) (nd c0_23 (nd c1_80 (l1 a12) .nil) (l1 c2_112))) (nd (c0_24 P) (nd c0_40 (nd c1_72 (l1 a11) .nil) (l1 c0_23)) (nd c1_56 (nd c1_88 (l1 c3_152) .nil) (l1 a11)))) (nd c3_12 (nd c0_20 (nd c0_23 (nd a11 (l1 a11) .nil) (l1 c1_100)) (nd c1_52 (nd c1_84 (l1 c3_148) .nil) (l1 c2_116))) (nd c0_28 (nd c0_44 (nd a12 (l1 c3_140) .nil) (l1 c2_108)) (nd c1_60 (nd a11 (l1 c3_156) .nil) (l1 c2_124))))) (nd (boot_o_6 P) (nd (boot_o_10 P) (nd a11 (nd c0_34 (nd c1_66 (l1 c0_23) .nil) (l1 c2_98)) (nd a11 (nd a11 (l1 a11) .nil) (l1 c2_114))) (nd a12 (nd a11 (nd c1_74 (l1 c3_138) .nil) (l1 a11)) (nd c1_58 (nd a12 (l1 c3_154) .nil) (l1 c2_122)))) (nd a14 (nd c0_22 (nd a11 (nd c1_70 (l1 c3_134) .nil) (l1 c1_102)) (nd a11 (nd c1_86 (l1 a11) .nil) (l1 a12))) (nd (c0_30 P) (nd c0_46 (nd a11 (l1 c3_142) .nil) (l1 a11)) (nd a12 (nd c1_94 (l1 (c3_158 P)) .nil) (l1 c3_126))))))
def c4_3:=Obj.mk y3 none (Data.dict (A [de P q3 165 (vs q4 230),de P q5 166 vn,de P q6 167 vn,de P q7 168 y4,de P q8 169 vn,de P q9 170 (vr 6),de P q10 171 (vr 4),de P q11 173 (vs q1 172),de P q12 174 vn,de P q13 193 (vr 21),de P q14 213 (vr 31),de P q15 229 (vr 44),de P q23 296 (vr 98),de P q40 330 (vr 126),de P q46 369 (vr 159),de P q50 408 (vr 192)]) 16) E
def c4_12:=Obj.mk vn none (Data.fields (A [vi 1 0,vi 0 0,vr 20,vi 5 0,vi 0 0,vr 27,vi 7 0,vi 0 0,vr 40,vi 10 0,vi 0 0,vr 52,vi 29 0,vi 0 0,vr 108,vi 37 0,vi 0 0,vr 134,vi 47 0,vi 0 0,vr 167])) E
def c4_126:=Obj.mk y9 none (Data.cls (ClassData.mk q40 [vr 98] [vr 126,vr 98,y12] 125 q40 true [] [vr 159,vr 192] false none false)) (A [sr 103,none,some (vs q40 297),some (vs q40 305),some y18,some vT])
def c4_164:=m13 P 377 379 q50 378 381 47 380 q25 388 175 397 182 404 189 405 190
def c4_166:=m2 49 4 174 52 181 55 188
def c4_167:=m0 q50 372 373 374 47 165 166 375 376
def c4_168:=m1 167 164 q4 230
def c4_171:=m3 q30 385
def c4_173:=m4 q25 q51 (M 8 0)
def c4_174:=m5 q25 382 q51 383 384 49 1 169 170 171 172 173 386 387
def c4_175:=m6 q25 q51 (M 8 0) q4 230 174
def c4_178:=m10 q30 392 q33 393 q34 394
def c4_180:=m4 q26 q52 (M 8 1)
def c4_181:=m5 q26 389 q52 390 391 52 3 176 177 178 179 180 395 396
def c4_182:=m6 q26 q52 (M 8 1) q4 230 181
def c4_185:=m3 q30 401
def c4_187:=m4 q29 q53 (M 8 2)
def c4_188:=m5 q29 398 q53 399 400 55 1 183 184 185 186 187 402 403
def c4_189:=m6 q29 q53 (M 8 2) q4 230 188
def c4_191:=m14 P 377 381 47 380 q25 388 175 397 182 404 189 405 190 406
def c4_192:=Obj.mk y9 none (Data.cls (ClassData.mk q50 [vr 126] [vr 192,vr 126,vr 98,y12] 191 q50 true [] [] false none false)) (A [sr 162,none,some (vs q50 370),some (vs q50 378),some y18,some vT])
def c4_193:=m7 192
def c4_194:=m8 192
def tc4_:=nd (boot_o_0 P) (nd (boot_o_1 P) (nd (c4_3 P) (nd (boot_o_7 P) (nd a11 (nd c0_31 (nd c1_63 (l1 c2_127) (l1 (c4_191 P))) (nd c1_95 (l1 c3_159) .nil)) (nd a11 (nd c1_79 (l1 a11) .nil) (nd a12 (l1 c4_175) .nil))) (nd c0_23 (nd a12 (nd a11 (l1 c3_135) .nil) (nd c2_103 (l1 c4_167) .nil)) (nd a12 (nd c1_87 (l1 a12) .nil) (nd c2_119 (l1 a11) .nil)))) (nd a11 (nd c0_19 (nd c0_35 (nd c1_67 (l1 (c3_131 P)) .nil) (nd c1_99 (l1 c0_23) .nil)) (nd c1_51 (nd a12 (l1 c3_147) .nil) (nd c2_115 (l1 a11) .nil))) (nd c0_27 (nd (c0_43 P) (nd a11 (l1 a11) .nil) (nd c2_107 (l1 c4_171) .nil)) (nd c1_59 (nd c1_91 (l1 c3_155) .nil) (nd c2_123 (l1 c4_187) .nil))))) (nd (boot_o_5 P) (nd (boot_o_9 P) (nd c0_17 (nd c0_33 (nd c1_65 (l1 c3_129) (l1 c4_193)) (nd (c1_97 P) (l1 c3_161) .nil)) (nd (c1_49 P) (nd c1_81 (l1 c3_145) .nil) (nd a11 (l1 a12) .nil))) (nd a11 (nd c0_41 (nd c1_73 (l1 a12) .nil) (nd (c2_105 P) (l1 a11) .nil)) (nd a11 (nd a11 (l1 a11) .nil) (nd c2_121 (l1 c4_185) .nil)))) (nd a13 (nd c0_21 (nd (c0_37 P) (nd a12 (l1 c3_133) .nil) (nd c1_101 (l1 a11) .nil)) (nd c1_53 (nd a11 (l1 c3_149) .nil) (nd a11 (l1 c4_181) .nil))) (nd a11 (nd c0_45 (nd c1_77 (l1 c3_141) .nil) (nd c2_109 (l1 c4_173) .nil)) (nd a11 (nd c1_93 (l1 a11) .nil) (nd (c2_125 P) (l1 c4_189) .nil)))))) (nd (boot_o_2 P) (nd (boot_o_4 P) (nd (boot_o_8 P) (nd a12 (nd c0_32 (nd a11 (l1 c2_128) (l1 c4_192)) (nd a11 (l1 c3_160) .nil)) (nd c0_23 (nd c1_80 (l1 a12) .nil) (nd c2_112 (l1 a11) .nil))) (nd (c0_24 P) (nd c0_40 (nd c1_72 (l1 a11) .nil) (nd c0_23 (l1 c4_168) .nil)) (nd c1_56 (nd c1_88 (l1 c3_152) .nil) (nd a11 (l1 a12) .nil)))) (nd c4_12 (nd c0_20 (nd c0_23 (nd a11 (l1 a11) .nil) (nd c1_100 (l1 (c4_164 P)) .nil)) (nd c1_52 (nd c1_84 (l1 c3_148) .nil) (nd c2_116 (l1 c4_180) .nil))) (nd c0_28 (nd c0_44 (nd a12 (l1 c3_140) .nil) (nd c2_108 (l1 a11) .nil)) (nd c1_60 (nd a11 (l1 c3_156) .nil) (nd c2_124 (l1 c4_188) .nil))))) (nd (boot_o_6 P) (nd (boot_o_10 P) (nd a11 (nd c0_34 (nd c1_66 (l1 c0_23) (l1 c4_194)) (nd c2_98 (l1 c3_129) .nil)) (nd a11 (nd a11 (l1 a11) .nil) (nd c2_114 (l1 c4_178) .nil))) (nd a12 (nd a11 (nd c1_74 (l1 c3_138) .nil) (nd a11 (l1 a12) .nil)) (nd c1_58 (nd a12 (l1 c3_154) .nil) (nd c2_122 (l1 a11) .nil)))) (nd a14 (nd c0_22 (nd a11 (nd c1_70 (l1 c3_134) .nil) (nd c1_102 (l1 c4_166) .nil)) (nd a11 (nd c1_86 (l1 a11) .nil) (nd a12 (l1 c4_182) .nil))) (nd (c0_30 P) (nd c0_46 (nd a11 (l1 c3_142) .nil) (nd a11 (l1 c4_174) .nil)) (nd a12 (nd c1_94 (l1 (c3_158 P)) .nil) (nd c4_126 (l1 a11) .nil))))))
def c5_3:=Obj.mk y3 none (Data.dict (A [de P q3 165 (vs q4 230),de P q5 166 vn,de P q6 167 vn,de P q7 168 y4,de P q8 169 vn,de P q9 170 (vr 6),de P q10 171 (vr 4),de P q11 173 (vs q1 172),de P q12 174 vn,de P q13 193 (vr 21),de P q14 213 (vr 31),de P q15 229 (vr 44),de P q23 296 (vr 98),de P q40 330 (vr 126),de P q46 369 (vr 159),de P q50 408 (vr 192),de P q54 464 (vr 237)]) 17) E
def c5_12:=Obj.mk vn none (Data.fields (A [vi 1 0,vi 0 0,vr 20,vi 5 0,vi 0 0,vr 27,vi 7 0,vi 0 0,vr 40,vi 10 0,vi 0 0,vr 52,vi 29 0,vi 0 0,vr 108,vi 37 0,vi 0 0,vr 134,vi 47 0,vi 0 0,vr 167,vi 57 0,vi 0 0,vr 200])) E
def c5_98:=Obj.mk y9 none (Data.cls (ClassData.mk q23 [y12] [vr 98,y12] 97 q23 true [] [vr 126,vr 237] false none false)) (A [none,none,some (vs q23 232),some (vs q23 240),some y18,some vT])
def c5_197:=Obj.mk y3 none (Data.dict (A [de P q17 416 (vs q4 230),de P q19 418 (vs q54 417),de P q20 420 (vi 57 419),de P q41 430 (vr 208),de P q24 437 (vr 215),de P q25 444 (vr 222),de P q26 450 (vr 227),de P q29 457 (vr 234),de P q21 461 (vr 235)]) 9) E
def c5_199:=m12 59 4 207 64 214 67 221 70 226 73 233
def c5_200:=m0 q54 411 412 413 57 198 199 414 415
def c5_201:=m1 200 197 q4 230
def m15 (x0 : Str) (x1 : Nat) (x2 : Str) (x3 : Nat) (x4 : Str) (x5 : Nat) (x6 : Str) (x7 : Nat):=Obj.mk y0 none (Data.seq (A [vs x0 x1,vs x2 x3,vs x4 x5,vs x6 x7]) 0) E
def c5_204:=m15 q30 424 q42 425 q55 426 q56 427
def c5_206:=m4 q41 q57 (M 9 0)
def c5_207:=m5 q41 421 q57 422 423 59 4 202 203 204 205 206 428 429
def c5_208:=m6 q41 q57 (M 9 0) q4 230 207
def c5_211:=m3 q30 434
def c5_213:=m4 q24 q58 (M 9 1)
def c5_214:=m5 q24 431 q58 432 433 64 1 209 210 211 212 213 435 436
def c5_215:=m6 q24 q58 (M 9 1) q4 230 214
def c5_218:=m3 q30 441
def c5_220:=m4 q25 q59 (M 9 2)
def c5_221:=m5 q25 438 q59 439 440 67 1 216 217 218 219 220 442 443
def c5_222:=m6 q25 q59 (M 9 2) q4 230 221
def c5_225:=m4 q26 q60 (M 9 3)
def c5_226:=Obj.mk y1 none (Data.fields (A [vs q26 445,vs q60 446,vs q1 447,vi 70 0,vi 3 0,vi 0 0,vi 0 0,vi 3 0,vr 223,vT,vi 181 0,vr 224,vn,vn,vn,vr 225,vi 448 0,vi 70 0,vs q1 449])) E
def c5_227:=m6 q26 q60 (M 9 3) q4 230 226
def c5_230:=m3 q30 454
def c5_232:=m4 q29 q61 (M 9 4)
def c5_233:=m5 q29 451 q61 452 453 73 1 228 229 230 231 232 455 456
def c5_234:=m6 q29 q61 (M 9 4) q4 230 233
def c5_235:=m10 q56 458 q55 459 q42 460
def c5_236:=Obj.mk y3 none (Data.dict (A [de P q17 416 (vs q4 230),de P q20 420 (vi 57 419),de P q41 430 (vr 208),de P q24 437 (vr 215),de P q25 444 (vr 222),de P q26 450 (vr 227),de P q29 457 (vr 234),de P q21 461 (vr 235),de P q5 462 vn]) 2) E
def c5_237:=Obj.mk y9 none (Data.cls (ClassData.mk q54 [vr 98] [vr 237,vr 98,y12] 236 q54 true [] [] false none false)) (A [sr 195,none,some (vs q54 409),some (vs q54 417),some y18,some vT])
def c5_238:=m7 237
def c5_239:=m8 237
def tc5_:=nd (boot_o_0 P) (nd (boot_o_1 P) (nd (c5_3 P) (nd (boot_o_7 P) (nd a11 (nd c0_31 (nd c1_63 (l1 c2_127) (l1 (c4_191 P))) (nd c1_95 (l1 c3_159) (l1 a11))) (nd a11 (nd c1_79 (l1 a11) (l1 c5_207)) (nd a12 (l1 c4_175) (l1 c5_239)))) (nd c0_23 (nd a12 (nd a11 (l1 c3_135) (l1 c5_199)) (nd c2_103 (l1 c4_167) (l1 a11))) (nd a12 (nd c1_87 (l1 a12) (l1 c5_215)) (nd c2_119 (l1 a11) .nil)))) (nd a11 (nd c0_19 (nd c0_35 (nd c1_67 (l1 (c3_131 P)) (l1 c2_103)) (nd c1_99 (l1 c0_23) (l1 c5_227))) (nd c1_51 (nd a12 (l1 c3_147) (l1 c5_211)) (nd c2_115 (l1 a11) .nil))) (nd c0_27 (nd (c0_43 P) (nd a11 (l1 a11) (l1 a12)) (nd c2_107 (l1 c4_171) (l1 c5_235))) (nd c1_59 (nd c1_91 (l1 c3_155) (l1 a11)) (nd c2_123 (l1 c4_187) .nil))))) (nd (boot_o_5 P) (nd (boot_o_9 P) (nd c0_17 (nd c0_33 (nd c1_65 (l1 c3_129) (l1 c4_193)) (nd (c1_97 P) (l1 c3_161) (l1 c5_225))) (nd (c1_49 P) (nd c1_81 (l1 c3_145) (l1 a11)) (nd a11 (l1 a12) .nil))) (nd a11 (nd c0_41 (nd c1_73 (l1 a12) (l1 c5_201)) (nd (c2_105 P) (l1 a11) (l1 c5_233))) (nd a11 (nd a11 (l1 a11) (l1 a12)) (nd c2_121 (l1 c4_185) .nil)))) (nd a13 (nd c0_21 (nd (c0_37 P) (nd a12 (l1 c3_133) (l1 (c5_197 P))) (nd c1_101 (l1 a11) (l1 a12))) (nd c1_53 (nd a11 (l1 c3_149) (l1 c5_213)) (nd a11 (l1 c4_181) .nil))) (nd a11 (nd c0_45 (nd c1_77 (l1 c3_141) (l1 a11)) (nd c2_109 (l1 c4_173) (l1 c5_237))) (nd a11 (nd c1_93 (l1 a11) (l1 c5_221)) (nd (c2_125 P) (l1 c4_189) .nil)))))) (nd (boot_o_2 P) (nd (boot_o_4 P) (nd (boot_o_8 P) (nd a12 (nd c0_32 (nd a11 (l1 c2_128) (l1 c4_192)) (nd a11 (l1 c3_160) (l1 a12))) (nd c0_23 (nd c1_80 (l1 a12) (l1 c5_208)) (nd c2_112 (l1 a11) .nil))) (nd (c0_24 P) (nd c0_40 (nd c1_72 (l1 a11) (l1 c5_200)) (nd c0_23 (l1 c4_168) (l1 c5_232))) (nd c1_56 (nd c1_88 (l1 c3_152) (l1 a11)) (nd a11 (l1 a12) .nil)))) (nd c5_12 (nd c0_20 (nd c0_23 (nd a11 (l1 a11) (l1 c0_23)) (nd c1_100 (l1 (c4_164 P)) (l1 a11))) (nd c1_52 (nd c1_84 (l1 c3_148) (l1 a11)) (nd c2_116 (l1 c4_180) .nil))) (nd c0_28 (nd c0_44 (nd a12 (l1 c3_140) (l1 c5_204)) (nd c2_108 (l1 a11) (l1 (c5_236 P)))) (nd c1_60 (nd a11 (l1 c3_156) (l1 c5_220)) (nd c2_124 (l1 c4_188) .nil))))) (nd (boot_o_6 P) (nd (boot_o_10 P) (nd a11 (nd c0_34 (nd c1_66 (l1 c0_23) (l1 c4_194)) (nd c5_98 (l1 c3_129) (l1 c5_226))) (nd a11 (nd a11 (l1 a11) (l1 a12)) (nd c2_114 (l1 c4_178) .nil))) (nd a12 (nd a11 (nd c1_74 (l1 c3_138) (l1 a11)) (nd a11 (l1 a12) (l1 c5_234))) (nd c1_58 (nd a12 (l1 c3_154) (l1 c5_218)) (nd c2_122 (l1 a11) .nil)))) (nd a14 (nd c0_22 (nd a11 (nd c1_70 (l1 c3_134) (l1 a11)) (nd c1_102 (l1 c4_166) (l1 c5_230))) (nd a11 (nd c1_86 (l1 a11) (l1 c5_214)) (nd a12 (l1 c4_182) .nil))) (nd (c0_30 P) (nd c0_46 (nd a11 (l1 c3_142) (l1 c5_206)) (nd a11 (l1 c4_174) (l1 c5_238))) (nd a12 (nd c1_94 (l1 (c3_158 P)) (l1 c5_222)) (nd c4_126 (l1 a11) .nil))))))
def c6_3:=Obj.mk y3 none (Data.dict (A [de P q3 165 (vs q4 230),de P q5 166 vn,de P q6 167 vn,de P q7 168 y4,de P q8 169 vn,de P q9 170 (vr 6),de P q10 171 (vr 4),de P q11 173 (vs q1 172),de P q12 174 vn,de P q13 193 (vr 21),de P q14 213 (vr 31),de P q15 229 (vr 44),de P q23 296 (vr 98),de P q40 330 (vr 126),de P q46 369 (vr 159),de P q50 408 (vr 192),de P q54 464 (vr 237),de P q62 510 (vr 277)]) 18) E
def c6_12:=Obj.mk vn none (Data.fields (A [vi 1 0,vi 0 0,vr 20,vi 5 0,vi 0 0,vr 27,vi 7 0,vi 0 0,vr 40,vi 10 0,vi 0 0,vr 52,vi 29 0,vi 0 0,vr 108,vi 37 0,vi 0 0,vr 134,vi 47 0,vi 0 0,vr 167,vi 57 0,vi 0 0,vr 200,vi 75 0,vi 0 0,vr 245])) E
def c6_126:=Obj.mk y9 none (Data.cls (ClassData.mk q40 [vr 98] [vr 126,vr 98,y12] 125 q40 true [] [vr 159,vr 192,vr 277] false none false)) (A [sr 103,none,some (vs q40 297),some (vs q40 305),some y18,some vT])
def c6_242:=Obj.mk y3 none (Data.dict (A [de P q17 472 (vs q4 230),de P q19 474 (vs q62 473),de P q20 476 (vi 75 475),de P q25 483 (vr 253),de P q26 492 (vr 260),de P q28 499 (vr 267),de P q29 506 (vr 274),de P q21 507 (vr 275)]) 8) E
def c6_244:=Obj.mk vn none (Data.fields (A [vi 77 0,vi 4 0,vr 252,vi 80 0,vi 4 0,vr 259,vi 83 0,vi 4 0,vr 266,vi 86 0,vi 4 0,vr 273])) E
def c6_245:=m0 q62 467 468 469 75 243 244 470 471
def c6_246:=m1 245 242 q4 230
def c6_249:=m3 q30 480
def c6_251:=m4 q25 q63 (M 10 0)
def c6_252:=m5 q25 477 q63 478 479 77 1 247 248 249 250 251 481 482
def c6_253:=m6 q25 q63 (M 10 0) q4 230 252
def c6_256:=m10 q30 487 q33 488 q34 489
def c6_258:=m4 q26 q64 (M 10 1)
def c6_259:=m5 q26 484 q64 485 486 80 3 254 255 256 257 258 490 491
def c6_260:=m6 q26 q64 (M 10 1) q4 230 259
def c6_263:=m3 q30 496
def c6_265:=m4 q28 q65 (M 10 2)
def c6_266:=m5 q28 493 q65 494 495 83 1 261 262 263 264 265 497 498
def c6_267:=m6 q28 q65 (M 10 2) q4 230 266
def c6_270:=m3 q30 503
def c6_272:=m4 q29 q66 (M 10 3)
def c6_273:=m5 q29 500 q66 501 502 86 1 268 269 270 271 272 504 505
def c6_274:=m6 q29 q66 (M 10 3) q4 230 273
def c6_276:=Obj.mk y3 none (Data.dict (A [de P q17 472 (vs q4 230),de P q20 476 (vi 75 475),de P q25 483 (vr 253),de P q26 492 (vr 260),de P q28 499 (vr 267),de P q29 506 (vr 274),de P q21 507 (vr 275),de P q5 508 vn]) 2) E
def c6_277:=Obj.mk y9 none (Data.cls (ClassData.mk q62 [vr 126] [vr 277,vr 126,vr 98,y12] 276 q62 true [] [] false none false)) (A [sr 240,none,some (vs q62 465),some (vs q62 473),some y18,some vT])
def c6_278:=m7 277
def c6_279:=m8 277
def u1:=nd c1_79 (nd a11 (l1 a11) .nil) (l1 c5_207)
def u2:=nd a11 (nd c3_135 (l1 c6_263) .nil) (l1 c5_199)
def u3:=nd c1_87 (nd a12 (l1 c6_279) .nil) (l1 c5_215)
def u4:=nd a12 (nd c3_147 (l1 a11) .nil) (l1 c5_211)
def u5:=nd c1_81 (nd c3_145 (l1 c6_273) .nil) (l1 a11)
def u6:=nd c1_73 (nd a12 (l1 c6_265) .nil) (l1 c5_201)
def u7:=nd a11 (nd c3_149 (l1 c6_277) .nil) (l1 c5_213)
def u8:=nd c1_77 (nd c3_141 (l1 a12) .nil) (l1 a11)
def u9:=nd c1_80 (nd a12 (l1 c6_272) .nil) (l1 c5_208)
def u10:=nd c1_72 (nd a11 (l1 a11) .nil) (l1 c5_200)
def u11:=nd c1_84 (nd c3_148 (l1 (c6_276 P)) .nil) (l1 a11)
def u12:=nd a12 (nd c3_140 (l1 a11) .nil) (l1 c5_204)
def u13:=nd c1_74 (nd c3_138 (l1 c6_266) .nil) (l1 a11)
def u14:=nd c1_86 (nd a11 (l1 c6_278) .nil) (l1 c5_214)
def u15:=nd a11 (nd c3_142 (l1 c6_270) .nil) (l1 c5_206)
def tc6_:=nd (boot_o_0 P) (nd (boot_o_1 P) (nd (c6_3 P) (nd (boot_o_7 P) (nd a11 (nd c0_31 (nd c1_63 (nd c2_127 (l1 a12) .nil) (l1 (c4_191 P))) (nd c1_95 (l1 c3_159) (l1 a11))) (nd a11 u1 (nd a12 (l1 c4_175) (l1 c5_239)))) (nd c0_23 (nd a12 u2 (nd c2_103 (l1 c4_167) (l1 a11))) (nd a12 u3 (nd c2_119 (l1 a11) (l1 a11))))) (nd a11 (nd c0_19 (nd c0_35 (nd c1_67 (nd (c3_131 P) (l1 c6_259) .nil) (l1 c2_103)) (nd c1_99 (l1 c0_23) (l1 c5_227))) (nd c1_51 u4 (nd c2_115 (l1 a11) (l1 a11)))) (nd c0_27 (nd (c0_43 P) (nd a11 (nd a11 (l1 c6_267) .nil) (l1 a12)) (nd c2_107 (l1 c4_171) (l1 c5_235))) (nd c1_59 (nd c1_91 (l1 c3_155) (l1 a11)) (nd c2_123 (l1 c4_187) (l1 c6_251)))))) (nd (boot_o_5 P) (nd (boot_o_9 P) (nd c0_17 (nd c0_33 (nd c1_65 (nd c3_129 (l1 a11) .nil) (l1 c4_193)) (nd (c1_97 P) (l1 c3_161) (l1 c5_225))) (nd (c1_49 P) u5 (nd a11 (l1 a12) (l1 c0_23)))) (nd a11 (nd c0_41 u6 (nd (c2_105 P) (l1 a11) (l1 c5_233))) (nd a11 (nd a11 (l1 a11) (l1 a12)) (nd c2_121 (l1 c4_185) (l1 c6_249))))) (nd a13 (nd c0_21 (nd (c0_37 P) (nd a12 (nd c3_133 (l1 a11) .nil) (l1 (c5_197 P))) (nd c1_101 (l1 a11) (l1 a12))) (nd c1_53 u7 (nd a11 (l1 c4_181) (l1 c6_245)))) (nd a11 (nd c0_45 u8 (nd c2_109 (l1 c4_173) (l1 c5_237))) (nd a11 (nd c1_93 (l1 a11) (l1 c5_221)) (nd (c2_125 P) (l1 c4_189) (l1 c6_253))))))) (nd (boot_o_2 P) (nd (boot_o_4 P) (nd (boot_o_8 P) (nd a12 (nd c0_32 (nd a11 (nd c2_128 (l1 c6_256) .nil) (l1 c4_192)) (nd a11 (l1 c3_160) (l1 a12))) (nd c0_23 u9 (nd c2_112 (l1 a11) (l1 c3_129)))) (nd (c0_24 P) (nd c0_40 u10 (nd c0_23 (l1 c4_168) (l1 c5_232))) (nd c1_56 (nd c1_88 (l1 c3_152) (l1 a11)) (nd a11 (l1 a12) (l1 a12))))) (nd c6_12 (nd c0_20 (nd c0_23 (nd a11 (nd a11 (l1 c6_260) .nil) (l1 c0_23)) (nd c1_100 (l1 (c4_164 P)) (l1 a11))) (nd c1_52 (u11 P) (nd c2_116 (l1 c4_180) (l1 c6_244)))) (nd c0_28 (nd c0_44 u12 (nd c2_108 (l1 a11) (l1 (c5_236 P)))) (nd c1_60 (nd a11 (l1 c3_156) (l1 c5_220)) (nd c2_124 (l1 c4_188) (l1 c6_252)))))) (nd (boot_o_6 P) (nd (boot_o_10 P) (nd a11 (nd c0_34 (nd c1_66 (nd c0_23 (l1 c6_258) .nil) (l1 c4_194)) (nd c5_98 (l1 c3_129) (l1 c5_226))) (nd a11 (nd a11 (nd a11 (l1 c6_274) .nil) (l1 a12)) (nd c2_114 (l1 c4_178) (l1 (c6_242 P))))) (nd a12 (nd a11 u13 (nd a11 (l1 a12) (l1 c5_234))) (nd c1_58 (nd a12 (l1 c3_154) (l1 c5_218)) (nd c2_122 (l1 a11) (l1 a11))))) (nd a14 (nd c0_22 (nd a11 (nd c1_70 (nd c3_134 (l1 a12) .nil) (l1 a11)) (nd c1_102 (l1 c4_166) (l1 c5_230))) (nd a11 u14 (nd a12 (l1 c4_182) (l1 c6_246)))) (nd (c0_30 P) (nd c0_46 u15 (nd a11 (l1 c4_174) (l1 c5_238))) (nd a12 (nd c1_94 (l1 (c3_158 P)) (l1 c5_222)) (nd c6_126 (l1 a11) (l1 a11)))))))
def c7_3:=Obj.mk y3 none (Data.dict (A [de P q3 165 (vs q4 230),de P q5 166 vn,de P q6 167 vn,de P q7 168 y4,de P q8 169 vn,de P q9 170 (vr 6),de P q10 171 (vr 4),de P q11 173 (vs q1 172),de P q12 174 vn,de P q13 193 (vr 21),de P q14 213 (vr 31),de P q15 229 (vr 44),de P q23 296 (vr 98),de P q40 330 (vr 126),de P q46 369 (vr 159),de P q50 408 (vr 192),de P q54 464 (vr 237),de P q62 510 (vr 277),de P q67 568 (vr 324)]) 19) E
def c7_12:=Obj.mk vn none (Data.fields (A [vi 1 0,vi 0 0,vr 20,vi 5 0,vi 0 0,vr 27,vi 7 0,vi 0 0,vr 40,vi 10 0,vi 0 0,vr 52,vi 29 0,vi 0 0,vr 108,vi 37 0,vi 0 0,vr 134,vi 47 0,vi 0 0,vr 167,vi 57 0,vi 0 0,vr 200,vi 75 0,vi 0 0,vr 245,vi 88 0,vi 0 0,vr 285])) E
def c7_126:=Obj.mk y9 none (Data.cls (ClassData.mk q40 [vr 98] [vr 126,vr 98,y12] 125 q40 true [] [vr 159,vr 192,vr 277,vr 324] false none false)) (A [sr 103,none,some (vs q40 297),some (vs q40 305),some y18,some vT])
def c7_282:=Obj.mk y3 none (Data.dict (A [de P q17 518 (vs q4 230),de P q19 520 (vs q67 519),de P q20 522 (vi 88 521),de P q41 532 (vr 293),de P q25 539 (vr 300),de P q26 548 (vr 307),de P q27 556 (vr 314),de P q29 563 (vr 321),de P q21 565 (vr 322)]) 9) E
def c7_284:=m12 90 4 292 94 299 97 306 100 313 103 320
def c7_285:=m0 q67 513 514 515 88 283 284 516 517
def c7_286:=m1 285 282 q4 230
def c7_289:=m15 q30 526 q42 527 q43 528 q68 529
def c7_291:=m4 q41 q69 (M 11 0)
def c7_292:=m5 q41 523 q69 524 525 90 4 287 288 289 290 291 530 531
def c7_293:=m6 q41 q69 (M 11 0) q4 230 292
def c7_296:=m3 q30 536
def c7_298:=m4 q25 q70 (M 11 1)
def c7_299:=m5 q25 533 q70 534 535 94 1 294 295 296 297 298 537 538
def c7_300:=m6 q25 q70 (M 11 1) q4 230 299
def c7_303:=m10 q30 543 q33 544 q34 545
def c7_305:=m4 q26 q71 (M 11 2)
def c7_306:=m5 q26 540 q71 541 542 97 3 301 302 303 304 305 546 547
def c7_307:=m6 q26 q71 (M 11 2) q4 230 306
def c7_310:=m11 q30 552 q34 553
def c7_312:=m4 q27 q72 (M 11 3)
def c7_313:=m5 q27 549 q72 550 551 100 2 308 309 310 311 312 554 555
def c7_314:=m6 q27 q72 (M 11 3) q4 230 313
def c7_317:=m3 q30 560
def c7_319:=m4 q29 q73 (M 11 4)
def c7_320:=m5 q29 557 q73 558 559 103 1 315 316 317 318 319 561 562
def c7_321:=m6 q29 q73 (M 11 4) q4 230 320
def c7_322:=m3 q68 564
def c7_323:=Obj.mk y3 none (Data.dict (A [de P q17 518 (vs q4 230),de P q20 522 (vi 88 521),de P q41 532 (vr 293),de P q25 539 (vr 300),de P q26 548 (vr 307),de P q27 556 (vr 314),de P q29 563 (vr 321),de P q21 565 (vr 322),de P q5 566 vn]) 2) E
def c7_324:=Obj.mk y9 none (Data.cls (ClassData.mk q67 [vr 126] [vr 324,vr 126,vr 98,y12] 323 q67 true [] [] false none false)) (A [sr 280,none,some (vs q67 511),some (vs q67 519),some y18,some vT])
def c7_325:=m7 324
def c7_326:=m8 324
def u16:=nd c1_63 (nd c2_127 (l1 a12) .nil) (nd (c4_191 P) (l1 c7_319) .nil)
def u17:=nd a12 (nd c4_175 (l1 c7_303) .nil) (l1 c5_239)
def u18:=nd c1_67 (nd (c3_131 P) (l1 c6_259) .nil) (nd c2_103 (l1 (c7_323 P)) .nil)
def u19:=nd c2_115 (nd a11 (l1 c7_307) .nil) (l1 a11)
def u20:=nd c2_107 (nd c4_171 (l1 c7_299) .nil) (l1 c5_235)
def u21:=nd c2_123 (nd c4_187 (l1 a11) .nil) (l1 c6_251)
def u22:=nd c1_65 (nd c3_129 (l1 a11) .nil) (nd c4_193 (l1 c7_321) .nil)
def u23:=nd a11 (nd a12 (l1 c7_305) .nil) (l1 c0_23)
def u24:=nd (c2_105 P) (nd a11 (l1 a11) .nil) (l1 c5_233)
def u25:=nd c2_121 (nd c4_185 (l1 c7_313) .nil) (l1 c6_249)
def u26:=nd a12 (nd c3_133 (l1 a11) .nil) (nd (c5_197 P) (l1 c7_325) .nil)
def u27:=nd a11 (nd c4_181 (l1 a12) .nil) (l1 c6_245)
def u28:=nd c2_109 (nd c4_173 (l1 a11) .nil) (l1 c5_237)
def u29:=nd (c2_125 P) (nd c4_189 (l1 c7_317) .nil) (l1 c6_253)
def u30:=nd a11 (nd c2_128 (l1 c6_256) .nil) (nd c4_192 (l1 c7_320) .nil)
def u31:=nd c2_112 (nd a11 (l1 a11) .nil) (l1 c3_129)
def u32:=nd c0_23 (nd c4_168 (l1 c7_296) .nil) (l1 c5_232)
def u33:=nd a11 (nd a11 (l1 c6_260) .nil) (nd c0_23 (l1 c7_324) .nil)
def u34:=nd c2_116 (nd c4_180 (l1 a11) .nil) (l1 c6_244)
def u35:=nd c2_108 (nd a11 (l1 c7_300) .nil) (l1 (c5_236 P))
def u36:=nd c2_124 (nd c4_188 (l1 a12) .nil) (l1 c6_252)
def u37:=nd c1_66 (nd c0_23 (l1 c6_258) .nil) (nd c4_194 (l1 c7_322) .nil)
def u38:=nd c2_114 (nd c4_178 (l1 c7_306) .nil) (l1 (c6_242 P))
def u39:=nd a11 (nd a12 (l1 c7_298) .nil) (l1 c5_234)
def u40:=nd c2_122 (nd a11 (l1 c7_314) .nil) (l1 a11)
def u41:=nd c1_70 (nd c3_134 (l1 a12) .nil) (nd a11 (l1 c7_326) .nil)
def u42:=nd a12 (nd c4_182 (l1 c7_310) .nil) (l1 c6_246)
def u43:=nd a11 (nd c4_174 (l1 a12) .nil) (l1 c5_238)
def tc7_:=nd (boot_o_0 P) (nd (boot_o_1 P) (nd (c7_3 P) (nd (boot_o_7 P) (nd a11 (nd c0_31 (u16 P) (nd c1_95 (nd c3_159 (l1 a11) .nil) (l1 a11))) (nd a11 u1 u17)) (nd c0_23 (nd a12 u2 (nd c2_103 (nd c4_167 (l1 a12) .nil) (l1 a11))) (nd a12 u3 (nd c2_119 (nd a11 (l1 a11) .nil) (l1 a11))))) (nd a11 (nd c0_19 (nd c0_35 (u18 P) (nd c1_99 (nd c0_23 (l1 c7_291) .nil) (l1 c5_227))) (nd c1_51 u4 u19)) (nd c0_27 (nd (c0_43 P) (nd a11 (nd a11 (l1 c6_267) .nil) (l1 a12)) u20) (nd c1_59 (nd c1_91 (nd c3_155 (l1 a11) .nil) (l1 a11)) u21)))) (nd (boot_o_5 P) (nd (boot_o_9 P) (nd c0_17 (nd c0_33 u22 (nd (c1_97 P) (nd c3_161 (l1 c7_289) .nil) (l1 c5_225))) (nd (c1_49 P) u5 u23)) (nd a11 (nd c0_41 u6 (u24 P)) (nd a11 (nd a11 (nd a11 (l1 c0_23) .nil) (l1 a12)) u25))) (nd a13 (nd c0_21 (nd (c0_37 P) (u26 P) (nd c1_101 (nd a11 (l1 c7_293) .nil) (l1 a12))) (nd c1_53 u7 u27)) (nd a11 (nd c0_45 u8 u28) (nd a11 (nd c1_93 (nd a11 (l1 c7_285) .nil) (l1 c5_221)) (u29 P)))))) (nd (boot_o_2 P) (nd (boot_o_4 P) (nd (boot_o_8 P) (nd a12 (nd c0_32 u30 (nd a11 (nd c3_160 (l1 a12) .nil) (l1 a12))) (nd c0_23 u9 u31)) (nd (c0_24 P) (nd c0_40 u10 u32) (nd c1_56 (nd c1_88 (nd c3_152 (l1 c3_129) .nil) (l1 a11)) (nd a11 (nd a12 (l1 c7_312) .nil) (l1 a12))))) (nd c7_12 (nd c0_20 (nd c0_23 u33 (nd c1_100 (nd (c4_164 P) (l1 c7_292) .nil) (l1 a11))) (nd c1_52 (u11 P) u34)) (nd c0_28 (nd c0_44 u12 (u35 P)) (nd c1_60 (nd a11 (nd c3_156 (l1 c7_284) .nil) (l1 c5_220)) u36)))) (nd (boot_o_6 P) (nd (boot_o_10 P) (nd a11 (nd c0_34 u37 (nd c5_98 (nd c3_129 (l1 a11) .nil) (l1 c5_226))) (nd a11 (nd a11 (nd a11 (l1 c6_274) .nil) (l1 a12)) (u38 P))) (nd a12 (nd a11 u13 u39) (nd c1_58 (nd a12 (nd c3_154 (l1 (c7_282 P)) .nil) (l1 c5_218)) u40))) (nd a14 (nd c0_22 (nd a11 u41 (nd c1_102 (nd c4_166 (l1 a11) .nil) (l1 c5_230))) (nd a11 u14 u42)) (nd (c0_30 P) (nd c0_46 u15 u43) (nd a12 (nd c1_94 (nd (c3_158 P) (l1 c7_286) .nil) (l1 c5_222)) (nd c7_126 (nd a11 (l1 a11) .nil) (l1 a11)))))))
def c8_3:=Obj.mk y3 none (Data.dict (A [de P q3 165 (vs q4 230),de P q5 166 vn,de P q6 167 vn,de P q7 168 y4,de P q8 169 vn,de P q9 170 (vr 6),de P q10 171 (vr 4),de P q11 173 (vs q1 172),de P q12 174 vn,de P q13 193 (vr 21),de P q14 213 (vr 31),de P q15 229 (vr 44),de P q23 296 (vr 98),de P q40 330 (vr 126),de P q46 369 (vr 159),de P q50 408 (vr 192),de P q54 464 (vr 237),de P q62 510 (vr 277),de P q67 568 (vr 324),de P q74 609 (vr 357)]) 20) E
def c8_12:=Obj.mk vn none (Data.fields (A [vi 1 0,vi 0 0,vr 20,vi 5 0,vi 0 0,vr 27,vi 7 0,vi 0 0,vr 40,vi 10 0,vi 0 0,vr 52,vi 29 0,vi 0 0,vr 108,vi 37 0,vi 0 0,vr 134,vi 47 0,vi 0 0,vr 167,vi 57 0,vi 0 0,vr 200,vi 75 0,vi 0 0,vr 245,vi 88 0,vi 0 0,vr 285,vi 105 0,vi 0 0,vr 332])) E
def c8_98:=Obj.mk y9 none (Data.cls (ClassData.mk q23 [y12] [vr 98,y12] 97 q23 true [] [vr 126,vr 237,vr 357] false none false)) (A [none,none,some (vs q23 232),some (vs q23 240),some y18,some vT])
def c8_329:=m13 P 576 578 q74 577 580 105 579 q41 588 340 597 347 604 354 606 355
def c8_331:=m2 107 4 339 110 346 113 353
def c8_332:=m0 q74 571 572 573 105 330 331 574 575
def c8_333:=m1 332 329 q4 230
def c8_336:=m11 q30 584 q68 585
def c8_338:=m4 q41 q75 (M 12 0)
def c8_339:=m5 q41 581 q75 582 583 107 2 334 335 336 337 338 586 587
def c8_340:=m6 q41 q75 (M 12 0) q4 230 339
def c8_343:=m10 q30 592 q33 593 q34 594
def c8_345:=m4 q26 q76 (M 12 1)
def c8_346:=m5 q26 589 q76 590 591 110 3 341 342 343 344 345 595 596
def c8_347:=m6 q26 q76 (M 12 1) q4 230 346
def c8_350:=m3 q30 601
def c8_352:=m4 q29 q77 (M 12 2)
def c8_353:=m5 q29 598 q77 599 600 113 1 348 349 350 351 352 602 603
def c8_354:=m6 q29 q77 (M 12 2) q4 230 353
def c8_355:=m3 q68 605
def c8_356:=m14 P 576 580 105 579 q41 588 340 597 347 604 354 606 355 607
def c8_357:=Obj.mk y9 none (Data.cls (ClassData.mk q74 [vr 98] [vr 357,vr 98,y12] 356 q74 true [] [] false none false)) (A [sr 327,none,some (vs q74 569),some (vs q74 577),some y18,some vT])
def c8_358:=m7 357
def c8_359:=m8 357
def tc8_:=nd (boot_o_0 P) (nd (boot_o_1 P) (nd (c8_3 P) (nd (boot_o_7 P) (nd a11 (nd c0_31 (u16 P) (nd c1_95 (nd c3_159 (l1 a11) .nil) (nd a11 (l1 a11) .nil))) (nd a11 (nd c1_79 (nd a11 (l1 a11) .nil) (nd c5_207 (l1 a12) .nil)) u17)) (nd c0_23 (nd a12 (nd a11 (nd c3_135 (l1 c6_263) .nil) (nd c5_199 (l1 c2_103) .nil)) (nd c2_103 (nd c4_167 (l1 a12) .nil) (nd a11 (l1 c8_359) .nil))) (nd a12 (nd c1_87 (nd a12 (l1 c6_279) .nil) (nd c5_215 (l1 c8_343) .nil)) (nd c2_119 (nd a11 (l1 a11) .nil) (l1 a11))))) (nd a11 (nd c0_19 (nd c0_35 (u18 P) (nd c1_99 (nd c0_23 (l1 c7_291) .nil) (nd c5_227 (l1 c8_355) .nil))) (nd c1_51 (nd a12 (nd c3_147 (l1 a11) .nil) (nd c5_211 (l1 c8_339) .nil)) u19)) (nd c0_27 (nd (c0_43 P) (nd a11 (nd a11 (l1 c6_267) .nil) (nd a12 (l1 c8_331) .nil)) u20) (nd c1_59 (nd c1_91 (nd c3_155 (l1 a11) .nil) (nd a11 (l1 c8_347) .nil)) u21)))) (nd (boot_o_5 P) (nd (boot_o_9 P) (nd c0_17 (nd c0_33 u22 (nd (c1_97 P) (nd c3_161 (l1 c7_289) .nil) (nd c5_225 (l1 c8_353) .nil))) (nd (c1_49 P) (nd c1_81 (nd c3_145 (l1 c6_273) .nil) (nd a11 (l1 a11) .nil)) u23)) (nd a11 (nd c0_41 (nd c1_73 (nd a12 (l1 c6_265) .nil) (nd c5_201 (l1 (c8_329 P)) .nil)) (u24 P)) (nd a11 (nd a11 (nd a11 (l1 c0_23) .nil) (nd a12 (l1 c8_345) .nil)) u25))) (nd a13 (nd c0_21 (nd (c0_37 P) (u26 P) (nd c1_101 (nd a11 (l1 c7_293) .nil) (nd a12 (l1 c8_357) .nil))) (nd c1_53 (nd a11 (nd c3_149 (l1 c6_277) .nil) (nd c5_213 (l1 a11) .nil)) u27)) (nd a11 (nd c0_45 (nd c1_77 (nd c3_141 (l1 a12) .nil) (nd a11 (l1 c8_333) .nil)) u28) (nd a11 (nd c1_93 (nd a11 (l1 c7_285) .nil) (nd c5_221 (l1 a12) .nil)) (u29 P)))))) (nd (boot_o_2 P) (nd (boot_o_4 P) (nd (boot_o_8 P) (nd a12 (nd c0_32 u30 (nd a11 (nd c3_160 (l1 a12) .nil) (nd a12 (l1 c8_352) .nil))) (nd c0_23 (nd c1_80 (nd a12 (l1 c6_272) .nil) (nd c5_208 (l1 c8_336) .nil)) u31)) (nd (c0_24 P) (nd c0_40 (nd c1_72 (nd a11 (l1 a11) .nil) (nd c5_200 (l1 c0_23) .nil)) u32) (nd c1_56 (nd c1_88 (nd c3_152 (l1 c3_129) .nil) (nd a11 (l1 a11) .nil)) (nd a11 (nd a12 (l1 c7_312) .nil) (l1 a12))))) (nd c8_12 (nd c0_20 (nd c0_23 u33 (nd c1_100 (nd (c4_164 P) (l1 c7_292) .nil) (nd a11 (l1 (c8_356 P)) .nil))) (nd c1_52 (nd c1_84 (nd c3_148 (l1 (c6_276 P)) .nil) (nd a11 (l1 c8_340) .nil)) u34)) (nd c0_28 (nd c0_44 (nd a12 (nd c3_140 (l1 a11) .nil) (nd c5_204 (l1 c8_332) .nil)) (u35 P)) (nd c1_60 (nd a11 (nd c3_156 (l1 c7_284) .nil) (nd c5_220 (l1 a11) .nil)) u36)))) (nd (boot_o_6 P) (nd (boot_o_10 P) (nd a11 (nd c0_34 u37 (nd c8_98 (nd c3_129 (l1 a11) .nil) (nd c5_226 (l1 c8_354) .nil))) (nd a11 (nd a11 (nd a11 (l1 c6_274) .nil) (nd a12 (l1 c8_338) .nil)) (u38 P))) (nd a12 (nd a11 (nd c1_74 (nd c3_138 (l1 c6_266) .nil) (nd a11 (l1 a11) .nil)) u39) (nd c1_58 (nd a12 (nd c3_154 (l1 (c7_282 P)) .nil) (nd c5_218 (l1 c8_346) .nil)) u40))) (nd a14 (nd c0_22 (nd a11 u41 (nd c1_102 (nd c4_166 (l1 a11) .nil) (nd c5_230 (l1 c8_358) .nil))) (nd a11 (nd c1_86 (nd a11 (l1 c6_278) .nil) (nd c5_214 (l1 a12) .nil)) u42)) (nd (c0_30 P) (nd c0_46 (nd a11 (nd c3_142 (l1 c6_270) .nil) (nd c5_206 (l1 a11) .nil)) u43) (nd a12 (nd c1_94 (nd (c3_158 P) (l1 c7_286) .nil) (nd c5_222 (l1 c8_350) .nil)) (nd c7_126 (nd a11 (l1 a11) .nil) (l1 a11)))))))
def c9_3:=Obj.mk y3 none (Data.dict (A [de P q3 165 (vs q78 651),de P q5 166 vn,de P q6 167 vn,de P q7 168 y4,de P q8 169 vn,de P q9 170 (vr 6),de P q10 171 (vr 4),de P q11 173 (vs q1 172),de P q12 174 vn,de P q13 193 (vr 21),de P q14 213 (vr 31),de P q15 229 (vr 44),de P q23 296 (vr 98),de P q40 330 (vr 126),de P q46 369 (vr 159),de P q50 408 (vr 192),de P q54 464 (vr 237),de P q62 510 (vr 277),de P q67 568 (vr 324),de P q74 609 (vr 357),de P q79 650 (vr 390),de P q80 660 (vr 399),de P q81 667 (vr 406),de P q82 676 (vr 413),de P q83 686 (vr 420),de P q84 694 (vr 427),de P q85 705 (vr 434),de P q86 711 (vr 439)]) 28) E
def c9_12:=Obj.mk vn none (Data.fields (A [vi 1 0,vi 0 0,vr 20,vi 5 0,vi 0 0,vr 27,vi 7 0,vi 0 0,vr 40,vi 10 0,vi 0 0,vr 52,vi 29 0,vi 0 0,vr 108,vi 37 0,vi 0 0,vr 134,vi 47 0,vi 0 0,vr 167,vi 57 0,vi 0 0,vr 200,vi 75 0,vi 0 0,vr 245,vi 88 0,vi 0 0,vr 285,vi 105 0,vi 0 0,vr 332,vi 115 0,vi 0 0,vr 365,vi 128 0,vi 0 0,vr 398,vi 132 0,vi 0 0,vr 405,vi 134 0,vi 0 0,vr 412,vi 137 0,vi 0 0,vr 419,vi 148 0,vi 0 0,vr 426,vi 152 0,vi 0 0,vr 433,vi 164 0,vi 0 0,vr 438])) E
def c9_98:=Obj.mk y9 none (Data.cls (ClassData.mk q23 [y12] [vr 98,y12] 97 q23 true [] [vr 126,vr 237,vr 357,vr 390] false none false)) (A [none,none,some (vs q23 232),some (vs q23 240),some y18,some vT])
def c9_362:=m13 P 617 619 q79 618 621 115 620 q41 629 373 638 380 645 387 647 388
def c9_364:=m2 117 4 372 120 379 125 386
def c9_365:=m0 q79 612 613 614 115 363 364 615 616
def c9_366:=m1 365 362 q4 230
def c9_369:=m11 q30 625 q68 626
def c9_371:=m4 q41 q87 (M 13 0)
def c9_372:=m5 q41 622 q87 623 624 117 2 367 368 369 370 371 627 628
def c9_373:=m6 q41 q87 (M 13 0) q4 230 372
def c9_376:=m10 q30 633 q33 634 q34 635
def c9_378:=m4 q26 q88 (M 13 1)
def c9_379:=m5 q26 630 q88 631 632 120 3 374 375 376 377 378 636 637
def c9_380:=m6 q26 q88 (M 13 1) q4 230 379
def c9_383:=m3 q30 642
def c9_385:=m4 q29 q89 (M 13 2)
def c9_386:=m5 q29 639 q89 640 641 125 1 381 382 383 384 385 643 644
def c9_387:=m6 q29 q89 (M 13 2) q4 230 386
def c9_388:=m3 q68 646
def c9_389:=m14 P 617 621 115 620 q41 629 373 638 380 645 387 647 388 648
def c9_390:=Obj.mk y9 none (Data.cls (ClassData.mk q79 [vr 98] [vr 390,vr 98,y12] 389 q79 true [] [] false none false)) (A [sr 360,none,some (vs q79 610),some (vs q79 618),some y18,some vT])
def c9_391:=m7 390
def c9_392:=m8 390
def c9_395:=m11 q90 656 q91 657
def c9_397:=m4 q80 q80 (B 15)
def c9_398:=m5 q80 653 q80 654 655 128 2 393 394 395 396 397 658 659
def c9_399:=m6 q80 q80 (B 15) q78 651 398
def c9_402:=m3 q92 664
def c9_404:=m4 q81 q81 (B 16)
def c9_405:=m5 q81 661 q81 662 663 132 1 400 401 402 403 404 665 666
def c9_406:=m6 q81 q81 (B 16) q78 651 405
def c9_409:=m10 q93 671 q91 672 q94 673
def c9_411:=m4 q82 q82 (B 17)
def c9_412:=m5 q82 668 q82 669 670 134 2 407 408 409 410 411 674 675
def c9_413:=m6 q82 q82 (B 17) q78 651 412
def c9_416:=m15 q93 680 q91 681 q94 682 q95 683
def c9_418:=m4 q83 q83 (B 18)
def c9_419:=m5 q83 677 q83 678 679 137 2 414 415 416 417 418 684 685
def c9_420:=m6 q83 q83 (B 18) q78 651 419
def c9_423:=m11 q93 690 q91 691
def c9_425:=m4 q84 q84 (B 19)
def c9_426:=m5 q84 687 q84 688 689 148 2 421 422 423 424 425 692 693
def c9_427:=m6 q84 q84 (B 19) q78 651 426
def c9_430:=Obj.mk y0 none (Data.seq (A [vs q93 698,vs q96 699,vs q97 700,vs q98 701,vs q99 702]) 0) E
def c9_432:=m4 q85 q85 (B 20)
def c9_433:=m5 q85 695 q85 696 697 152 1 428 429 430 431 432 703 704
def c9_434:=m6 q85 q85 (B 20) q78 651 433
def c9_437:=m4 q86 q86 (B 21)
def c9_438:=Obj.mk y1 none (Data.fields (A [vs q86 706,vs q86 707,vs q1 708,vi 164 0,vi 1 0,vi 0 0,vi 0 0,vi 3 0,vr 435,vT,vi 181 0,vr 436,vn,vn,vn,vr 437,vi 709 0,vi 164 0,vs q1 710])) E
def c9_439:=m6 q86 q86 (B 21) q78 651 438
def u44:=nd c1_95 (nd c3_159 (l1 a11) (l1 a12)) (nd a11 (l1 a11) .nil)
def u45:=nd a12 (nd c4_175 (l1 c7_303) (l1 a11)) (nd c5_239 (l1 a11) .nil)
def u46:=nd c2_103 (nd c4_167 (l1 a12) (l1 c9_423)) (nd a11 (l1 c8_359) .nil)
def u47:=nd c2_119 (nd a11 (l1 a11) (l1 c9_439)) (nd a11 (l1 a12) .nil)
def u48:=nd c1_99 (nd c0_23 (l1 c7_291) (l1 c9_419)) (nd c5_227 (l1 c8_355) .nil)
def u49:=nd c2_115 (nd a11 (l1 c7_307) (l1 a11)) (nd a11 (l1 c9_371) .nil)
def u50:=nd c2_107 (nd c4_171 (l1 c7_299) (l1 c9_427)) (nd c5_235 (l1 a11) .nil)
def u51:=nd c1_91 (nd c3_155 (l1 a11) (l1 c9_411)) (nd a11 (l1 c8_347) .nil)
def u52:=nd (c1_97 P) (nd c3_161 (l1 c7_289) (l1 a11)) (nd c5_225 (l1 c8_353) .nil)
def u53:=nd a11 (nd a12 (l1 c7_305) (l1 c9_433)) (nd c0_23 (l1 c9_369) .nil)
def u54:=nd (c2_105 P) (nd a11 (l1 a11) (l1 c9_425)) (nd c5_233 (l1 c0_23) .nil)
def u55:=nd c1_101 (nd a11 (l1 c7_293) (l1 a11)) (nd a12 (l1 c8_357) .nil)
def u56:=nd a11 (nd c4_181 (l1 a12) (l1 c9_437)) (nd c6_245 (l1 c9_373) .nil)
def u57:=nd c2_109 (nd c4_173 (l1 a11) (l1 a12)) (nd c5_237 (l1 c9_365) .nil)
def u58:=nd c1_93 (nd a11 (l1 c7_285) (l1 c9_413)) (nd c5_221 (l1 a12) .nil)
def u59:=nd a11 (nd c3_160 (l1 a12) (l1 c9_416)) (nd a12 (l1 c8_352) .nil)
def u60:=nd c2_112 (nd a11 (l1 a11) (l1 c9_432)) (nd c3_129 (l1 a12) .nil)
def u61:=nd c0_23 (nd c4_168 (l1 c7_296) (l1 a11)) (nd c5_232 (l1 c2_103) .nil)
def u62:=nd c1_100 (nd (c4_164 P) (l1 c7_292) (l1 c9_420)) (nd a11 (l1 (c8_356 P)) .nil)
def u63:=nd c2_116 (nd c4_180 (l1 a11) (l1 a12)) (nd c6_244 (l1 c9_372) .nil)
def u64:=nd c2_108 (nd a11 (l1 c7_300) (l1 a11)) (nd (c5_236 P) (l1 c9_364) .nil)
def u65:=nd a11 (nd c3_156 (l1 c7_284) (l1 c9_412)) (nd c5_220 (l1 a11) .nil)
def u66:=nd c9_98 (nd c3_129 (l1 a11) (l1 c9_418)) (nd c5_226 (l1 c8_354) .nil)
def u67:=nd c2_114 (nd c4_178 (l1 c7_306) (l1 c9_434)) (nd (c6_242 P) (l1 a11) .nil)
def u68:=nd a11 (nd a12 (l1 c7_298) (l1 c9_426)) (nd c5_234 (l1 (c9_362 P)) .nil)
def u69:=nd c1_102 (nd c4_166 (l1 a11) (l1 a12)) (nd c5_230 (l1 c8_358) .nil)
def u70:=nd a12 (nd c4_182 (l1 c7_310) (l1 c9_438)) (nd c6_246 (l1 a11) .nil)
def u71:=nd a11 (nd c4_174 (l1 a12) (l1 c9_430)) (nd c5_238 (l1 c9_366) .nil)
def u72:=nd c1_94 (nd (c3_158 P) (l1 c7_286) (l1 a11)) (nd c5_222 (l1 c8_350) .nil)
def tc9_:=nd (boot_o_0 P) (nd (boot_o_1 P) (nd (c9_3 P) (nd (boot_o_7 P) (nd a11 (nd c0_31 (nd c1_63 (nd c2_127 (l1 a12) (l1 c9_383)) (nd (c4_191 P) (l1 c7_319) .nil)) u44) (nd a11 (nd c1_79 (nd a11 (l1 a11) (l1 c9_399)) (nd c5_207 (l1 a12) .nil)) u45)) (nd c0_23 (nd a12 (nd a11 (nd c3_135 (l1 c6_263) (l1 c9_391)) (nd c5_199 (l1 c2_103) .nil)) u46) (nd a12 (nd c1_87 (nd a12 (l1 c6_279) (l1 a11)) (nd c5_215 (l1 c8_343) .nil)) u47))) (nd a11 (nd c0_19 (nd c0_35 (nd c1_67 (nd (c3_131 P) (l1 c6_259) (l1 c9_387)) (nd c2_103 (l1 (c7_323 P)) .nil)) u48) (nd c1_51 (nd a12 (nd c3_147 (l1 a11) (l1 a11)) (nd c5_211 (l1 c8_339) .nil)) u49)) (nd c0_27 (nd (c0_43 P) (nd a11 (nd a11 (l1 c6_267) (l1 c9_395)) (nd a12 (l1 c8_331) .nil)) u50) (nd c1_59 u51 (nd c2_123 (nd c4_187 (l1 a11) .nil) (nd c6_251 (l1 c9_379) .nil)))))) (nd (boot_o_5 P) (nd (boot_o_9 P) (nd c0_17 (nd c0_33 (nd c1_65 (nd c3_129 (l1 a11) (l1 c9_385)) (nd c4_193 (l1 c7_321) .nil)) (u52 P)) (nd (c1_49 P) (nd c1_81 (nd c3_145 (l1 c6_273) (l1 a12)) (nd a11 (l1 a11) .nil)) u53)) (nd a11 (nd c0_41 (nd c1_73 (nd a12 (l1 c6_265) (l1 a11)) (nd c5_201 (l1 (c8_329 P)) .nil)) (u54 P)) (nd a11 (nd a11 (nd a11 (l1 c0_23) (l1 c9_409)) (nd a12 (l1 c8_345) .nil)) (nd c2_121 (nd c4_185 (l1 c7_313) .nil) (nd c6_249 (l1 a11) .nil))))) (nd a13 (nd c0_21 (nd (c0_37 P) (nd a12 (nd c3_133 (l1 a11) (l1 (c9_389 P))) (nd (c5_197 P) (l1 c7_325) .nil)) u55) (nd c1_53 (nd a11 (nd c3_149 (l1 c6_277) (l1 c9_405)) (nd c5_213 (l1 a11) .nil)) u56)) (nd a11 (nd c0_45 (nd c1_77 (nd c3_141 (l1 a12) (l1 c9_397)) (nd a11 (l1 c8_333) .nil)) u57) (nd a11 u58 (nd (c2_125 P) (nd c4_189 (l1 c7_317) .nil) (nd c6_253 (l1 a11) .nil))))))) (nd (boot_o_2 P) (nd (boot_o_4 P) (nd (boot_o_8 P) (nd a12 (nd c0_32 (nd a11 (nd c2_128 (l1 c6_256) (l1 a11)) (nd c4_192 (l1 c7_320) .nil)) u59) (nd c0_23 (nd c1_80 (nd a12 (l1 c6_272) (l1 a11)) (nd c5_208 (l1 c8_336) .nil)) u60)) (nd (c0_24 P) (nd c0_40 (nd c1_72 (nd a11 (l1 a11) (l1 c9_392)) (nd c5_200 (l1 c0_23) .nil)) u61) (nd c1_56 (nd c1_88 (nd c3_152 (l1 c3_129) (l1 a12)) (nd a11 (l1 a11) .nil)) (nd a11 (nd a12 (l1 c7_312) .nil) (nd a12 (l1 c9_376) .nil))))) (nd c9_12 (nd c0_20 (nd c0_23 (nd a11 (nd a11 (l1 c6_260) (l1 c9_388)) (nd c0_23 (l1 c7_324) .nil)) (u62 P)) (nd c1_52 (nd c1_84 (nd c3_148 (l1 (c6_276 P)) (l1 c9_404)) (nd a11 (l1 c8_340) .nil)) u63)) (nd c0_28 (nd c0_44 (nd a12 (nd c3_140 (l1 a11) (l1 a11)) (nd c5_204 (l1 c8_332) .nil)) (u64 P)) (nd c1_60 u65 (nd c2_124 (nd c4_188 (l1 a12) .nil) (nd c6_252 (l1 c9_380) .nil)))))) (nd (boot_o_6 P) (nd (boot_o_10 P) (nd a11 (nd c0_34 (nd c1_66 (nd c0_23 (l1 c6_258) (l1 c9_386)) (nd c4_194 (l1 c7_322) .nil)) u66) (nd a11 (nd a11 (nd a11 (l1 c6_274) (l1 c9_402)) (nd a12 (l1 c8_338) .nil)) (u67 P))) (nd a12 (nd a11 (nd c1_74 (nd c3_138 (l1 c6_266) (l1 a12)) (nd a11 (l1 a11) .nil)) (u68 P)) (nd c1_58 (nd a12 (nd c3_154 (l1 (c7_282 P)) (l1 a11)) (nd c5_218 (l1 c8_346) .nil)) (nd c2_122 (nd a11 (l1 c7_314) .nil) (nd a11 (l1 c9_378) .nil))))) (nd a14 (nd c0_22 (nd a11 (nd c1_70 (nd c3_134 (l1 a12) (l1 c9_390)) (nd a11 (l1 c7_326) .nil)) u69) (nd a11 (nd c1_86 (nd a11 (l1 c6_278) (l1 c9_406)) (nd c5_214 (l1 a12) .nil)) u70)) (nd (c0_30 P) (nd c0_46 (nd a11 (nd c3_142 (l1 c6_270) (l1 c9_398)) (nd c5_206 (l1 a11) .nil)) u71) (nd a12 (u72 P) (nd c7_126 (nd a11 (l1 a11) .nil) (nd a11 (l1 a12) .nil)))))))
def c10_3:=Obj.mk y3 none (Data.dict (A [de P q3 165 (vs q78 651),de P q5 166 vn,de P q6 167 vn,de P q7 168 y4,de P q8 169 vn,de P q9 170 (vr 6),de P q10 171 (vr 4),de P q11 173 (vs q1 172),de P q12 174 vn,de P q13 193 (vr 21),de P q14 213 (vr 31),de P q15 229 (vr 44),de P q23 296 (vr 98),de P q40 330 (vr 126),de P q46 369 (vr 159),de P q50 408 (vr 192),de P q54 464 (vr 237),de P q62 510 (vr 277),de P q67 568 (vr 324),de P q74 609 (vr 357),de P q79 650 (vr 390),de P q80 660 (vr 399),de P q81 667 (vr 406),de P q82 676 (vr 413),de P q83 686 (vr 420),de P q84 694 (vr 427),de P q85 705 (vr 434),de P q86 711 (vr 439),de P q100 718 (vr 446),de P q101 728 (vr 453),de P q102 738 (vr 460),de P q103 745 (vr 467),de P q104 763 (vr 474)]) 33) E
def c10_12:=Obj.mk vn none (Data.fields (A [vi 1 0,vi 0 0,vr 20,vi 5 0,vi 0 0,vr 27,vi 7 0,vi 0 0,vr 40,vi 10 0,vi 0 0,vr 52,vi 29 0,vi 0 0,vr 108,vi 37 0,vi 0 0,vr 134,vi 47 0,vi 0 0,vr 167,vi 57 0,vi 0 0,vr 200,vi 75 0,vi 0 0,vr 245,vi 88 0,vi 0 0,vr 285,vi 105 0,vi 0 0,vr 332,vi 115 0,vi 0 0,vr 365,vi 128 0,vi 0 0,vr 398,vi 132 0,vi 0 0,vr 405,vi 134 0,vi 0 0,vr 412,vi 137 0,vi 0 0,vr 419,vi 148 0,vi 0 0,vr 426,vi 152 0,vi 0 0,vr 433,vi 164 0,vi 0 0,vr 438,vi 166 0,vi 0 0,vr 445,vi 180 0,vi 0 0,vr 452,vi 193 0,vi 0 0,vr 459,vi 201 0,vi 0 0,vr 466,vi 205 0,vi 0 0,vr 473])) E
def c10_442:=m3 q105 715
def c10_444:=m4 q100 q100 (B 22)
def c10_445:=m5 q100 712 q100 713 714 166 1 440 441 442 443 444 716 717
def c10_446:=m6 q100 q100 (B 22) q78 651 445
def c10_449:=m15 q105 722 q93 723 q106 724 q107 725
def c10_451:=m4 q101 q101 (B 23)
def c10_452:=m5 q101 719 q101 720 721 180 3 447 448 449 450 451 726 727
def c10_453:=m6 q101 q101 (B 23) q78 651 452
def c10_456:=m15 q108 732 q109 733 q110 734 q111 735
def c10_458:=m4 q102 q102 (B 24)
def c10_459:=m5 q102 729 q102 730 731 193 3 454 455 456 457 458 736 737
def c10_460:=m6 q102 q102 (B 24) q78 651 459
def c10_463:=m3 q105 742
def c10_465:=m4 q103 q103 (B 25)
def c10_466:=m5 q103 739 q103 740 741 201 1 461 462 463 464 465 743 744
def c10_467:=m6 q103 q103 (B 25) q78 651 466
def c10_470:=Obj.mk y0 none (Data.seq (A [vs q90 749,vs q106 750,vs q112 751,vs q113 752,vs q114 753,vs q93 754,vs q105 755,vs q115 756,vs q109 757,vs q107 758]) 0) E
def c10_471:=m11 q116 759 q108 760
def c10_472:=m4 q104 q104 (B 26)
def c10_473:=m5 q104 746 q104 747 748 205 1 468 469 470 471 472 761 762
def c10_474:=m6 q104 q104 (B 26) q78 651 473
def u73:=nd (boot_o_0 P) (nd (boot_o_1 P) (nd (c10_3 P) (nd (boot_o_7 P) (nd a11 (nd c0_31 (nd c1_63 (nd c2_127 (l1 a12) (l1 c9_383)) (nd (c4_191 P) (l1 c7_319) (l1 a11))) u44) (nd a11 (nd c1_79 (nd a11 (l1 a11) (l1 c9_399)) (nd c5_207 (l1 a12) (l1 c10_463))) u45)) (nd c0_23 (nd a12 (nd a11 (nd c3_135 (l1 c6_263) (l1 c9_391)) (nd c5_199 (l1 c2_103) (l1 a12))) u46) (nd a12 (nd c1_87 (nd a12 (l1 c6_279) (l1 a11)) (nd c5_215 (l1 c8_343) (l1 c10_471))) u47))) (nd a11 (nd c0_19 (nd c0_35 (nd c1_67 (nd (c3_131 P) (l1 c6_259) (l1 c9_387)) (nd c2_103 (l1 (c7_323 P)) (l1 c10_451))) u48) (nd c1_51 (nd a12 (nd c3_147 (l1 a11) (l1 a11)) (nd c5_211 (l1 c8_339) (l1 c10_467))) u49)) (nd c0_27 (nd (c0_43 P) (nd a11 (nd a11 (l1 c6_267) (l1 c9_395)) (nd a12 (l1 c8_331) (l1 c10_459))) u50) (nd c1_59 u51 (nd c2_123 (nd c4_187 (l1 a11) (l1 a11)) (nd c6_251 (l1 c9_379) .nil)))))) (nd (boot_o_5 P) (nd (boot_o_9 P) (nd c0_17 (nd c0_33 (nd c1_65 (nd c3_129 (l1 a11) (l1 c9_385)) (nd c4_193 (l1 c7_321) (l1 c10_449))) (u52 P)) (nd (c1_49 P) (nd c1_81 (nd c3_145 (l1 c6_273) (l1 a12)) (nd a11 (l1 a11) (l1 c10_465))) u53)) (nd a11 (nd c0_41 (nd c1_73 (nd a12 (l1 c6_265) (l1 a11)) (nd c5_201 (l1 (c8_329 P)) (l1 a11))) (u54 P)) (nd a11 (nd a11 (nd a11 (l1 c0_23) (l1 c9_409)) (nd a12 (l1 c8_345) (l1 c10_473))) (nd c2_121 (nd c4_185 (l1 c7_313) (l1 a12)) (nd c6_249 (l1 a11) .nil))))) (nd a13 (nd c0_21 (nd (c0_37 P) (nd a12 (nd c3_133 (l1 a11) (l1 (c9_389 P))) (nd (c5_197 P) (l1 c7_325) (l1 c10_453))) u55) (nd c1_53 (nd a11 (nd c3_149 (l1 c6_277) (l1 c9_405)) (nd c5_213 (l1 a11) (l1 a12))) u56)) (nd a11 (nd c0_45 (nd c1_77 (nd c3_141 (l1 a12) (l1 c9_397)) (nd a11 (l1 c8_333) (l1 a11))) u57) (nd a11 u58 (nd (c2_125 P) (nd c4_189 (l1 c7_317) (l1 c10_445)) (nd c6_253 (l1 a11) .nil))))))) (nd (boot_o_2 P) (nd (boot_o_4 P) (nd (boot_o_8 P) (nd a12 (nd c0_32 (nd a11 (nd c2_128 (l1 c6_256) (l1 a11)) (nd c4_192 (l1 c7_320) (l1 a12))) u59) (nd c0_23 (nd c1_80 (nd a12 (l1 c6_272) (l1 a11)) (nd c5_208 (l1 c8_336) (l1 a11))) u60)) (nd (c0_24 P) (nd c0_40 (nd c1_72 (nd a11 (l1 a11) (l1 c9_392)) (nd c5_200 (l1 c0_23) (l1 c10_456))) u61) (nd c1_56 (nd c1_88 (nd c3_152 (l1 c3_129) (l1 a12)) (nd a11 (l1 a11) (l1 c10_472))) (nd a11 (nd a12 (l1 c7_312) (l1 a11)) (nd a12 (l1 c9_376) .nil))))) (nd c10_12 (nd c0_20 (nd c0_23 (nd a11 (nd a11 (l1 c6_260) (l1 c9_388)) (nd c0_23 (l1 c7_324) (l1 c10_452))) (u62 P)) (nd c1_52 (nd c1_84 (nd c3_148 (l1 (c6_276 P)) (l1 c9_404)) (nd a11 (l1 c8_340) (l1 a11))) u63)) (nd c0_28 (nd c0_44 (nd a12 (nd c3_140 (l1 a11) (l1 a11)) (nd c5_204 (l1 c8_332) (l1 c10_460))) (u64 P)) (nd c1_60 u65 (nd c2_124 (nd c4_188 (l1 a12) (l1 c10_444)) (nd c6_252 (l1 c9_380) .nil)))))) (nd (boot_o_6 P) (nd (boot_o_10 P) (nd a11 (nd c0_34 (nd c1_66 (nd c0_23 (l1 c6_258) (l1 c9_386)) (nd c4_194 (l1 c7_322) (l1 a11))) u66) (nd a11 (nd a11 (nd a11 (l1 c6_274) (l1 c9_402)) (nd a12 (l1 c8_338) (l1 c10_466))) (u67 P))) (nd a12 (nd a11 (nd c1_74 (nd c3_138 (l1 c6_266) (l1 a12)) (nd a11 (l1 a11) (l1 c10_458))) (u68 P)) (nd c1_58 (nd a12 (nd c3_154 (l1 (c7_282 P)) (l1 a11)) (nd c5_218 (l1 c8_346) (l1 c10_474))) (nd c2_122 (nd a11 (l1 c7_314) (l1 c10_442)) (nd a11 (l1 c9_378) .nil))))) (nd a14 (nd c0_22 (nd a11 (nd c1_70 (nd c3_134 (l1 a12) (l1 c9_390)) (nd a11 (l1 c7_326) (l1 a11))) u69) (nd a11 (nd c1_86 (nd a11 (l1 c6_278) (l1 c9_406)) (nd c5_214 (l1 a12) (l1 c10_470))) u70)) (nd (c0_30 P) (nd c0_46 (nd a11 (nd c3_142 (l1 c6_270) (l1 c9_398)) (nd c5_206 (l1 a11) (l1 a12))) u71) (nd a12 (u72 P) (nd c7_126 (nd a11 (l1 a11) (l1 c10_446)) (nd a11 (l1 a12) .nil)))))))
def tc10_:=u73 P
def tz:=u73 P
end
noncomputable def sa (w : World) (os : OsState) : SharedT := SharedT.mk (ta w.params) 15 (@Life.mk [] [] [] 0 [] [] false E [] 0 false false false 0 [2000, 10, 10] false 0 true [] [] 0 false) E (@Drawn.mk 0 0 0 0) 187 os
noncomputable def sb (w : World) (os : OsState) : SharedT := SharedT.mk (tb w.params) 15 (@Life.mk [] [] [] 0 [] [] false E [] 0 false false false 0 [2000, 10, 10] false 0 true [] [] 0 false) E (@Drawn.mk 0 0 0 0) 187 os
noncomputable def sc0_ (w : World) (os : OsState) : SharedT := SharedT.mk (tc0_ w.params) 47 (@Life.mk [] [] [] 0 [] [] false E [] 0 false false false 0 [2000, 10, 10] false 0 true [] [] 0 false) E (@Drawn.mk 0 0 0 0) 232 os
noncomputable def sc1_ (w : World) (os : OsState) : SharedT := SharedT.mk (tc1_ w.params) 103 (@Life.mk [] [] [] 0 [] [] false E [] 0 false false false 0 [2000, 10, 10] false 0 true [] [] 0 false) E (@Drawn.mk 0 0 0 0) 297 os
noncomputable def sc2_ (w : World) (os : OsState) : SharedT := SharedT.mk (tc2_ w.params) 129 (@Life.mk [] [] [] 0 [] [] false E [] 0 false false false 0 [2000, 10, 10] false 0 true [] [] 0 false) E (@Drawn.mk 0 0 0 0) 331 os
noncomputable def sc3_ (w : World) (os : OsState) : SharedT := SharedT.mk (tc3_ w.params) 162 (@Life.mk [] [] [] 0 [] [] false E [] 0 false false false 0 [2000, 10, 10] false 0 true [] [] 0 false) E (@Drawn.mk 0 0 0 0) 370 os
noncomputable def sc4_ (w : World) (os : OsState) : SharedT := SharedT.mk (tc4_ w.params) 195 (@Life.mk [] [] [] 0 [] [] false E [] 0 false false false 0 [2000, 10, 10] false 0 true [] [] 0 false) E (@Drawn.mk 0 0 0 0) 409 os
noncomputable def sc5_ (w : World) (os : OsState) : SharedT := SharedT.mk (tc5_ w.params) 240 (@Life.mk [] [] [] 0 [] [] false E [] 0 false false false 0 [2000, 10, 10] false 0 true [] [] 0 false) E (@Drawn.mk 0 0 0 0) 465 os
noncomputable def sc6_ (w : World) (os : OsState) : SharedT := SharedT.mk (tc6_ w.params) 280 (@Life.mk [] [] [] 0 [] [] false E [] 0 false false false 0 [2000, 10, 10] false 0 true [] [] 0 false) E (@Drawn.mk 0 0 0 0) 511 os
noncomputable def sc7_ (w : World) (os : OsState) : SharedT := SharedT.mk (tc7_ w.params) 327 (@Life.mk [] [] [] 0 [] [] false E [] 0 false false false 0 [2000, 10, 10] false 0 true [] [] 0 false) E (@Drawn.mk 0 0 0 0) 569 os
noncomputable def sc8_ (w : World) (os : OsState) : SharedT := SharedT.mk (tc8_ w.params) 360 (@Life.mk [] [] [] 0 [] [] false E [] 0 false false false 0 [2000, 10, 10] false 0 true [] [] 0 false) E (@Drawn.mk 0 0 0 0) 610 os
noncomputable def sc9_ (w : World) (os : OsState) : SharedT := SharedT.mk (tc9_ w.params) 440 (@Life.mk [] [] [] 0 [] [] false E [] 0 false false false 0 [2000, 10, 10] false 0 true [] [] 0 false) E (@Drawn.mk 0 0 0 0) 712 os
noncomputable def sc10_ (w : World) (os : OsState) : SharedT := SharedT.mk (tc10_ w.params) 475 (@Life.mk [] [] [] 0 [] [] false E [] 0 false false false 0 [2000, 10, 10] false 0 true [] [] 0 false) E (@Drawn.mk 0 0 0 0) 764 os
noncomputable abbrev e0 : Env := { scope := p0.main.scope, locals := mainNs, globals := mainNs, cells := [], code := (vr 13), frame := some 14 }
noncomputable abbrev en : Env := { scope := pq.main.scope, locals := mainNs, globals := mainNs, cells := [], code := (vr 13), frame := some 14 }
theorem bs : behindTheImports p0 = ((p0.main.body.drop 0).take 5 ++ ((p0.main.body.drop 5).take 1 ++ ((p0.main.body.drop 6).take 1 ++ ((p0.main.body.drop 7).take 1 ++ ((p0.main.body.drop 8).take 1 ++ ((p0.main.body.drop 9).take 1 ++ ((p0.main.body.drop 10).take 1 ++ ((p0.main.body.drop 11).take 1 ++ ((p0.main.body.drop 12).take 1 ++ ((p0.main.body.drop 13).take 9 ++ ((p0.main.body.drop 22).take 5 ++ []))))))))))) := by kernel_rfl
theorem pre_l (w : World) (os : OsState) : topGo treeTable p0 w 11 (sr 6) 12 ⟨boot_heap w.params, Array.mk [], boot_drawn, boot_toks, os⟩ (topStub p0) = some ((sa w os).abs, ⟨denote treeTable (Code.body (behindTheImports p0) e0), Code.body (behindTheImports p0) e0, (@Pos.mk 0 0 0 0), [topFrame (@Pos.mk 0 0 0 0)]⟩) := by
  rw [PySem.W.Fast.te15667345088766844465, PySem.W.Fast.te14364793385576792824, PySem.W.Fast.te11892475500146522536, pe]
  kernel_rfl
theorem blk_l (w : World) (os : OsState) : segRun treeTable p0 w 11 (sr 6) 1 1 (sa w os).abs (blockOf (behindTheImports p0) e0 (Code.body (behindTheImports p0) e0) (@Pos.mk 0 0 0 0) [topFrame (@Pos.mk 0 0 0 0)]) = some (Flow.next, (sb w os).abs, Code.body (behindTheImports p0) e0, (@Pos.mk 0 0 0 0)) := by
  refine segRun_of ?_
  rw [PySem.W.Fast.te10110043849684766642, PySem.W.Fast.te14364793385576792824, pe]
  kernel_rfl
theorem g0 (p : Program) (b : List Stmt) : ∀ w : World, (fun os => PySem.W.Fast.tw10110043849684766642 PySem.W.Fast.tw14364793385576792824 p w 11 (sr 6) 1 447 (sb w os) (piecesOf ((pq.main.body.drop 0).take 5) en (Code.body b en) (@Pos.mk 0 0 0 0) [topFrame (@Pos.mk 0 0 0 0)])) = (fun os => some (Flow.next, sc0_ w os, Code.body b en, (@Pos.mk 9 0 9 8))) := fun w => by kernel_rfl
theorem h0 (b : List Stmt) (w : World) (os : OsState) : segRun treeTable p0 w 11 (sr 6) 1 447 (sb w os).abs (piecesOf ((p0.main.body.drop 0).take 5) e0 (Code.body b e0) (@Pos.mk 0 0 0 0) [topFrame (@Pos.mk 0 0 0 0)]) = some (Flow.next, (sc0_ w os).abs, Code.body b e0, (@Pos.mk 9 0 9 8)) := by
  refine segRun_of ?_
  rw [PySem.W.Fast.te10110043849684766642, PySem.W.Fast.te14364793385576792824, pe]
  exact congrFun (g0 pq b w) os
theorem g1 (p : Program) (b : List Stmt) : ∀ w : World, (fun os => PySem.W.Fast.tw10110043849684766642 PySem.W.Fast.tw14364793385576792824 p w 11 (sr 6) 1 379 (sc0_ w os) (piecesOf ((pq.main.body.drop 5).take 1) en (Code.body b en) (@Pos.mk 9 0 9 8) [topFrame (@Pos.mk 0 0 0 0)])) = (fun os => some (Flow.next, sc1_ w os, Code.body b en, (@Pos.mk 10 0 28 16))) := fun w => by kernel_rfl
theorem h1 (b : List Stmt) (w : World) (os : OsState) : segRun treeTable p0 w 11 (sr 6) 1 379 (sc0_ w os).abs (piecesOf ((p0.main.body.drop 5).take 1) e0 (Code.body b e0) (@Pos.mk 9 0 9 8) [topFrame (@Pos.mk 0 0 0 0)]) = some (Flow.next, (sc1_ w os).abs, Code.body b e0, (@Pos.mk 10 0 28 16)) := by
  refine segRun_of ?_
  rw [PySem.W.Fast.te10110043849684766642, PySem.W.Fast.te14364793385576792824, pe]
  exact congrFun (g1 pq b w) os
theorem g2 (p : Program) (b : List Stmt) : ∀ w : World, (fun os => PySem.W.Fast.tw10110043849684766642 PySem.W.Fast.tw14364793385576792824 p w 11 (sr 6) 1 279 (sc1_ w os) (piecesOf ((pq.main.body.drop 6).take 1) en (Code.body b en) (@Pos.mk 10 0 28 16) [topFrame (@Pos.mk 0 0 0 0)])) = (fun os => some (Flow.next, sc2_ w os, Code.body b en, (@Pos.mk 29 0 36 16))) := fun w => by kernel_rfl
theorem h2 (b : List Stmt) (w : World) (os : OsState) : segRun treeTable p0 w 11 (sr 6) 1 279 (sc1_ w os).abs (piecesOf ((p0.main.body.drop 6).take 1) e0 (Code.body b e0) (@Pos.mk 10 0 28 16) [topFrame (@Pos.mk 0 0 0 0)]) = some (Flow.next, (sc2_ w os).abs, Code.body b e0, (@Pos.mk 29 0 36 16)) := by
  refine segRun_of ?_
  rw [PySem.W.Fast.te10110043849684766642, PySem.W.Fast.te14364793385576792824, pe]
  exact congrFun (g2 pq b w) os
theorem g3 (p : Program) (b : List Stmt) : ∀ w : World, (fun os => PySem.W.Fast.tw10110043849684766642 PySem.W.Fast.tw14364793385576792824 p w 11 (sr 6) 1 322 (sc2_ w os) (piecesOf ((pq.main.body.drop 7).take 1) en (Code.body b en) (@Pos.mk 29 0 36 16) [topFrame (@Pos.mk 0 0 0 0)])) = (fun os => some (Flow.next, sc3_ w os, Code.body b en, (@Pos.mk 37 0 46 16))) := fun w => by kernel_rfl
theorem h3 (b : List Stmt) (w : World) (os : OsState) : segRun treeTable p0 w 11 (sr 6) 1 322 (sc2_ w os).abs (piecesOf ((p0.main.body.drop 7).take 1) e0 (Code.body b e0) (@Pos.mk 29 0 36 16) [topFrame (@Pos.mk 0 0 0 0)]) = some (Flow.next, (sc3_ w os).abs, Code.body b e0, (@Pos.mk 37 0 46 16)) := by
  refine segRun_of ?_
  rw [PySem.W.Fast.te10110043849684766642, PySem.W.Fast.te14364793385576792824, pe]
  exact congrFun (g3 pq b w) os
theorem g4 (p : Program) (b : List Stmt) : ∀ w : World, (fun os => PySem.W.Fast.tw10110043849684766642 PySem.W.Fast.tw14364793385576792824 p w 11 (sr 6) 1 322 (sc3_ w os) (piecesOf ((pq.main.body.drop 8).take 1) en (Code.body b en) (@Pos.mk 37 0 46 16) [topFrame (@Pos.mk 0 0 0 0)])) = (fun os => some (Flow.next, sc4_ w os, Code.body b en, (@Pos.mk 47 0 56 16))) := fun w => by kernel_rfl
theorem h4 (b : List Stmt) (w : World) (os : OsState) : segRun treeTable p0 w 11 (sr 6) 1 322 (sc3_ w os).abs (piecesOf ((p0.main.body.drop 8).take 1) e0 (Code.body b e0) (@Pos.mk 37 0 46 16) [topFrame (@Pos.mk 0 0 0 0)]) = some (Flow.next, (sc4_ w os).abs, Code.body b e0, (@Pos.mk 47 0 56 16)) := by
  refine segRun_of ?_
  rw [PySem.W.Fast.te10110043849684766642, PySem.W.Fast.te14364793385576792824, pe]
  exact congrFun (g4 pq b w) os
theorem g5 (p : Program) (b : List Stmt) : ∀ w : World, (fun os => PySem.W.Fast.tw10110043849684766642 PySem.W.Fast.tw14364793385576792824 p w 11 (sr 6) 1 371 (sc4_ w os) (piecesOf ((pq.main.body.drop 9).take 1) en (Code.body b en) (@Pos.mk 47 0 56 16) [topFrame (@Pos.mk 0 0 0 0)])) = (fun os => some (Flow.next, sc5_ w os, Code.body b en, (@Pos.mk 57 0 74 17))) := fun w => by kernel_rfl
theorem h5 (b : List Stmt) (w : World) (os : OsState) : segRun treeTable p0 w 11 (sr 6) 1 371 (sc4_ w os).abs (piecesOf ((p0.main.body.drop 9).take 1) e0 (Code.body b e0) (@Pos.mk 47 0 56 16) [topFrame (@Pos.mk 0 0 0 0)]) = some (Flow.next, (sc5_ w os).abs, Code.body b e0, (@Pos.mk 57 0 74 17)) := by
  refine segRun_of ?_
  rw [PySem.W.Fast.te10110043849684766642, PySem.W.Fast.te14364793385576792824, pe]
  exact congrFun (g5 pq b w) os
theorem g6 (p : Program) (b : List Stmt) : ∀ w : World, (fun os => PySem.W.Fast.tw10110043849684766642 PySem.W.Fast.tw14364793385576792824 p w 11 (sr 6) 1 353 (sc5_ w os) (piecesOf ((pq.main.body.drop 10).take 1) en (Code.body b en) (@Pos.mk 57 0 74 17) [topFrame (@Pos.mk 0 0 0 0)])) = (fun os => some (Flow.next, sc6_ w os, Code.body b en, (@Pos.mk 75 0 87 17))) := fun w => by kernel_rfl
theorem h6 (b : List Stmt) (w : World) (os : OsState) : segRun treeTable p0 w 11 (sr 6) 1 353 (sc5_ w os).abs (piecesOf ((p0.main.body.drop 10).take 1) e0 (Code.body b e0) (@Pos.mk 57 0 74 17) [topFrame (@Pos.mk 0 0 0 0)]) = some (Flow.next, (sc6_ w os).abs, Code.body b e0, (@Pos.mk 75 0 87 17)) := by
  refine segRun_of ?_
  rw [PySem.W.Fast.te10110043849684766642, PySem.W.Fast.te14364793385576792824, pe]
  exact congrFun (g6 pq b w) os
theorem g7 (p : Program) (b : List Stmt) : ∀ w : World, (fun os => PySem.W.Fast.tw10110043849684766642 PySem.W.Fast.tw14364793385576792824 p w 11 (sr 6) 1 389 (sc6_ w os) (piecesOf ((pq.main.body.drop 11).take 1) en (Code.body b en) (@Pos.mk 75 0 87 17) [topFrame (@Pos.mk 0 0 0 0)])) = (fun os => some (Flow.next, sc7_ w os, Code.body b en, (@Pos.mk 88 0 104 17))) := fun w => by kernel_rfl
theorem h7 (b : List Stmt) (w : World) (os : OsState) : segRun treeTable p0 w 11 (sr 6) 1 389 (sc6_ w os).abs (piecesOf ((p0.main.body.drop 11).take 1) e0 (Code.body b e0) (@Pos.mk 75 0 87 17) [topFrame (@Pos.mk 0 0 0 0)]) = some (Flow.next, (sc7_ w os).abs, Code.body b e0, (@Pos.mk 88 0 104 17)) := by
  refine segRun_of ?_
  rw [PySem.W.Fast.te10110043849684766642, PySem.W.Fast.te14364793385576792824, pe]
  exact congrFun (g7 pq b w) os
theorem g8 (p : Program) (b : List Stmt) : ∀ w : World, (fun os => PySem.W.Fast.tw10110043849684766642 PySem.W.Fast.tw14364793385576792824 p w 11 (sr 6) 1 310 (sc7_ w os) (piecesOf ((pq.main.body.drop 12).take 1) en (Code.body b en) (@Pos.mk 88 0 104 17) [topFrame (@Pos.mk 0 0 0 0)])) = (fun os => some (Flow.next, sc8_ w os, Code.body b en, (@Pos.mk 105 0 114 17))) := fun w => by kernel_rfl
theorem h8 (b : List Stmt) (w : World) (os : OsState) : segRun treeTable p0 w 11 (sr 6) 1 310 (sc7_ w os).abs (piecesOf ((p0.main.body.drop 12).take 1) e0 (Code.body b e0) (@Pos.mk 88 0 104 17) [topFrame (@Pos.mk 0 0 0 0)]) = some (Flow.next, (sc8_ w os).abs, Code.body b e0, (@Pos.mk 105 0 114 17)) := by
  refine segRun_of ?_
  rw [PySem.W.Fast.te10110043849684766642, PySem.W.Fast.te14364793385576792824, pe]
  exact congrFun (g8 pq b w) os
theorem g9 (p : Program) (b : List Stmt) : ∀ w : World, (fun os => PySem.W.Fast.tw10110043849684766642 PySem.W.Fast.tw14364793385576792824 p w 11 (sr 6) 1 530 (sc8_ w os) (piecesOf ((pq.main.body.drop 13).take 9) en (Code.body b en) (@Pos.mk 105 0 114 17) [topFrame (@Pos.mk 0 0 0 0)])) = (fun os => some (Flow.next, sc9_ w os, Code.body b en, (@Pos.mk 164 0 165 109))) := fun w => by kernel_rfl
theorem h9 (b : List Stmt) (w : World) (os : OsState) : segRun treeTable p0 w 11 (sr 6) 1 530 (sc8_ w os).abs (piecesOf ((p0.main.body.drop 13).take 9) e0 (Code.body b e0) (@Pos.mk 105 0 114 17) [topFrame (@Pos.mk 0 0 0 0)]) = some (Flow.next, (sc9_ w os).abs, Code.body b e0, (@Pos.mk 164 0 165 109)) := by
  refine segRun_of ?_
  rw [PySem.W.Fast.te10110043849684766642, PySem.W.Fast.te14364793385576792824, pe]
  exact congrFun (g9 pq b w) os
theorem g10 (p : Program) (b : List Stmt) : ∀ w : World, (fun os => PySem.W.Fast.tw10110043849684766642 PySem.W.Fast.tw14364793385576792824 p w 11 (sr 6) 1 163 (sc9_ w os) (piecesOf ((pq.main.body.drop 22).take 5) en (Code.body b en) (@Pos.mk 164 0 165 109) [topFrame (@Pos.mk 0 0 0 0)])) = (fun os => some (Flow.next, sc10_ w os, Code.body b en, (@Pos.mk 205 0 232 76))) := fun w => by kernel_rfl
theorem h10 (b : List Stmt) (w : World) (os : OsState) : segRun treeTable p0 w 11 (sr 6) 1 163 (sc9_ w os).abs (piecesOf ((p0.main.body.drop 22).take 5) e0 (Code.body b e0) (@Pos.mk 164 0 165 109) [topFrame (@Pos.mk 0 0 0 0)]) = some (Flow.next, (sc10_ w os).abs, Code.body b e0, (@Pos.mk 205 0 232 76)) := by
  refine segRun_of ?_
  rw [PySem.W.Fast.te10110043849684766642, PySem.W.Fast.te14364793385576792824, pe]
  exact congrFun (g10 pq b w) os
noncomputable abbrev H1 : Params → Heap := fun P => absHeap (tz P) 475 (@Life.mk [] [] [] 0 [] [] false E [] 0 false false false 0 [2000, 10, 10] false 0 true [] [] 0 false)
theorem fin_l (b : List Stmt) (w : World) (os : OsState) : topRun treeTable p0 w 11 (sr 6) 2 (sc10_ w os).abs ⟨doneF .next, Code.body b e0, (@Pos.mk 205 0 232 76), [topFrame (@Pos.mk 0 0 0 0)]⟩ = some ⟨H1 w.params, Array.mk [], (@Drawn.mk 0 0 0 0), 764, os⟩ := by
  rw [PySem.W.Fast.te14082659384304107361, PySem.W.Fast.te14364793385576792824, pe]
  kernel_rfl
theorem run_l (w : World) (os : OsState) : topRun treeTable p0 w 11 (sr 6) (12 + (1 + (447 + (379 + (279 + (322 + (322 + (371 + (353 + (389 + (310 + (530 + (163 + 2))))))))))))) ⟨boot_heap w.params, Array.mk [], boot_drawn, boot_toks, os⟩ (topStub p0) = some ⟨H1 w.params, Array.mk [], (@Drawn.mk 0 0 0 0), 764, os⟩ := by
  refine go_top (pre_l w os) (piece_block (blk_l w os) ?k)
  rw [bs]
  exact piece_app (h0 _ w os) (piece_app (h1 _ w os) (piece_app (h2 _ w os) (piece_app (h3 _ w os) (piece_app (h4 _ w os) (piece_app (h5 _ w os) (piece_app (h6 _ w os) (piece_app (h7 _ w os) (piece_app (h8 _ w os) (piece_app (h9 _ w os) (piece_app (h10 _ w os) (piece_nil (fin_l _ w os))))))))))))
abbrev kF (a b : String) (s : Stmt) (m : String) (n v : Nat) : Params → Obj := fun P => (Obj.mk (@Value.type "function") none (Data.func (fk (@Str.ofString a) (@Str.ofString b) s 3 [] vn vn vn (@Value.str (@Str.ofString m) n) none (vr v) vn 0)) E)
abbrev k21:=kF "_wall" "_wall" (T 0) "__main__" 164 20
abbrev k60:=kF "house" "Step.house" (N 5 0) "pactroom.steps" 230 59
abbrev k67:=kF "lock" "Step.lock" (N 5 1) "pactroom.steps" 230 66
abbrev k74:=kF "step_done" "Step.step_done" (N 5 2) "pactroom.steps" 230 73
abbrev k81:=kF "back" "Step.back" (N 5 3) "pactroom.steps" 230 80
abbrev k88:=kF "sure" "Step.sure" (N 5 4) "pactroom.steps" 230 87
abbrev k95:=kF "spelled" "Step.spelled" (N 5 5) "pactroom.steps" 230 94
abbrev k116:=kF "__init__" "CellStep.__init__" (N 6 0) "pactroom.steps" 230 115
abbrev k123:=kF "house" "CellStep.house" (N 6 1) "pactroom.steps" 230 122
abbrev k142:=kF "lock" "TakeStep.lock" (N 7 0) "pactroom.steps" 230 141
abbrev k149:=kF "step_done" "TakeStep.step_done" (N 7 1) "pactroom.steps" 230 148
abbrev k156:=kF "spelled" "TakeStep.spelled" (N 7 2) "pactroom.steps" 230 155
abbrev k175:=kF "lock" "MeanStep.lock" (N 8 0) "pactroom.steps" 230 174
abbrev k182:=kF "step_done" "MeanStep.step_done" (N 8 1) "pactroom.steps" 230 181
abbrev k189:=kF "spelled" "MeanStep.spelled" (N 8 2) "pactroom.steps" 230 188
abbrev k208:=kF "__init__" "SumStep.__init__" (N 9 0) "pactroom.steps" 230 207
abbrev k215:=kF "house" "SumStep.house" (N 9 1) "pactroom.steps" 230 214
abbrev k222:=kF "lock" "SumStep.lock" (N 9 2) "pactroom.steps" 230 221
abbrev k227:=kF "step_done" "SumStep.step_done" (N 9 3) "pactroom.steps" 230 226
abbrev k234:=kF "spelled" "SumStep.spelled" (N 9 4) "pactroom.steps" 230 233
abbrev k253:=kF "lock" "GiveStep.lock" (N 10 0) "pactroom.steps" 230 252
abbrev k260:=kF "step_done" "GiveStep.step_done" (N 10 1) "pactroom.steps" 230 259
abbrev k267:=kF "sure" "GiveStep.sure" (N 10 2) "pactroom.steps" 230 266
abbrev k274:=kF "spelled" "GiveStep.spelled" (N 10 3) "pactroom.steps" 230 273
abbrev k293:=kF "__init__" "AddStep.__init__" (N 11 0) "pactroom.steps" 230 292
abbrev k300:=kF "lock" "AddStep.lock" (N 11 1) "pactroom.steps" 230 299
abbrev k307:=kF "step_done" "AddStep.step_done" (N 11 2) "pactroom.steps" 230 306
abbrev k314:=kF "back" "AddStep.back" (N 11 3) "pactroom.steps" 230 313
abbrev k321:=kF "spelled" "AddStep.spelled" (N 11 4) "pactroom.steps" 230 320
abbrev k340:=kF "__init__" "PlusStep.__init__" (N 12 0) "pactroom.steps" 230 339
abbrev k347:=kF "step_done" "PlusStep.step_done" (N 12 1) "pactroom.steps" 230 346
abbrev k354:=kF "spelled" "PlusStep.spelled" (N 12 2) "pactroom.steps" 230 353
abbrev k373:=kF "__init__" "NeedStep.__init__" (N 13 0) "pactroom.steps" 230 372
abbrev k380:=kF "step_done" "NeedStep.step_done" (N 13 1) "pactroom.steps" 230 379
abbrev k387:=kF "spelled" "NeedStep.spelled" (N 13 2) "pactroom.steps" 230 386
abbrev k399:=kF "_law_cell" "_law_cell" (T 15) "law_pactroom_k23_a_step_undone" 651 398
abbrev k406:=kF "_law_whole" "_law_whole" (T 16) "law_pactroom_k23_a_step_undone" 651 405
abbrev k413:=kF "_law_mixed" "_law_mixed" (T 17) "law_pactroom_k23_a_step_undone" 651 412
abbrev k420:=kF "_law_number" "_law_number" (T 18) "law_pactroom_k23_a_step_undone" 651 419
abbrev k427:=kF "_law_either" "_law_either" (T 19) "law_pactroom_k23_a_step_undone" 651 426
abbrev k434:=kF "_law_step" "_law_step" (T 20) "law_pactroom_k23_a_step_undone" 651 433
abbrev k446:=kF "_law_made" "_law_made" (T 22) "law_pactroom_k23_a_step_undone" 651 445
abbrev k453:=kF "_law_close" "_law_close" (T 23) "law_pactroom_k23_a_step_undone" 651 452
abbrev k460:=kF "_law_put" "_law_put" (T 24) "law_pactroom_k23_a_step_undone" 651 459
abbrev k467:=kF "_law_own" "_law_own" (T 25) "law_pactroom_k23_a_step_undone" 651 466
abbrev k474:=kF "law" "law" (T 26) "law_pactroom_k23_a_step_undone" 651 473
noncomputable def Kf : Params → Frag := fun P => (nat_lit 2, boot_o_2 P) :: (nat_lit 3, c10_3 P) :: (nat_lit 15, a11) :: (nat_lit 17, c0_17) :: (nat_lit 18, a11) :: (nat_lit 20, c0_20) :: (nat_lit 21, k21 P) :: (nat_lit 22, c0_22) :: (nat_lit 29, a11) :: (nat_lit 30, c0_30 P) :: (nat_lit 31, c0_31) :: (nat_lit 32, c0_32) :: (nat_lit 35, c0_35) :: (nat_lit 42, a11) :: (nat_lit 43, c0_43 P) :: (nat_lit 44, c0_44) :: (nat_lit 54, a11) :: (nat_lit 56, c1_56) :: (nat_lit 57, a11) :: (nat_lit 59, c1_59) :: (nat_lit 60, k60 P) :: (nat_lit 61, a11) :: (nat_lit 63, c1_63) :: (nat_lit 64, a11) :: (nat_lit 66, c1_66) :: (nat_lit 67, k67 P) :: (nat_lit 68, a11) :: (nat_lit 70, c1_70) :: (nat_lit 71, a11) :: (nat_lit 73, c1_73) :: (nat_lit 74, k74 P) :: (nat_lit 75, a11) :: (nat_lit 77, c1_77) :: (nat_lit 78, a11) :: (nat_lit 80, c1_80) :: (nat_lit 81, k81 P) :: (nat_lit 82, a11) :: (nat_lit 84, c1_84) :: (nat_lit 85, a11) :: (nat_lit 87, c1_87) :: (nat_lit 88, k88 P) :: (nat_lit 89, a11) :: (nat_lit 91, c1_91) :: (nat_lit 92, a11) :: (nat_lit 94, c1_94) :: (nat_lit 95, k95 P) :: (nat_lit 96, a11) :: (nat_lit 97, c1_97 P) :: (nat_lit 98, c9_98) :: (nat_lit 99, c1_99) :: (nat_lit 100, c1_100) :: (nat_lit 103, c2_103) :: (nat_lit 110, a11) :: (nat_lit 112, c2_112) :: (nat_lit 113, a11) :: (nat_lit 115, c2_115) :: (nat_lit 116, k116 P) :: (nat_lit 117, a11) :: (nat_lit 119, c2_119) :: (nat_lit 120, a11) :: (nat_lit 122, c2_122) :: (nat_lit 123, k123 P) :: (nat_lit 124, c2_124) :: (nat_lit 125, c2_125 P) :: (nat_lit 126, c7_126) :: (nat_lit 129, c3_129) :: (nat_lit 136, a11) :: (nat_lit 138, c3_138) :: (nat_lit 139, a11) :: (nat_lit 141, c3_141) :: (nat_lit 142, k142 P) :: (nat_lit 143, a11) :: (nat_lit 145, c3_145) :: (nat_lit 146, a11) :: (nat_lit 148, c3_148) :: (nat_lit 149, k149 P) :: (nat_lit 150, a11) :: (nat_lit 152, c3_152) :: (nat_lit 153, a11) :: (nat_lit 155, c3_155) :: (nat_lit 156, k156 P) :: (nat_lit 157, a11) :: (nat_lit 158, c3_158 P) :: (nat_lit 159, c3_159) :: (nat_lit 162, c3_129) :: (nat_lit 169, a11) :: (nat_lit 171, c4_171) :: (nat_lit 172, a11) :: (nat_lit 174, c4_174) :: (nat_lit 175, k175 P) :: (nat_lit 176, a11) :: (nat_lit 178, c4_178) :: (nat_lit 179, a11) :: (nat_lit 181, c4_181) :: (nat_lit 182, k182 P) :: (nat_lit 183, a11) :: (nat_lit 185, c4_185) :: (nat_lit 186, a11) :: (nat_lit 188, c4_188) :: (nat_lit 189, k189 P) :: (nat_lit 190, a11) :: (nat_lit 191, c4_191 P) :: (nat_lit 192, c4_192) :: (nat_lit 195, c2_103) :: (nat_lit 202, a11) :: (nat_lit 204, c5_204) :: (nat_lit 205, a11) :: (nat_lit 207, c5_207) :: (nat_lit 208, k208 P) :: (nat_lit 209, a11) :: (nat_lit 211, c5_211) :: (nat_lit 212, a11) :: (nat_lit 214, c5_214) :: (nat_lit 215, k215 P) :: (nat_lit 216, a11) :: (nat_lit 218, c5_218) :: (nat_lit 219, a11) :: (nat_lit 221, c5_221) :: (nat_lit 222, k222 P) :: (nat_lit 223, a11) :: (nat_lit 226, c5_226) :: (nat_lit 227, k227 P) :: (nat_lit 228, a11) :: (nat_lit 230, c5_230) :: (nat_lit 231, a11) :: (nat_lit 233, c5_233) :: (nat_lit 234, k234 P) :: (nat_lit 235, c5_235) :: (nat_lit 236, c5_236 P) :: (nat_lit 237, c5_237) :: (nat_lit 240, c3_129) :: (nat_lit 247, a11) :: (nat_lit 249, c6_249) :: (nat_lit 250, a11) :: (nat_lit 252, c6_252) :: (nat_lit 253, k253 P) :: (nat_lit 254, a11) :: (nat_lit 256, c6_256) :: (nat_lit 257, a11) :: (nat_lit 259, c6_259) :: (nat_lit 260, k260 P) :: (nat_lit 261, a11) :: (nat_lit 263, c6_263) :: (nat_lit 264, a11) :: (nat_lit 266, c6_266) :: (nat_lit 267, k267 P) :: (nat_lit 268, a11) :: (nat_lit 270, c6_270) :: (nat_lit 271, a11) :: (nat_lit 273, c6_273) :: (nat_lit 274, k274 P) :: (nat_lit 275, a11) :: (nat_lit 276, c6_276 P) :: (nat_lit 277, c6_277) :: (nat_lit 280, c3_129) :: (nat_lit 287, a11) :: (nat_lit 289, c7_289) :: (nat_lit 290, a11) :: (nat_lit 292, c7_292) :: (nat_lit 293, k293 P) :: (nat_lit 294, a11) :: (nat_lit 296, c7_296) :: (nat_lit 297, a11) :: (nat_lit 299, c7_299) :: (nat_lit 300, k300 P) :: (nat_lit 301, a11) :: (nat_lit 303, c7_303) :: (nat_lit 304, a11) :: (nat_lit 306, c7_306) :: (nat_lit 307, k307 P) :: (nat_lit 308, a11) :: (nat_lit 310, c7_310) :: (nat_lit 311, a11) :: (nat_lit 313, c7_313) :: (nat_lit 314, k314 P) :: (nat_lit 315, a11) :: (nat_lit 317, c7_317) :: (nat_lit 318, a11) :: (nat_lit 320, c7_320) :: (nat_lit 321, k321 P) :: (nat_lit 322, c7_322) :: (nat_lit 323, c7_323 P) :: (nat_lit 324, c7_324) :: (nat_lit 327, c2_103) :: (nat_lit 334, a11) :: (nat_lit 336, c8_336) :: (nat_lit 337, a11) :: (nat_lit 339, c8_339) :: (nat_lit 340, k340 P) :: (nat_lit 341, a11) :: (nat_lit 343, c8_343) :: (nat_lit 344, a11) :: (nat_lit 346, c8_346) :: (nat_lit 347, k347 P) :: (nat_lit 348, a11) :: (nat_lit 350, c8_350) :: (nat_lit 351, a11) :: (nat_lit 353, c8_353) :: (nat_lit 354, k354 P) :: (nat_lit 355, c8_355) :: (nat_lit 356, c8_356 P) :: (nat_lit 357, c8_357) :: (nat_lit 360, c2_103) :: (nat_lit 367, a11) :: (nat_lit 369, c9_369) :: (nat_lit 370, a11) :: (nat_lit 372, c9_372) :: (nat_lit 373, k373 P) :: (nat_lit 374, a11) :: (nat_lit 376, c9_376) :: (nat_lit 377, a11) :: (nat_lit 379, c9_379) :: (nat_lit 380, k380 P) :: (nat_lit 381, a11) :: (nat_lit 383, c9_383) :: (nat_lit 384, a11) :: (nat_lit 386, c9_386) :: (nat_lit 387, k387 P) :: (nat_lit 388, c9_388) :: (nat_lit 389, c9_389 P) :: (nat_lit 390, c9_390) :: (nat_lit 393, a11) :: (nat_lit 395, c9_395) :: (nat_lit 396, a11) :: (nat_lit 398, c9_398) :: (nat_lit 399, k399 P) :: (nat_lit 400, a11) :: (nat_lit 402, c9_402) :: (nat_lit 403, a11) :: (nat_lit 405, c9_405) :: (nat_lit 406, k406 P) :: (nat_lit 407, a11) :: (nat_lit 409, c9_409) :: (nat_lit 410, a11) :: (nat_lit 412, c9_412) :: (nat_lit 413, k413 P) :: (nat_lit 414, a11) :: (nat_lit 416, c9_416) :: (nat_lit 417, a11) :: (nat_lit 419, c9_419) :: (nat_lit 420, k420 P) :: (nat_lit 421, a11) :: (nat_lit 423, c9_423) :: (nat_lit 424, a11) :: (nat_lit 426, c9_426) :: (nat_lit 427, k427 P) :: (nat_lit 428, a11) :: (nat_lit 430, c9_430) :: (nat_lit 431, a11) :: (nat_lit 433, c9_433) :: (nat_lit 434, k434 P) :: (nat_lit 440, a11) :: (nat_lit 442, c10_442) :: (nat_lit 443, a11) :: (nat_lit 445, c10_445) :: (nat_lit 446, k446 P) :: (nat_lit 447, a11) :: (nat_lit 449, c10_449) :: (nat_lit 450, a11) :: (nat_lit 452, c10_452) :: (nat_lit 453, k453 P) :: (nat_lit 454, a11) :: (nat_lit 456, c10_456) :: (nat_lit 457, a11) :: (nat_lit 459, c10_459) :: (nat_lit 460, k460 P) :: (nat_lit 461, a11) :: (nat_lit 463, c10_463) :: (nat_lit 464, a11) :: (nat_lit 466, c10_466) :: (nat_lit 467, k467 P) :: (nat_lit 468, a11) :: (nat_lit 470, c10_470) :: (nat_lit 471, c10_471) :: (nat_lit 473, c10_473) :: (nat_lit 474, k474 P) :: []
noncomputable def Ka : List Addr := [2, 3, 15, 17, 18, 20, 21, 22, 29, 30, 31, 32, 35, 42, 43, 44, 54, 56, 57, 59, 60, 61, 63, 64, 66, 67, 68, 70, 71, 73, 74, 75, 77, 78, 80, 81, 82, 84, 85, 87, 88, 89, 91, 92, 94, 95, 96, 97, 98, 99, 100, 103, 110, 112, 113, 115, 116, 117, 119, 120, 122, 123, 124, 125, 126, 129, 136, 138, 139, 141, 142, 143, 145, 146, 148, 149, 150, 152, 153, 155, 156, 157, 158, 159, 162, 169, 171, 172, 174, 175, 176, 178, 179, 181, 182, 183, 185, 186, 188, 189, 190, 191, 192, 195, 202, 204, 205, 207, 208, 209, 211, 212, 214, 215, 216, 218, 219, 221, 222, 223, 226, 227, 228, 230, 231, 233, 234, 235, 236, 237, 240, 247, 249, 250, 252, 253, 254, 256, 257, 259, 260, 261, 263, 264, 266, 267, 268, 270, 271, 273, 274, 275, 276, 277, 280, 287, 289, 290, 292, 293, 294, 296, 297, 299, 300, 301, 303, 304, 306, 307, 308, 310, 311, 313, 314, 315, 317, 318, 320, 321, 322, 323, 324, 327, 334, 336, 337, 339, 340, 341, 343, 344, 346, 347, 348, 350, 351, 353, 354, 355, 356, 357, 360, 367, 369, 370, 372, 373, 374, 376, 377, 379, 380, 381, 383, 384, 386, 387, 388, 389, 390, 393, 395, 396, 398, 399, 400, 402, 403, 405, 406, 407, 409, 410, 412, 413, 414, 416, 417, 419, 420, 421, 423, 424, 426, 427, 428, 430, 431, 433, 434, 440, 442, 443, 445, 446, 447, 449, 450, 452, 453, 454, 456, 457, 459, 460, 461, 463, 464, 466, 467, 468, 470, 471, 473, 474]
theorem ke (P : Params) : Ka = (Kf P).map (·.1) := by kernel_rfl
noncomputable abbrev HK : Hook := kmHook Kf Ka ke [469]
noncomputable abbrev R : RowW := PySem.Challenge.rw_pactroom_k23_a_step_undone.row.toRowW
noncomputable abbrev lo : List Str := []
noncomputable abbrev lvv : List (Str × WData) := []
noncomputable def qv : Program := { p0 with main := { p0.main with body := [T 0, T 2, T 3, T 5, T 6, T 7, T 8, T 9, T 10, T 11, T 12, T 13, T 15, T 16, T 17, T 18, T 19, T 20, T 21, T 22, T 23, T 24, T 25, T 26] } }
noncomputable abbrev Xt : Shared → Bool := fun s => xlAt qv lvv s && recOk (RowW.records R) s
theorem size_l (w : World) : ((boot_heap w.params).isNs mainGlobals && (A [] : Array GenState).size == 0, (boot_heap w.params).objs.size, (boot_heap w.params).nsMap mainGlobals "__annotations__") = (true, 11, (sr 6)) := by kernel_rfl
theorem look1 (w : World) (os : OsState) : (staticsOk (importedModules p0.main.body) (boot_heap w.params) (H1 w.params) && namesBound p0 (H1 w.params) && gensDone ⟨H1 w.params, Array.mk [], (@Drawn.mk 0 0 0 0), 764, os⟩ && laidKept (boot_heap w.params) (H1 w.params)) = true := by kernel_rfl
theorem look2 (w : World) (os : OsState) : openSeen qv lo (importedModules p0.main.body) Xt true ⟨H1 w.params, Array.mk [], (@Drawn.mk 0 0 0 0), 764, os⟩ = openGood qv lo := by kernel_rfl
theorem look3 (w : World) (os : OsState) : Hook.obs HK ⟨H1 w.params, Array.mk [], (@Drawn.mk 0 0 0 0), 764, os⟩ = Hook.val HK w := by kernel_rfl
theorem left : LeftO p0 qv lo Xt (Hook.obs HK) (Hook.val HK) 7834 := LeftO.of_pieces (boot_open (by kernel_rfl) (by kernel_rfl) (fun s => by kernel_rfl)) size_l run_l (by decide) fun w => funext fun os => looks_pair (look1 w os) (looks_pair (look2 w os) (look3 w os))
end
end Q
end
set_option maxHeartbeats 4000000
namespace K23
open PySem L2 Lo St
def wmk (a b c d e f g : Addr) : Wd → Addr
  | .take => a
  | .mean => b
  | .sum => c
  | .give => d
  | .add => e
  | .plus => f
  | .need => g
def fdOf {K : PySem.W.Frag} {x qual : Str} {st : Stmt} {f : Addr} {fd : FuncData} (_ : Fun K x qual st f fd) : FuncData := fd
theorem all_mk {l : PySem.W.OpenLaw} {w : World} {K : PySem.W.Frag} {h : Heap} {mg : Str → Option Value} {fa WA fxiY fxdA fxbZ WB fxdB WD fxiD fxdD WE fxdE WF fxiF fxdF fxbF WG fxiG fxdG WN fxiN fxdN CY fA2 fW2 fX2 fN2 fE2 fS2 fM2 fC2 fP2 fO2 fZ cc Pt : Addr} (X : K.In h) (G : h.Ns mainGlobals mg) (hfa : mg "law" = some (.ref fa))
    {odxiY anxiY odxdA anxdA odxbZ anxbZ odxdB anxdB odxiD anxiD odxdD anxdD odxdE anxdE odxiF anxiF odxdF anxdF odxbF anxbF odxiG anxiG odxdG anxdG odxiN anxiN odxdN anxdN odA2 anA2 odW2 anW2 odX2 anX2 odN2 anN2 odE2 anE2 odS2 anS2 odM2 anM2 odC2 anC2 odP2 anP2 odO2 anO2 odZ anZ : Option Addr} {slxiY slxdA slxbZ slxdB slxiD slxdD slxdE slxiF slxdF slxbF slxiG slxdG slxiN slxdN slA2 slW2 slX2 slN2 slE2 slS2 slM2 slC2 slP2 slO2 slZ : Array (Option Value)} {ocxiY kVxiY dcxiY pmxiY cdxiY ctxiY ocxdA kVxdA dcxdA pmxdA cdxdA ctxdA ocxbZ kVxbZ dcxbZ pmxbZ cdxbZ ctxbZ ocxdB kVxdB dcxdB pmxdB cdxdB ctxdB ocxiD kVxiD dcxiD pmxiD cdxiD ctxiD ocxdD kVxdD dcxdD pmxdD cdxdD ctxdD ocxdE kVxdE dcxdE pmxdE cdxdE ctxdE ocxiF kVxiF dcxiF pmxiF cdxiF ctxiF ocxdF kVxdF dcxdF pmxdF cdxdF ctxdF ocxbF kVxbF dcxbF pmxbF cdxbF ctxbF ocxiG kVxiG dcxiG pmxiG cdxiG ctxiG ocxdG kVxdG dcxdG pmxdG cdxdG ctxdG ocxiN kVxiN dcxiN pmxiN cdxiN ctxiN ocxdN kVxdN dcxdN pmxdN cdxdN ctxdN ocA2 kVA2 dcA2 pmA2 cdA2 ctA2 ocW2 kVW2 dcW2 pmW2 cdW2 ctW2 ocX2 kVX2 dcX2 pmX2 cdX2 ctX2 ocN2 kVN2 dcN2 pmN2 cdN2 ctN2 ocE2 kVE2 dcE2 pmE2 cdE2 ctE2 ocS2 kVS2 dcS2 pmS2 cdS2 ctS2 ocM2 kVM2 dcM2 pmM2 cdM2 ctM2 ocC2 kVC2 dcC2 pmC2 cdC2 ctC2 ocP2 kVP2 dcP2 pmP2 cdP2 ctP2 ocO2 kVO2 dcO2 pmO2 cdO2 ctO2 ocZ kVZ dcZ pmZ cdZ ctZ : Value} {odC : Option Addr} {slC : Array (Option Value)} {vsC : Array Value}
    (nwA : PySem.W.nsIn K mainGlobals "TakeStep" = some (some (.ref WA)))
    (pgwA : PySem.W.plainGet K WA Str.empty = true)
    (hdwA : PySem.W.hasDictIn K WA = true)
    (powA : PySem.W.plainOver K WA = true)
    (sawA : PySem.W.findIn K (.ref WA) "__setattr__" = some (some (.builtin "object.__setattr__")))
    (mkwA : PySem.W.makesIn K WA = true)
    (kcwA : PySem.W.keepIn K (.ref WA) = true)
    (nWwA : PySem.W.findIn K (.ref WA) "where" = some none)
    (nCwA : PySem.W.findIn K (.ref WA) "cell" = some none)
    (nLwA : PySem.W.findIn K (.ref WA) "low" = some none)
    (nHwA : PySem.W.findIn K (.ref WA) "high" = some none)
    (nAwA : PySem.W.findIn K (.ref WA) "amount" = some none)
    (uxiYA : PySem.W.findIn K (.ref WA) "__init__" = some (some (.ref fxiY)))
    (jxiY : PySem.W.isFn K (.ref fxiY) = true)
    (lxiY : K.lookup fxiY = some ⟨ocxiY, odxiY, .func (PySem.W.fnOf "__init__" "CellStep.__init__" (defArgs m_CellStep_init) (defBody m_CellStep_init) (defScope m_CellStep_init) .none kVxiY dcxiY pmxiY anxiY cdxiY ctxiY), slxiY⟩)
    (cxiY : PySem.W.codeIn K cdxiY "CellStep.__init__" = true)
    (exiY : PySem.W.keepIn K (.ref fxiY) = true)
    (uxdAA : PySem.W.findIn K (.ref WA) "step_done" = some (some (.ref fxdA)))
    (jxdA : PySem.W.isFn K (.ref fxdA) = true)
    (lxdA : K.lookup fxdA = some ⟨ocxdA, odxdA, .func (PySem.W.fnOf "step_done" "TakeStep.step_done" (defArgs m_TakeStep_step_done) (defBody m_TakeStep_step_done) (defScope m_TakeStep_step_done) .none kVxdA dcxdA pmxdA anxdA cdxdA ctxdA), slxdA⟩)
    (cxdA : PySem.W.codeIn K cdxdA "TakeStep.step_done" = true)
    (exdA : PySem.W.keepIn K (.ref fxdA) = true)
    (uxbZA : PySem.W.findIn K (.ref WA) "back" = some (some (.ref fxbZ)))
    (jxbZ : PySem.W.isFn K (.ref fxbZ) = true)
    (lxbZ : K.lookup fxbZ = some ⟨ocxbZ, odxbZ, .func (PySem.W.fnOf "back" "Step.back" (defArgs m_Step_back) (defBody m_Step_back) (defScope m_Step_back) .none kVxbZ dcxbZ pmxbZ anxbZ cdxbZ ctxbZ), slxbZ⟩)
    (cxbZ : PySem.W.codeIn K cdxbZ "Step.back" = true)
    (exbZ : PySem.W.keepIn K (.ref fxbZ) = true)
    (nwB : PySem.W.nsIn K mainGlobals "MeanStep" = some (some (.ref WB)))
    (pgwB : PySem.W.plainGet K WB Str.empty = true)
    (hdwB : PySem.W.hasDictIn K WB = true)
    (powB : PySem.W.plainOver K WB = true)
    (sawB : PySem.W.findIn K (.ref WB) "__setattr__" = some (some (.builtin "object.__setattr__")))
    (mkwB : PySem.W.makesIn K WB = true)
    (kcwB : PySem.W.keepIn K (.ref WB) = true)
    (nWwB : PySem.W.findIn K (.ref WB) "where" = some none)
    (nCwB : PySem.W.findIn K (.ref WB) "cell" = some none)
    (nLwB : PySem.W.findIn K (.ref WB) "low" = some none)
    (nHwB : PySem.W.findIn K (.ref WB) "high" = some none)
    (nAwB : PySem.W.findIn K (.ref WB) "amount" = some none)
    (uxiYB : PySem.W.findIn K (.ref WB) "__init__" = some (some (.ref fxiY)))
    (uxdBB : PySem.W.findIn K (.ref WB) "step_done" = some (some (.ref fxdB)))
    (jxdB : PySem.W.isFn K (.ref fxdB) = true)
    (lxdB : K.lookup fxdB = some ⟨ocxdB, odxdB, .func (PySem.W.fnOf "step_done" "MeanStep.step_done" (defArgs m_MeanStep_step_done) (defBody m_MeanStep_step_done) (defScope m_MeanStep_step_done) .none kVxdB dcxdB pmxdB anxdB cdxdB ctxdB), slxdB⟩)
    (cxdB : PySem.W.codeIn K cdxdB "MeanStep.step_done" = true)
    (exdB : PySem.W.keepIn K (.ref fxdB) = true)
    (uxbZB : PySem.W.findIn K (.ref WB) "back" = some (some (.ref fxbZ)))
    (nwD : PySem.W.nsIn K mainGlobals "SumStep" = some (some (.ref WD)))
    (pgwD : PySem.W.plainGet K WD Str.empty = true)
    (hdwD : PySem.W.hasDictIn K WD = true)
    (powD : PySem.W.plainOver K WD = true)
    (sawD : PySem.W.findIn K (.ref WD) "__setattr__" = some (some (.builtin "object.__setattr__")))
    (mkwD : PySem.W.makesIn K WD = true)
    (kcwD : PySem.W.keepIn K (.ref WD) = true)
    (nWwD : PySem.W.findIn K (.ref WD) "where" = some none)
    (nCwD : PySem.W.findIn K (.ref WD) "cell" = some none)
    (nLwD : PySem.W.findIn K (.ref WD) "low" = some none)
    (nHwD : PySem.W.findIn K (.ref WD) "high" = some none)
    (nAwD : PySem.W.findIn K (.ref WD) "amount" = some none)
    (uxiDD : PySem.W.findIn K (.ref WD) "__init__" = some (some (.ref fxiD)))
    (jxiD : PySem.W.isFn K (.ref fxiD) = true)
    (lxiD : K.lookup fxiD = some ⟨ocxiD, odxiD, .func (PySem.W.fnOf "__init__" "SumStep.__init__" (defArgs m_SumStep_init) (defBody m_SumStep_init) (defScope m_SumStep_init) .none kVxiD dcxiD pmxiD anxiD cdxiD ctxiD), slxiD⟩)
    (cxiD : PySem.W.codeIn K cdxiD "SumStep.__init__" = true)
    (exiD : PySem.W.keepIn K (.ref fxiD) = true)
    (uxdDD : PySem.W.findIn K (.ref WD) "step_done" = some (some (.ref fxdD)))
    (jxdD : PySem.W.isFn K (.ref fxdD) = true)
    (lxdD : K.lookup fxdD = some ⟨ocxdD, odxdD, .func (PySem.W.fnOf "step_done" "SumStep.step_done" (defArgs m_SumStep_step_done) (defBody m_SumStep_step_done) (defScope m_SumStep_step_done) .none kVxdD dcxdD pmxdD anxdD cdxdD ctxdD), slxdD⟩)
    (cxdD : PySem.W.codeIn K cdxdD "SumStep.step_done" = true)
    (exdD : PySem.W.keepIn K (.ref fxdD) = true)
    (uxbZD : PySem.W.findIn K (.ref WD) "back" = some (some (.ref fxbZ)))
    (nwE : PySem.W.nsIn K mainGlobals "GiveStep" = some (some (.ref WE)))
    (pgwE : PySem.W.plainGet K WE Str.empty = true)
    (hdwE : PySem.W.hasDictIn K WE = true)
    (powE : PySem.W.plainOver K WE = true)
    (sawE : PySem.W.findIn K (.ref WE) "__setattr__" = some (some (.builtin "object.__setattr__")))
    (mkwE : PySem.W.makesIn K WE = true)
    (kcwE : PySem.W.keepIn K (.ref WE) = true)
    (nWwE : PySem.W.findIn K (.ref WE) "where" = some none)
    (nCwE : PySem.W.findIn K (.ref WE) "cell" = some none)
    (nLwE : PySem.W.findIn K (.ref WE) "low" = some none)
    (nHwE : PySem.W.findIn K (.ref WE) "high" = some none)
    (nAwE : PySem.W.findIn K (.ref WE) "amount" = some none)
    (uxiYE : PySem.W.findIn K (.ref WE) "__init__" = some (some (.ref fxiY)))
    (uxdEE : PySem.W.findIn K (.ref WE) "step_done" = some (some (.ref fxdE)))
    (jxdE : PySem.W.isFn K (.ref fxdE) = true)
    (lxdE : K.lookup fxdE = some ⟨ocxdE, odxdE, .func (PySem.W.fnOf "step_done" "GiveStep.step_done" (defArgs m_GiveStep_step_done) (defBody m_GiveStep_step_done) (defScope m_GiveStep_step_done) .none kVxdE dcxdE pmxdE anxdE cdxdE ctxdE), slxdE⟩)
    (cxdE : PySem.W.codeIn K cdxdE "GiveStep.step_done" = true)
    (exdE : PySem.W.keepIn K (.ref fxdE) = true)
    (uxbZE : PySem.W.findIn K (.ref WE) "back" = some (some (.ref fxbZ)))
    (nwF : PySem.W.nsIn K mainGlobals "AddStep" = some (some (.ref WF)))
    (pgwF : PySem.W.plainGet K WF Str.empty = true)
    (hdwF : PySem.W.hasDictIn K WF = true)
    (powF : PySem.W.plainOver K WF = true)
    (sawF : PySem.W.findIn K (.ref WF) "__setattr__" = some (some (.builtin "object.__setattr__")))
    (mkwF : PySem.W.makesIn K WF = true)
    (kcwF : PySem.W.keepIn K (.ref WF) = true)
    (nWwF : PySem.W.findIn K (.ref WF) "where" = some none)
    (nCwF : PySem.W.findIn K (.ref WF) "cell" = some none)
    (nLwF : PySem.W.findIn K (.ref WF) "low" = some none)
    (nHwF : PySem.W.findIn K (.ref WF) "high" = some none)
    (nAwF : PySem.W.findIn K (.ref WF) "amount" = some none)
    (uxiFF : PySem.W.findIn K (.ref WF) "__init__" = some (some (.ref fxiF)))
    (jxiF : PySem.W.isFn K (.ref fxiF) = true)
    (lxiF : K.lookup fxiF = some ⟨ocxiF, odxiF, .func (PySem.W.fnOf "__init__" "AddStep.__init__" (defArgs m_AddStep_init) (defBody m_AddStep_init) (defScope m_AddStep_init) .none kVxiF dcxiF pmxiF anxiF cdxiF ctxiF), slxiF⟩)
    (cxiF : PySem.W.codeIn K cdxiF "AddStep.__init__" = true)
    (exiF : PySem.W.keepIn K (.ref fxiF) = true)
    (uxdFF : PySem.W.findIn K (.ref WF) "step_done" = some (some (.ref fxdF)))
    (jxdF : PySem.W.isFn K (.ref fxdF) = true)
    (lxdF : K.lookup fxdF = some ⟨ocxdF, odxdF, .func (PySem.W.fnOf "step_done" "AddStep.step_done" (defArgs m_AddStep_step_done) (defBody m_AddStep_step_done) (defScope m_AddStep_step_done) .none kVxdF dcxdF pmxdF anxdF cdxdF ctxdF), slxdF⟩)
    (cxdF : PySem.W.codeIn K cdxdF "AddStep.step_done" = true)
    (exdF : PySem.W.keepIn K (.ref fxdF) = true)
    (uxbFF : PySem.W.findIn K (.ref WF) "back" = some (some (.ref fxbF)))
    (jxbF : PySem.W.isFn K (.ref fxbF) = true)
    (lxbF : K.lookup fxbF = some ⟨ocxbF, odxbF, .func (PySem.W.fnOf "back" "AddStep.back" (defArgs m_AddStep_back) (defBody m_AddStep_back) (defScope m_AddStep_back) .none kVxbF dcxbF pmxbF anxbF cdxbF ctxbF), slxbF⟩)
    (cxbF : PySem.W.codeIn K cdxbF "AddStep.back" = true)
    (exbF : PySem.W.keepIn K (.ref fxbF) = true)
    (nwG : PySem.W.nsIn K mainGlobals "PlusStep" = some (some (.ref WG)))
    (pgwG : PySem.W.plainGet K WG Str.empty = true)
    (hdwG : PySem.W.hasDictIn K WG = true)
    (powG : PySem.W.plainOver K WG = true)
    (sawG : PySem.W.findIn K (.ref WG) "__setattr__" = some (some (.builtin "object.__setattr__")))
    (mkwG : PySem.W.makesIn K WG = true)
    (kcwG : PySem.W.keepIn K (.ref WG) = true)
    (nWwG : PySem.W.findIn K (.ref WG) "where" = some none)
    (nCwG : PySem.W.findIn K (.ref WG) "cell" = some none)
    (nLwG : PySem.W.findIn K (.ref WG) "low" = some none)
    (nHwG : PySem.W.findIn K (.ref WG) "high" = some none)
    (nAwG : PySem.W.findIn K (.ref WG) "amount" = some none)
    (uxiGG : PySem.W.findIn K (.ref WG) "__init__" = some (some (.ref fxiG)))
    (jxiG : PySem.W.isFn K (.ref fxiG) = true)
    (lxiG : K.lookup fxiG = some ⟨ocxiG, odxiG, .func (PySem.W.fnOf "__init__" "PlusStep.__init__" (defArgs m_PlusStep_init) (defBody m_PlusStep_init) (defScope m_PlusStep_init) .none kVxiG dcxiG pmxiG anxiG cdxiG ctxiG), slxiG⟩)
    (cxiG : PySem.W.codeIn K cdxiG "PlusStep.__init__" = true)
    (exiG : PySem.W.keepIn K (.ref fxiG) = true)
    (uxdGG : PySem.W.findIn K (.ref WG) "step_done" = some (some (.ref fxdG)))
    (jxdG : PySem.W.isFn K (.ref fxdG) = true)
    (lxdG : K.lookup fxdG = some ⟨ocxdG, odxdG, .func (PySem.W.fnOf "step_done" "PlusStep.step_done" (defArgs m_PlusStep_step_done) (defBody m_PlusStep_step_done) (defScope m_PlusStep_step_done) .none kVxdG dcxdG pmxdG anxdG cdxdG ctxdG), slxdG⟩)
    (cxdG : PySem.W.codeIn K cdxdG "PlusStep.step_done" = true)
    (exdG : PySem.W.keepIn K (.ref fxdG) = true)
    (uxbZG : PySem.W.findIn K (.ref WG) "back" = some (some (.ref fxbZ)))
    (nwN : PySem.W.nsIn K mainGlobals "NeedStep" = some (some (.ref WN)))
    (pgwN : PySem.W.plainGet K WN Str.empty = true)
    (hdwN : PySem.W.hasDictIn K WN = true)
    (powN : PySem.W.plainOver K WN = true)
    (sawN : PySem.W.findIn K (.ref WN) "__setattr__" = some (some (.builtin "object.__setattr__")))
    (mkwN : PySem.W.makesIn K WN = true)
    (kcwN : PySem.W.keepIn K (.ref WN) = true)
    (nWwN : PySem.W.findIn K (.ref WN) "where" = some none)
    (nCwN : PySem.W.findIn K (.ref WN) "cell" = some none)
    (nLwN : PySem.W.findIn K (.ref WN) "low" = some none)
    (nHwN : PySem.W.findIn K (.ref WN) "high" = some none)
    (nAwN : PySem.W.findIn K (.ref WN) "amount" = some none)
    (uxiNN : PySem.W.findIn K (.ref WN) "__init__" = some (some (.ref fxiN)))
    (jxiN : PySem.W.isFn K (.ref fxiN) = true)
    (lxiN : K.lookup fxiN = some ⟨ocxiN, odxiN, .func (PySem.W.fnOf "__init__" "NeedStep.__init__" (defArgs m_NeedStep_init) (defBody m_NeedStep_init) (defScope m_NeedStep_init) .none kVxiN dcxiN pmxiN anxiN cdxiN ctxiN), slxiN⟩)
    (cxiN : PySem.W.codeIn K cdxiN "NeedStep.__init__" = true)
    (exiN : PySem.W.keepIn K (.ref fxiN) = true)
    (uxdNN : PySem.W.findIn K (.ref WN) "step_done" = some (some (.ref fxdN)))
    (jxdN : PySem.W.isFn K (.ref fxdN) = true)
    (lxdN : K.lookup fxdN = some ⟨ocxdN, odxdN, .func (PySem.W.fnOf "step_done" "NeedStep.step_done" (defArgs m_NeedStep_step_done) (defBody m_NeedStep_step_done) (defScope m_NeedStep_step_done) .none kVxdN dcxdN pmxdN anxdN cdxdN ctxdN), slxdN⟩)
    (cxdN : PySem.W.codeIn K cdxdN "NeedStep.step_done" = true)
    (exdN : PySem.W.keepIn K (.ref fxdN) = true)
    (uxbZN : PySem.W.findIn K (.ref WN) "back" = some (some (.ref fxbZ)))
    (nCY : PySem.W.nsIn K mainGlobals "CellStep" = some (some (.ref CY)))
    (gaY : PySem.W.specialIn K (.ref CY) "__getattribute__" = some (some (.builtin "type.__getattribute__")))
    (rdY : PySem.W.readsIn K CY (.type "type") = true)
    (fcY : PySem.W.findCls K (.ref CY) (.type "type") "__init__" = some (.val (.ref fxiY)))
    (hiY : PySem.W.handedIn (.ref fxiY) = true)
    (aA2 : PySem.W.nsIn K mainGlobals "_law_cell" = some (some (.ref fA2)))
    (lA2 : K.lookup fA2 = some ⟨ocA2, odA2, .func (PySem.W.fnOf "_law_cell" "_law_cell" (defArgs s__law_cell) (defBody s__law_cell) (defScope s__law_cell) .none kVA2 dcA2 pmA2 anA2 cdA2 ctA2), slA2⟩)
    (cA2 : PySem.W.codeIn K cdA2 "_law_cell" = true)
    (eA2 : PySem.W.keepIn K (.ref fA2) = true)
    (aW2 : PySem.W.nsIn K mainGlobals "_law_whole" = some (some (.ref fW2)))
    (lW2 : K.lookup fW2 = some ⟨ocW2, odW2, .func (PySem.W.fnOf "_law_whole" "_law_whole" (defArgs s__law_whole) (defBody s__law_whole) (defScope s__law_whole) .none kVW2 dcW2 pmW2 anW2 cdW2 ctW2), slW2⟩)
    (cW2 : PySem.W.codeIn K cdW2 "_law_whole" = true)
    (eW2 : PySem.W.keepIn K (.ref fW2) = true)
    (aX2 : PySem.W.nsIn K mainGlobals "_law_mixed" = some (some (.ref fX2)))
    (lX2 : K.lookup fX2 = some ⟨ocX2, odX2, .func (PySem.W.fnOf "_law_mixed" "_law_mixed" (defArgs s__law_mixed) (defBody s__law_mixed) (defScope s__law_mixed) .none kVX2 dcX2 pmX2 anX2 cdX2 ctX2), slX2⟩)
    (cX2 : PySem.W.codeIn K cdX2 "_law_mixed" = true)
    (eX2 : PySem.W.keepIn K (.ref fX2) = true)
    (aN2 : PySem.W.nsIn K mainGlobals "_law_number" = some (some (.ref fN2)))
    (lN2 : K.lookup fN2 = some ⟨ocN2, odN2, .func (PySem.W.fnOf "_law_number" "_law_number" (defArgs s__law_number) (defBody s__law_number) (defScope s__law_number) .none kVN2 dcN2 pmN2 anN2 cdN2 ctN2), slN2⟩)
    (cN2 : PySem.W.codeIn K cdN2 "_law_number" = true)
    (eN2 : PySem.W.keepIn K (.ref fN2) = true)
    (aE2 : PySem.W.nsIn K mainGlobals "_law_either" = some (some (.ref fE2)))
    (lE2 : K.lookup fE2 = some ⟨ocE2, odE2, .func (PySem.W.fnOf "_law_either" "_law_either" (defArgs s__law_either) (defBody s__law_either) (defScope s__law_either) .none kVE2 dcE2 pmE2 anE2 cdE2 ctE2), slE2⟩)
    (cE2 : PySem.W.codeIn K cdE2 "_law_either" = true)
    (eE2 : PySem.W.keepIn K (.ref fE2) = true)
    (aS2 : PySem.W.nsIn K mainGlobals "_law_step" = some (some (.ref fS2)))
    (lS2 : K.lookup fS2 = some ⟨ocS2, odS2, .func (PySem.W.fnOf "_law_step" "_law_step" (defArgs s__law_step) (defBody s__law_step) (defScope s__law_step) .none kVS2 dcS2 pmS2 anS2 cdS2 ctS2), slS2⟩)
    (cS2 : PySem.W.codeIn K cdS2 "_law_step" = true)
    (eS2 : PySem.W.keepIn K (.ref fS2) = true)
    (aM2 : PySem.W.nsIn K mainGlobals "_law_made" = some (some (.ref fM2)))
    (lM2 : K.lookup fM2 = some ⟨ocM2, odM2, .func (PySem.W.fnOf "_law_made" "_law_made" (defArgs s__law_made) (defBody s__law_made) (defScope s__law_made) .none kVM2 dcM2 pmM2 anM2 cdM2 ctM2), slM2⟩)
    (cM2 : PySem.W.codeIn K cdM2 "_law_made" = true)
    (eM2 : PySem.W.keepIn K (.ref fM2) = true)
    (aC2 : PySem.W.nsIn K mainGlobals "_law_close" = some (some (.ref fC2)))
    (lC2 : K.lookup fC2 = some ⟨ocC2, odC2, .func (PySem.W.fnOf "_law_close" "_law_close" (defArgs s__law_close) (defBody s__law_close) (defScope s__law_close) .none kVC2 dcC2 pmC2 anC2 cdC2 ctC2), slC2⟩)
    (cC2 : PySem.W.codeIn K cdC2 "_law_close" = true)
    (eC2 : PySem.W.keepIn K (.ref fC2) = true)
    (aP2 : PySem.W.nsIn K mainGlobals "_law_put" = some (some (.ref fP2)))
    (lP2 : K.lookup fP2 = some ⟨ocP2, odP2, .func (PySem.W.fnOf "_law_put" "_law_put" (defArgs s__law_put) (defBody s__law_put) (defScope s__law_put) .none kVP2 dcP2 pmP2 anP2 cdP2 ctP2), slP2⟩)
    (cP2 : PySem.W.codeIn K cdP2 "_law_put" = true)
    (eP2 : PySem.W.keepIn K (.ref fP2) = true)
    (aO2 : PySem.W.nsIn K mainGlobals "_law_own" = some (some (.ref fO2)))
    (lO2 : K.lookup fO2 = some ⟨ocO2, odO2, .func (PySem.W.fnOf "_law_own" "_law_own" (defArgs s__law_own) (defBody s__law_own) (defScope s__law_own) .none kVO2 dcO2 pmO2 anO2 cdO2 ctO2), slO2⟩)
    (cO2 : PySem.W.codeIn K cdO2 "_law_own" = true)
    (eO2 : PySem.W.keepIn K (.ref fO2) = true)
    (aZ : PySem.W.nsIn K mainGlobals "law" = some (some (.ref fZ)))
    (lZ : K.lookup fZ = some ⟨ocZ, odZ, .func (PySem.W.fnOf "law" "law" (defArgs s_law) (defBody s_law) (defScope s_law) .none kVZ dcZ pmZ anZ cdZ ctZ), slZ⟩)
    (cZ : PySem.W.codeIn K cdZ "law" = true)
    (eZ : PySem.W.keepIn K (.ref fZ) = true)
    (y_isinstance : PySem.W.nsIn K mainGlobals "isinstance" = some none)
    (y_int : PySem.W.nsIn K mainGlobals "int" = some none)
    (y_bool : PySem.W.nsIn K mainGlobals "bool" = some none)
    (y_str : PySem.W.nsIn K mainGlobals "str" = some none)
    (y_len : PySem.W.nsIn K mainGlobals "len" = some none)
    (y_range : PySem.W.nsIn K mainGlobals "range" = some none)
    (y_tuple : PySem.W.nsIn K mainGlobals "tuple" = some none)
    (y_list : PySem.W.nsIn K mainGlobals "list" = some none)
    (y_any : PySem.W.nsIn K mainGlobals "any" = some none)
    (y_all : PySem.W.nsIn K mainGlobals "all" = some none)
    (y_max : PySem.W.nsIn K mainGlobals "max" = some none)
    (y_sorted : PySem.W.nsIn K mainGlobals "sorted" = some none)
    (y_min : PySem.W.nsIn K mainGlobals "min" = some none)
    (y_sum : PySem.W.nsIn K mainGlobals "sum" = some none)
    (y_abs : PySem.W.nsIn K mainGlobals "abs" = some none)
    (y_reversed : PySem.W.nsIn K mainGlobals "reversed" = some none)
    (hcc : cdZ = .ref cc)
    (lC : K.lookup cc = some ⟨.type "code", odC, .fields vsC, slC⟩)
    (hPt : vsC[11]? = some (.ref Pt))
    (hC : PySem.W.codeHdIn K cc Pt = true)
    (hT : h.get? Pt = some (PySem.W.tabObj #[]))
    (hN : PySem.W.noTabs K = true) :
    ∃ (fd : FuncData) (cc Pt : Addr), (∀ (s : Shared) (v : Value), BindsTo s fd ⟨[v], []⟩ [("_law_script", v)]) ∧ PySem.W.codeHdIn K cc Pt = true ∧ h.get? Pt = some (PySem.W.tabObj #[]) ∧ PySem.W.noTabs K = true ∧ ∀ base : Heap, K.In base → BB mg base → FnOk l.prog w K mg base CX0 6 fa fd ["_law_script"] (spLaw23 K Pt) := by
  have e := hfa.symm.trans (PySem.W.mg_of X G aZ)
  cases e
  have FxiY := fun_mk (st := m_CellStep_init) lxiY cxiY exiY
  have bxiY := FxiY.binds (ps := ["self", "where", "cell"]) fun _ _ _ _ _ _ us hl => match us, hl with | [_, _, _], _ => rfl
  have FxdA := fun_mk (st := m_TakeStep_step_done) lxdA cxdA exdA
  have bxdA := FxdA.binds (ps := ["self", "hand", "value_of"]) fun _ _ _ _ _ _ us hl => match us, hl with | [_, _, _], _ => rfl
  have FxbZ := fun_mk (st := m_Step_back) lxbZ cxbZ exbZ
  have bxbZ := FxbZ.binds (ps := ["self", "value_of"]) fun _ _ _ _ _ _ us hl => match us, hl with | [_, _], _ => rfl
  have FxdB := fun_mk (st := m_MeanStep_step_done) lxdB cxdB exdB
  have bxdB := FxdB.binds (ps := ["self", "hand", "value_of"]) fun _ _ _ _ _ _ us hl => match us, hl with | [_, _, _], _ => rfl
  have FxiD := fun_mk (st := m_SumStep_init) lxiD cxiD exiD
  have bxiD := FxiD.binds (ps := ["self", "where", "low", "high"]) fun _ _ _ _ _ _ us hl => match us, hl with | [_, _, _, _], _ => rfl
  have FxdD := fun_mk (st := m_SumStep_step_done) lxdD cxdD exdD
  have bxdD := FxdD.binds (ps := ["self", "hand", "value_of"]) fun _ _ _ _ _ _ us hl => match us, hl with | [_, _, _], _ => rfl
  have FxdE := fun_mk (st := m_GiveStep_step_done) lxdE cxdE exdE
  have bxdE := FxdE.binds (ps := ["self", "hand", "value_of"]) fun _ _ _ _ _ _ us hl => match us, hl with | [_, _, _], _ => rfl
  have FxiF := fun_mk (st := m_AddStep_init) lxiF cxiF exiF
  have bxiF := FxiF.binds (ps := ["self", "where", "cell", "amount"]) fun _ _ _ _ _ _ us hl => match us, hl with | [_, _, _, _], _ => rfl
  have FxdF := fun_mk (st := m_AddStep_step_done) lxdF cxdF exdF
  have bxdF := FxdF.binds (ps := ["self", "hand", "value_of"]) fun _ _ _ _ _ _ us hl => match us, hl with | [_, _, _], _ => rfl
  have FxbF := fun_mk (st := m_AddStep_back) lxbF cxbF exbF
  have bxbF := FxbF.binds (ps := ["self", "value_of"]) fun _ _ _ _ _ _ us hl => match us, hl with | [_, _], _ => rfl
  have FxiG := fun_mk (st := m_PlusStep_init) lxiG cxiG exiG
  have bxiG := FxiG.binds (ps := ["self", "amount"]) fun _ _ _ _ _ _ us hl => match us, hl with | [_, _], _ => rfl
  have FxdG := fun_mk (st := m_PlusStep_step_done) lxdG cxdG exdG
  have bxdG := FxdG.binds (ps := ["self", "hand", "value_of"]) fun _ _ _ _ _ _ us hl => match us, hl with | [_, _, _], _ => rfl
  have FxiN := fun_mk (st := m_NeedStep_init) lxiN cxiN exiN
  have bxiN := FxiN.binds (ps := ["self", "amount"]) fun _ _ _ _ _ _ us hl => match us, hl with | [_, _], _ => rfl
  have FxdN := fun_mk (st := m_NeedStep_step_done) lxdN cxdN exdN
  have bxdN := FxdN.binds (ps := ["self", "hand", "value_of"]) fun _ _ _ _ _ _ us hl => match us, hl with | [_, _, _], _ => rfl
  have W : TxW K (wmk WA WB WD WE WF WG WN) := ⟨fun k => match k with | .take => ⟨pgwA, hdwA, powA, sawA⟩ | .mean => ⟨pgwB, hdwB, powB, sawB⟩ | .sum => ⟨pgwD, hdwD, powD, sawD⟩ | .give => ⟨pgwE, hdwE, powE, sawE⟩ | .add => ⟨pgwF, hdwF, powF, sawF⟩ | .plus => ⟨pgwG, hdwG, powG, sawG⟩ | .need => ⟨pgwN, hdwN, powN, sawN⟩, fun k => match k with | .take => nWwA | .mean => nWwB | .sum => nWwD | .give => nWwE | .add => nWwF | .plus => nWwG | .need => nWwN, fun k => match k with | .take => nCwA | .mean => nCwB | .sum => nCwD | .give => nCwE | .add => nCwF | .plus => nCwG | .need => nCwN, fun k => match k with | .take => nLwA | .mean => nLwB | .sum => nLwD | .give => nLwE | .add => nLwF | .plus => nLwG | .need => nLwN, fun k => match k with | .take => nHwA | .mean => nHwB | .sum => nHwD | .give => nHwE | .add => nHwF | .plus => nHwG | .need => nHwN, fun k => match k with | .take => nAwA | .mean => nAwB | .sum => nAwD | .give => nAwE | .add => nAwF | .plus => nAwG | .need => nAwN⟩
  have FA2 := fun_mk (st := s__law_cell) lA2 cA2 eA2
  have bA2 := FA2.binds (ps := ["_law_script", "_law_k"]) fun _ _ _ _ _ _ us hl => match us, hl with | [_, _], _ => rfl
  have mA2 : mg "_law_cell" = some (.ref fA2) := PySem.W.mg_of X G aA2
  have FW2 := fun_mk (st := s__law_whole) lW2 cW2 eW2
  have bW2 := FW2.binds (ps := ["_law_found"]) fun _ _ _ _ _ _ us hl => match us, hl with | [_], _ => rfl
  have mW2 : mg "_law_whole" = some (.ref fW2) := PySem.W.mg_of X G aW2
  have FX2 := fun_mk (st := s__law_mixed) lX2 cX2 eX2
  have bX2 := FX2.binds (ps := ["_law_cell_here", "_law_k"]) fun _ _ _ _ _ _ us hl => match us, hl with | [_, _], _ => rfl
  have mX2 : mg "_law_mixed" = some (.ref fX2) := PySem.W.mg_of X G aX2
  have FN2 := fun_mk (st := s__law_number) lN2 cN2 eN2
  have bN2 := FN2.binds (ps := ["_law_cell_here", "_law_k"]) fun _ _ _ _ _ _ us hl => match us, hl with | [_, _], _ => rfl
  have mN2 : mg "_law_number" = some (.ref fN2) := PySem.W.mg_of X G aN2
  have FE2 := fun_mk (st := s__law_either) lE2 cE2 eE2
  have bE2 := FE2.binds (ps := ["_law_cell_here", "_law_k"]) fun _ _ _ _ _ _ us hl => match us, hl with | [_, _], _ => rfl
  have mE2 : mg "_law_either" = some (.ref fE2) := PySem.W.mg_of X G aE2
  have FS2 := fun_mk (st := s__law_step) lS2 cS2 eS2
  have bS2 := FS2.binds (ps := ["_law_cell_here"]) fun _ _ _ _ _ _ us hl => match us, hl with | [_], _ => rfl
  have mS2 : mg "_law_step" = some (.ref fS2) := PySem.W.mg_of X G aS2
  have FM2 := fun_mk (st := s__law_made) lM2 cM2 eM2
  have bM2 := FM2.binds (ps := ["_law_step_here"]) fun _ _ _ _ _ _ us hl => match us, hl with | [_], _ => rfl
  have mM2 : mg "_law_made" = some (.ref fM2) := PySem.W.mg_of X G aM2
  have FC2 := fun_mk (st := s__law_close) lC2 cC2 eC2
  have bC2 := FC2.binds (ps := ["_law_step_here", "_law_cell_here", "_law_hand"]) fun _ _ _ _ _ _ us hl => match us, hl with | [_, _, _], _ => rfl
  have mC2 : mg "_law_close" = some (.ref fC2) := PySem.W.mg_of X G aC2
  have FP2 := fun_mk (st := s__law_put) lP2 cP2 eP2
  have bP2 := FP2.binds (ps := ["_law_values", "_law_changes", "_law_own_here"]) fun _ _ _ _ _ _ us hl => match us, hl with | [_, _, _], _ => rfl
  have mP2 : mg "_law_put" = some (.ref fP2) := PySem.W.mg_of X G aP2
  have FO2 := fun_mk (st := s__law_own) lO2 cO2 eO2
  have bO2 := FO2.binds (ps := ["_law_step_here"]) fun _ _ _ _ _ _ us hl => match us, hl with | [_], _ => rfl
  have mO2 : mg "_law_own" = some (.ref fO2) := PySem.W.mg_of X G aO2
  have FZ := fun_mk (st := s_law) lZ cZ eZ
  have B : TxB mg := ⟨PySem.W.mg_none_of X G y_isinstance, PySem.W.mg_none_of X G y_int, PySem.W.mg_none_of X G y_bool, PySem.W.mg_none_of X G y_str, PySem.W.mg_none_of X G y_len, PySem.W.mg_none_of X G y_range, PySem.W.mg_none_of X G y_tuple, PySem.W.mg_none_of X G y_list, PySem.W.mg_none_of X G y_any, PySem.W.mg_none_of X G y_all, PySem.W.mg_none_of X G y_max, PySem.W.mg_none_of X G y_sorted⟩
  refine ⟨PySem.W.fnOf "law" "law" (defArgs s_law) (defBody s_law) (defScope s_law) .none kVZ dcZ pmZ anZ cdZ ctZ, cc, Pt, fun s v => .of_eq rfl, hC, hT, hN, fun base _ hB => ?_⟩
  have GCI := ok_cinit (P := l.prog) (w := w) (mg := mg) (base := base) FxiY W
  have WI : ∀ wd, WI l.prog w K mg base (wmk WA WB WD WE WF WG WN) wd := fun wd => match wd with | .take => ⟨fxiY, _, _, ⟨mkwA, uxiYA, jxiY, kcwA⟩, (GCI.imp fun _ _ _ _ z => cinit_w rfl z).mono (by decide), bxiY, PySem.W.mg_of X G nwA⟩ | .mean => ⟨fxiY, _, _, ⟨mkwB, uxiYB, jxiY, kcwB⟩, (GCI.imp fun _ _ _ _ z => cinit_w rfl z).mono (by decide), bxiY, PySem.W.mg_of X G nwB⟩ | .sum => ⟨fxiD, _, _, ⟨mkwD, uxiDD, jxiD, kcwD⟩, (ok_sinit FxiD W).mono (by decide), bxiD, PySem.W.mg_of X G nwD⟩ | .give => ⟨fxiY, _, _, ⟨mkwE, uxiYE, jxiY, kcwE⟩, (GCI.imp fun _ _ _ _ z => cinit_w rfl z).mono (by decide), bxiY, PySem.W.mg_of X G nwE⟩ | .add => ⟨fxiF, _, _, ⟨mkwF, uxiFF, jxiF, kcwF⟩, ok_ainit FxiF W (PySem.W.mg_of X G nCY) ⟨gaY, rdY, fcY, hiY, exiY⟩ GCI bxiY, bxiF, PySem.W.mg_of X G nwF⟩ | .plus => ⟨fxiG, _, _, ⟨mkwG, uxiGG, jxiG, kcwG⟩, (ok_pinit FxiG W).mono (by decide), bxiG, PySem.W.mg_of X G nwG⟩ | .need => ⟨fxiN, _, _, ⟨mkwN, uxiNN, jxiN, kcwN⟩, (ok_ninit FxiN W).mono (by decide), bxiN, PySem.W.mg_of X G nwN⟩ 
  have GEB : ∀ Bh : Heap, K.In Bh → GF l.prog w K mg Bh CX0 3 "_law_either" ["_law_cell_here", "_law_k"] spEiX := fun Bh _ => ⟨fE2, _, ok_either FE2 ⟨fX2, _, ok_mixed FX2, bX2, eX2, mX2⟩ ⟨fN2, _, ok_number FN2 B ⟨fX2, _, ok_mixed FX2, bX2, eX2, mX2⟩, bN2, eN2, mN2⟩, bE2, eE2, mE2⟩
  have GA2 : GF l.prog w K mg base CX0 1 "_law_cell" ["_law_script", "_law_k"] (spCell K) := ⟨fA2, _, ok_lcell FA2 B, bA2, eA2, mA2⟩
  have GW2 : GF l.prog w K mg base CX0 1 "_law_whole" ["_law_found"] Lo.spWhole := ⟨fW2, _, ok_whole FW2 B, bW2, eW2, mW2⟩
  have GX2 : GF l.prog w K mg base CX0 1 "_law_mixed" ["_law_cell_here", "_law_k"] spMixX := ⟨fX2, _, ok_mixed FX2, bX2, eX2, mX2⟩
  have GN2 : GF l.prog w K mg base CX0 2 "_law_number" ["_law_cell_here", "_law_k"] spNumX := ⟨fN2, _, ok_number FN2 B GX2, bN2, eN2, mN2⟩
  have GE2 : GF l.prog w K mg base CX0 3 "_law_either" ["_law_cell_here", "_law_k"] spEiX := ⟨fE2, _, ok_either FE2 GX2 GN2, bE2, eE2, mE2⟩
  have GS2 : GF l.prog w K mg base CX0 4 "_law_step" ["_law_cell_here"] spLStep := ⟨fS2, _, ok_lstep FS2 B (PySem.W.mg_none_of X G y_min) (gf_imp GN2 fun _ _ _ _ h => num_w h) (gf_imp GE2 fun _ _ _ _ h => ei_w h), bS2, eS2, mS2⟩
  have GM2 : GF l.prog w K mg base CX0 5 "_law_made" ["_law_step_here"] (spLMade (wmk WA WB WD WE WF WG WN)) := ⟨fM2, _, ok_lmade FM2 WI, bM2, eM2, mM2⟩
  have GC2 : GF l.prog w K mg base CX0 2 "_law_close" ["_law_step_here", "_law_cell_here", "_law_hand"] spClose := ⟨fC2, _, ok_close FC2 B (PySem.W.mg_none_of X G y_abs) GX2, bC2, eC2, mC2⟩
  have GP2 : GF l.prog w K mg base CX0 2 "_law_put" ["_law_values", "_law_changes", "_law_own_here"] spPut := ⟨fP2, _, ok_put FP2 B GW2, bP2, eP2, mP2⟩
  have GO2 : GF l.prog w K mg base CX0 1 "_law_own" ["_law_step_here"] spOwn := ⟨fO2, _, ok_own FO2, bO2, eO2, mO2⟩
  have HS : ∀ (wd : Wd) (Bh : Heap) (fv : Addr) (val : Int → Int) (la : Addr) (kvs : List (Key × V)), K.In Bh → CloV l.prog w K mg Bh fv (spDV val la kvs) → FnOk l.prog w K mg Bh CX0 5 (wmk fxdA fxdB fxdD fxdE fxdF fxdG fxdN wd) (match wd with | .take => fdOf FxdA | .mean => fdOf FxdB | .sum => fdOf FxdD | .give => fdOf FxdE | .add => fdOf FxdF | .plus => fdOf FxdG | .need => fdOf FxdN) ["self", "hand", "value_of"] (spDone (wmk WA WB WD WE WF WG WN) val la fv kvs wd) := fun wd Bh fv val la kvs _ cv => match wd with | .take => ok_dtake FxdA W cv | .mean => ok_dmean FxdB W cv | .sum => ok_dsum FxdD W B (PySem.W.mg_none_of X G y_sum) cv | .give => (ok_dgive FxdE W).mono (by decide) | .add => ok_dadd FxdF W cv | .plus => (ok_dplus FxdG W).mono (by decide) | .need => (ok_dneed FxdN W).mono (by decide)
  have HK : ∀ (wd : Wd) (Bh : Heap) (fv : Addr) (val : Int → Int) (la : Addr) (kvs : List (Key × V)), K.In Bh → CloV l.prog w K mg Bh fv (spDV val la kvs) → FnOk l.prog w K mg Bh CX0 5 (wmk fxbZ fxbZ fxbZ fxbZ fxbF fxbZ fxbZ wd) (match wd with | .take => fdOf FxbZ | .mean => fdOf FxbZ | .sum => fdOf FxbZ | .give => fdOf FxbZ | .add => fdOf FxbF | .plus => fdOf FxbZ | .need => fdOf FxbZ) ["self", "value_of"] (spBack (wmk WA WB WD WE WF WG WN) val la fv kvs wd) := fun wd Bh fv val la kvs _ cv => match wd with | .take => (ok_bnone (by decide) FxbZ).mono (by decide) | .mean => (ok_bnone (by decide) FxbZ).mono (by decide) | .sum => (ok_bnone (by decide) FxbZ).mono (by decide) | .give => (ok_bnone (by decide) FxbZ).mono (by decide) | .add => ok_badd FxbF W cv | .plus => (ok_bnone (by decide) FxbZ).mono (by decide) | .need => (ok_bnone (by decide) FxbZ).mono (by decide)
  refine ok_law (fS := wmk fxdA fxdB fxdD fxdE fxdF fxdG fxdN) (dS := fun wd => match wd with | .take => fdOf FxdA | .mean => fdOf FxdB | .sum => fdOf FxdD | .give => fdOf FxdE | .add => fdOf FxdF | .plus => fdOf FxdG | .need => fdOf FxdN) (fB := wmk fxbZ fxbZ fxbZ fxbZ fxbF fxbZ fxbZ) (dB := fun wd => match wd with | .take => fdOf FxbZ | .mean => fdOf FxbZ | .sum => fdOf FxbZ | .give => fdOf FxbZ | .add => fdOf FxbF | .plus => fdOf FxbZ | .need => fdOf FxbZ) FZ B W hB hcc hC (PySem.W.mg_none_of X G y_reversed) GA2 GE2 GS2 GC2 GM2 GP2 GO2 (WI .give) GEB HS (fun wd => match wd with | .take => ⟨uxdAA, jxdA, exdA⟩ | .mean => ⟨uxdBB, jxdB, exdB⟩ | .sum => ⟨uxdDD, jxdD, exdD⟩ | .give => ⟨uxdEE, jxdE, exdE⟩ | .add => ⟨uxdFF, jxdF, exdF⟩ | .plus => ⟨uxdGG, jxdG, exdG⟩ | .need => ⟨uxdNN, jxdN, exdN⟩) (fun wd => match wd with | .take => bxdA | .mean => bxdB | .sum => bxdD | .give => bxdE | .add => bxdF | .plus => bxdG | .need => bxdN) HK (fun wd => match wd with | .take => ⟨uxbZA, jxbZ, exbZ⟩ | .mean => ⟨uxbZB, jxbZ, exbZ⟩ | .sum => ⟨uxbZD, jxbZ, exbZ⟩ | .give => ⟨uxbZE, jxbZ, exbZ⟩ | .add => ⟨uxbFF, jxbF, exbF⟩ | .plus => ⟨uxbZG, jxbZ, exbZ⟩ | .need => ⟨uxbZN, jxbZ, exbZ⟩) (fun wd => match wd with | .take => bxbZ | .mean => bxbZ | .sum => bxbZ | .give => bxbZ | .add => bxbF | .plus => bxbZ | .need => bxbZ)
theorem walk {l : PySem.W.OpenLaw} {q : Program} {loose : List Str} {XP : (Str → Option Value) → Heap → Prop} {YP : World → Heap → Prop} {d : DefRec} {K : Params → PySem.W.Frag} (hn : l.most = some 63) (hdf : d.params.defaults = [])
    (hY : ∀ (w : World) (h : Heap), YP w h → (K w.params).In h)
    (F : ∀ (w : World) (mg : Str → Option Value) (fa : Addr) (h : Heap), YP w h → (K w.params).In h → h.Ns mainGlobals mg → mg d.name = some (.ref fa) →
      ∃ (fd : FuncData) (cc Pt : Addr), (∀ (s : Shared) (u : Value), BindsTo s fd ⟨[u], []⟩ [("_law_script", u)]) ∧ PySem.W.codeHdIn (K w.params) cc Pt = true ∧ h.get? Pt = some (PySem.W.tabObj #[]) ∧ PySem.W.noTabs (K w.params) = true ∧
        ∀ base : Heap, (K w.params).In base → BB mg base → FnOk l.prog w (K w.params) mg base CX0 6 fa fd ["_law_script"] (spLaw23 (K w.params) Pt)) :
    PySem.W.WalkO q loose XP YP l.row.toRowW d [] (fun f vs => PySem.call f vs) :=
  L2.walk_ofT (n := 63) (k := 6) (x := "_law_script") (sp := fun w Pt => spLaw23 (K w.params) Pt) hn (by decide) hdf ⟨rfl, by decide, by decide⟩ hY F fun w Pt H a ns hl hS hP => ⟨a, ns, rfl, hS, hl, hP, fun _ => rfl⟩
end K23
open PySem PySem.W PyProof.Rows
set_option maxRecDepth 100000 in
set_option maxHeartbeats 0 in
theorem PySem.Challenge.cw_pactroom_k23_a_step_undone_holds : PySem.Challenge.rw_pactroom_k23_a_step_undone.Holds := by
  w_on; o_law
  refine holds_open (q := Q.qv) (loose := Q.lo) (Xt := Q.Xt) (XP := XL Q.qv Q.lvv) (Yf := Hook.obs (kmHook Q.Kf Q.Ka Q.ke [469])) (Ya := Hook.val (kmHook Q.Kf Q.Ka Q.ke [469])) (YP := Hook.says (kmHook Q.Kf Q.Ka Q.ke [469])) (N := 7834) Q.left (Hook.of (kmHook Q.Kf Q.Ka Q.ke [469])) (Hook.keeps (kmHook Q.Kf Q.Ka Q.ke [469])) (fun s e => xl_of s (Bool.and_eq_true_iff.mp e).1) XL.keeps (by rfl) (by rfl) (by rfl) (fun s e => recFacts_of (Bool.and_eq_true_iff.mp e).2) (by rfl) (by first | assumption | decide +kernel) (by decide +kernel) ⟨rfl, rfl, rfl, rfl, rfl, by decide +kernel⟩ ?hw ?hc
  (case hw => w_witness2)
  k_fill
  refine K23.walk (l := PySem.Challenge.rw_pactroom_k23_a_step_undone) rfl rfl (fun w h Y => PySem.W.km_in_of Y) ?F
  case F =>
    intro w mg fa h Y KX G hmg
    refine' K23.all_mk KX G hmg ?nwA ?pgwA ?hdwA ?powA ?sawA ?mkwA ?kcwA ?nWwA ?nCwA ?nLwA ?nHwA ?nAwA ?uxiYA ?jxiY ?lxiY ?cxiY ?exiY ?uxdAA ?jxdA ?lxdA ?cxdA ?exdA ?uxbZA ?jxbZ ?lxbZ ?cxbZ ?exbZ ?nwB ?pgwB ?hdwB ?powB ?sawB ?mkwB ?kcwB ?nWwB ?nCwB ?nLwB ?nHwB ?nAwB ?uxiYB ?uxdBB ?jxdB ?lxdB ?cxdB ?exdB ?uxbZB ?nwD ?pgwD ?hdwD ?powD ?sawD ?mkwD ?kcwD ?nWwD ?nCwD ?nLwD ?nHwD ?nAwD ?uxiDD ?jxiD ?lxiD ?cxiD ?exiD ?uxdDD ?jxdD ?lxdD ?cxdD ?exdD ?uxbZD ?nwE ?pgwE ?hdwE ?powE ?sawE ?mkwE ?kcwE ?nWwE ?nCwE ?nLwE ?nHwE ?nAwE ?uxiYE ?uxdEE ?jxdE ?lxdE ?cxdE ?exdE ?uxbZE ?nwF ?pgwF ?hdwF ?powF ?sawF ?mkwF ?kcwF ?nWwF ?nCwF ?nLwF ?nHwF ?nAwF ?uxiFF ?jxiF ?lxiF ?cxiF ?exiF ?uxdFF ?jxdF ?lxdF ?cxdF ?exdF ?uxbFF ?jxbF ?lxbF ?cxbF ?exbF ?nwG ?pgwG ?hdwG ?powG ?sawG ?mkwG ?kcwG ?nWwG ?nCwG ?nLwG ?nHwG ?nAwG ?uxiGG ?jxiG ?lxiG ?cxiG ?exiG ?uxdGG ?jxdG ?lxdG ?cxdG ?exdG ?uxbZG ?nwN ?pgwN ?hdwN ?powN ?sawN ?mkwN ?kcwN ?nWwN ?nCwN ?nLwN ?nHwN ?nAwN ?uxiNN ?jxiN ?lxiN ?cxiN ?exiN ?uxdNN ?jxdN ?lxdN ?cxdN ?exdN ?uxbZN ?nCY ?gaY ?rdY ?fcY ?hiY ?aA2 ?lA2 ?cA2 ?eA2 ?aW2 ?lW2 ?cW2 ?eW2 ?aX2 ?lX2 ?cX2 ?eX2 ?aN2 ?lN2 ?cN2 ?eN2 ?aE2 ?lE2 ?cE2 ?eE2 ?aS2 ?lS2 ?cS2 ?eS2 ?aM2 ?lM2 ?cM2 ?eM2 ?aC2 ?lC2 ?cC2 ?eC2 ?aP2 ?lP2 ?cP2 ?eP2 ?aO2 ?lO2 ?cO2 ?eO2 ?aZ ?lZ ?cZ ?eZ ?y_isinstance ?y_int ?y_bool ?y_str ?y_len ?y_range ?y_tuple ?y_list ?y_any ?y_all ?y_max ?y_sorted ?y_min ?y_sum ?y_abs ?y_reversed ?hcc ?lC ?hPt ?hC ?hT ?hN
    (case nwA => k_is)
    (case pgwA => k_is)
    (case hdwA => k_is)
    (case powA => k_is)
    (case sawA => k_is)
    (case mkwA => k_is)
    (case kcwA => k_is)
    (case nWwA => k_is)
    (case nCwA => k_is)
    (case nLwA => k_is)
    (case nHwA => k_is)
    (case nAwA => k_is)
    (case uxiYA => k_is)
    (case jxiY => k_is)
    (case lxiY => k_is)
    (case cxiY => k_is)
    (case exiY => k_is)
    (case uxdAA => k_is)
    (case jxdA => k_is)
    (case lxdA => k_is)
    (case cxdA => k_is)
    (case exdA => k_is)
    (case uxbZA => k_is)
    (case jxbZ => k_is)
    (case lxbZ => k_is)
    (case cxbZ => k_is)
    (case exbZ => k_is)
    (case nwB => k_is)
    (case pgwB => k_is)
    (case hdwB => k_is)
    (case powB => k_is)
    (case sawB => k_is)
    (case mkwB => k_is)
    (case kcwB => k_is)
    (case nWwB => k_is)
    (case nCwB => k_is)
    (case nLwB => k_is)
    (case nHwB => k_is)
    (case nAwB => k_is)
    (case uxiYB => k_is)
    (case uxdBB => k_is)
    (case jxdB => k_is)
    (case lxdB => k_is)
    (case cxdB => k_is)
    (case exdB => k_is)
    (case uxbZB => k_is)
    (case nwD => k_is)
    (case pgwD => k_is)
    (case hdwD => k_is)
    (case powD => k_is)
    (case sawD => k_is)
    (case mkwD => k_is)
    (case kcwD => k_is)
    (case nWwD => k_is)
    (case nCwD => k_is)
    (case nLwD => k_is)
    (case nHwD => k_is)
    (case nAwD => k_is)
    (case uxiDD => k_is)
    (case jxiD => k_is)
    (case lxiD => k_is)
    (case cxiD => k_is)
    (case exiD => k_is)
    (case uxdDD => k_is)
    (case jxdD => k_is)
    (case lxdD => k_is)
    (case cxdD => k_is)
    (case exdD => k_is)
    (case uxbZD => k_is)
    (case nwE => k_is)
    (case pgwE => k_is)
    (case hdwE => k_is)
    (case powE => k_is)
    (case sawE => k_is)
    (case mkwE => k_is)
    (case kcwE => k_is)
    (case nWwE => k_is)
    (case nCwE => k_is)
    (case nLwE => k_is)
    (case nHwE => k_is)
    (case nAwE => k_is)
    (case uxiYE => k_is)
    (case uxdEE => k_is)
    (case jxdE => k_is)
    (case lxdE => k_is)
    (case cxdE => k_is)
    (case exdE => k_is)
    (case uxbZE => k_is)
    (case nwF => k_is)
    (case pgwF => k_is)
    (case hdwF => k_is)
    (case powF => k_is)
    (case sawF => k_is)
    (case mkwF => k_is)
    (case kcwF => k_is)
    (case nWwF => k_is)
    (case nCwF => k_is)
    (case nLwF => k_is)
    (case nHwF => k_is)
    (case nAwF => k_is)
    (case uxiFF => k_is)
    (case jxiF => k_is)
    (case lxiF => k_is)
    (case cxiF => k_is)
    (case exiF => k_is)
    (case uxdFF => k_is)
    (case jxdF => k_is)
    (case lxdF => k_is)
    (case cxdF => k_is)
    (case exdF => k_is)
    (case uxbFF => k_is)
    (case jxbF => k_is)
    (case lxbF => k_is)
    (case cxbF => k_is)
    (case exbF => k_is)
    (case nwG => k_is)
    (case pgwG => k_is)
    (case hdwG => k_is)
    (case powG => k_is)
    (case sawG => k_is)
    (case mkwG => k_is)
    (case kcwG => k_is)
    (case nWwG => k_is)
    (case nCwG => k_is)
    (case nLwG => k_is)
    (case nHwG => k_is)
    (case nAwG => k_is)
    (case uxiGG => k_is)
    (case jxiG => k_is)
    (case lxiG => k_is)
    (case cxiG => k_is)
    (case exiG => k_is)
    (case uxdGG => k_is)
    (case jxdG => k_is)
    (case lxdG => k_is)
    (case cxdG => k_is)
    (case exdG => k_is)
    (case uxbZG => k_is)
    (case nwN => k_is)
    (case pgwN => k_is)
    (case hdwN => k_is)
    (case powN => k_is)
    (case sawN => k_is)
    (case mkwN => k_is)
    (case kcwN => k_is)
    (case nWwN => k_is)
    (case nCwN => k_is)
    (case nLwN => k_is)
    (case nHwN => k_is)
    (case nAwN => k_is)
    (case uxiNN => k_is)
    (case jxiN => k_is)
    (case lxiN => k_is)
    (case cxiN => k_is)
    (case exiN => k_is)
    (case uxdNN => k_is)
    (case jxdN => k_is)
    (case lxdN => k_is)
    (case cxdN => k_is)
    (case exdN => k_is)
    (case uxbZN => k_is)
    (case nCY => k_is)
    (case gaY => k_is)
    (case rdY => k_is)
    (case fcY => k_is)
    (case hiY => rfl)
    (case aA2 => k_is)
    (case lA2 => k_is)
    (case cA2 => k_is)
    (case eA2 => k_is)
    (case aW2 => k_is)
    (case lW2 => k_is)
    (case cW2 => k_is)
    (case eW2 => k_is)
    (case aX2 => k_is)
    (case lX2 => k_is)
    (case cX2 => k_is)
    (case eX2 => k_is)
    (case aN2 => k_is)
    (case lN2 => k_is)
    (case cN2 => k_is)
    (case eN2 => k_is)
    (case aE2 => k_is)
    (case lE2 => k_is)
    (case cE2 => k_is)
    (case eE2 => k_is)
    (case aS2 => k_is)
    (case lS2 => k_is)
    (case cS2 => k_is)
    (case eS2 => k_is)
    (case aM2 => k_is)
    (case lM2 => k_is)
    (case cM2 => k_is)
    (case eM2 => k_is)
    (case aC2 => k_is)
    (case lC2 => k_is)
    (case cC2 => k_is)
    (case eC2 => k_is)
    (case aP2 => k_is)
    (case lP2 => k_is)
    (case cP2 => k_is)
    (case eP2 => k_is)
    (case aO2 => k_is)
    (case lO2 => k_is)
    (case cO2 => k_is)
    (case eO2 => k_is)
    (case aZ => k_is)
    (case lZ => k_is)
    (case cZ => k_is)
    (case eZ => k_is)
    (case y_isinstance => k_is)
    (case y_int => k_is)
    (case y_bool => k_is)
    (case y_str => k_is)
    (case y_len => k_is)
    (case y_range => k_is)
    (case y_tuple => k_is)
    (case y_list => k_is)
    (case y_any => k_is)
    (case y_all => k_is)
    (case y_max => k_is)
    (case y_sorted => k_is)
    (case y_min => k_is)
    (case y_sum => k_is)
    (case y_abs => k_is)
    (case y_reversed => k_is)
    (case hcc => exact rfl)
    (case lC => k_is)
    (case hPt => exact rfl)
    (case hC => kernel_rfl)
    (case hT => exact PySem.W.km_tabs_of Y _ (by k_mem))
    (case hN => kernel_rfl)
#print axioms PySem.Challenge.cw_pactroom_k23_a_step_undone_holds
