import PyProof.Rows.All
import Wide.All
import OpenK.AllK
import Wide.FinOn
import Lean
import PyProof.EqAt
import PyProof.EqKinds
import PyProof.TupleCall
import PySem.Challenge.RW_pactroom_k26_looked_at
set_option Elab.async false
set_option linter.all false
set_option maxRecDepth 100000
namespace L2
open PySem PySem.Spec PyProof.Rows
abbrev Key := Sum Int Str
def keyIs : Key → Value → Bool
  | .inl k, v => Value.isInt k v
  | .inr x, v => Value.isStrOf x v
def keyH (w : World) : Key → Int
  | .inl k => hashInt k
  | .inr x => hashStr w x
theorem keyIs_shape : ∀ {k : Key} {v : Value}, keyIs k v = true → (∃ i t, k = Sum.inl i ∧ v = Value.int i t) ∨ (∃ x t, k = Sum.inr x ∧ v = Value.str x t)
  | .inl i, v, h => by
    obtain ⟨t, e⟩ := Value.isInt_shape (k := i) (v := v) h
    exact .inl ⟨i, t, rfl, e⟩
  | .inr x, v, h => by
    obtain ⟨t, e⟩ := Value.isStrOf_shape (x := x) (v := v) h
    exact .inr ⟨x, t, rfl, e⟩
theorem key_ll (a b : Int) : decide ((Sum.inl a : Key) = Sum.inl b) = (a == b) := by
  by_cases e : a = b
  · subst e; simp
  · have h : ¬ (Sum.inl a : Key) = Sum.inl b := fun q => e (Sum.inl.inj q)
    rw [decide_eq_false h]
    exact (beq_eq_false_iff_ne.mpr e).symm
theorem key_rr (a b : Str) : decide ((Sum.inr a : Key) = Sum.inr b) = decide (a = b) := by
  by_cases e : a = b
  · subst e; simp
  · have h : ¬ (Sum.inr a : Key) = Sum.inr b := fun q => e (Sum.inr.inj q)
    rw [decide_eq_false h, decide_eq_false e]
theorem key_lr (a : Int) (b : Str) : decide ((Sum.inl a : Key) = Sum.inr b) = false := decide_eq_false (fun q => nomatch q)
theorem key_rl (a : Str) (b : Int) : decide ((Sum.inr a : Key) = Sum.inl b) = false := decide_eq_false (fun q => nomatch q)
def mixKind (prog : Program) (w : World) : PySem.KeyKind prog w Key where
  is := keyIs
  hash := keyH w
  inj := fun v a b ha hb => by
    rcases keyIs_shape ha with ⟨i, t, rfl, rfl⟩ | ⟨x, t, rfl, rfl⟩
    · rcases keyIs_shape hb with ⟨j, u, rfl, e⟩ | ⟨y, u, rfl, e⟩
      · injection e with e1 _; rw [e1]
      · exact nomatch e
    · rcases keyIs_shape hb with ⟨j, u, rfl, e⟩ | ⟨y, u, rfl, e⟩
      · exact nomatch e
      · injection e with e1 _; rw [e1]
  byValue := fun k v h => by
    rcases keyIs_shape h with ⟨i, t, rfl, rfl⟩ | ⟨x, t, rfl, rfl⟩ <;> rfl
  pyHash := fun hv h => by
    rcases keyIs_shape hv with ⟨i, t, rfl, rfl⟩ | ⟨x, t, rfl, rfl⟩
    · exact wpAny_pyHash_int h
    · exact wpAny_pyHash_str h
  eqBool := fun hu hv h => by
    rcases keyIs_shape hu with ⟨i, t, rfl, rfl⟩ | ⟨x, t, rfl, rfl⟩
    · rcases keyIs_shape hv with ⟨j, u, rfl, rfl⟩ | ⟨y, u, rfl, rfl⟩
      · rw [key_ll] at h; exact wpAny_eqBool_int h
      · rw [key_lr] at h; exact SeqAt.EqAt.int_str i t y u _ _ _ _ h
    · rcases keyIs_shape hv with ⟨j, u, rfl, rfl⟩ | ⟨y, u, rfl, rfl⟩
      · rw [key_rl] at h; exact SeqAt.EqAt.str_int x t j u _ _ _ _ h
      · rw [key_rr] at h; exact wpAny_eqBool_str h
  «strs» := fun k x t v h => by
    rcases keyIs_shape h with ⟨i, u, rfl, e⟩ | ⟨y, u, rfl, e⟩
    · exact nomatch e
    · injection e with e1 _
      subst e1
      cases v <;> rfl
end L2
namespace L2
open PySem PySem.Spec PyProof.Rows
inductive V where
  | non | bl (b : Bool) | int (i : Int) | str (x : Str) | byt (b : Array UInt8) | flt (b : UInt64) | ref (a : Addr) | ty (n : String)
  deriving DecidableEq
def RelV : V → Value → Prop
  | .non, u => u = Value.none
  | .bl b, u => u = Value.bool b
  | .int i, u => ∃ t, u = Value.int i t
  | .str x, u => ∃ t, u = Value.str x t
  | .byt b, u => ∃ t, u = Value.bytes b t
  | .flt b, u => ∃ t, u = Value.float b t
  | .ref a, u => u = Value.ref a
  | .ty n, u => u = Value.type n
abbrev Vals : List V → List Value → Prop := Paired RelV
theorem Vals.length {xs : List V} {us : List Value} (r : Vals xs us) : xs.length = us.length := Paired.length r
theorem Vals.get : ∀ {xs : List V} {us : List Value} {i : Nat} {x : V}, Vals xs us → xs[i]? = some x → ∃ u, us[i]? = some u ∧ RelV x u
  | _, _, _, _, .nil, e => by simp at e
  | _, _, 0, _, .cons r _, e => by simp at e; subst e; exact ⟨_, rfl, r⟩
  | _, _, i + 1, x, .cons _ t, e => by
    obtain ⟨u, h1, h2⟩ := Vals.get (i := i) (x := x) t (by simpa using e)
    exact ⟨u, by simpa using h1, h2⟩
theorem Vals.append : ∀ {xs ys : List V} {us ws : List Value}, Vals xs us → Vals ys ws → Vals (xs ++ ys) (us ++ ws)
  | _, _, _, _, .nil, s => s
  | _, _, _, _, .cons r t, s => .cons r (Vals.append t s)
theorem Vals.take : ∀ {xs : List V} {us : List Value} (n : Nat), Vals xs us → Vals (xs.take n) (us.take n)
  | _, _, 0, _ => .nil
  | _, _, _ + 1, .nil => .nil
  | _, _, n + 1, .cons r t => .cons r (Vals.take n t)
theorem Vals.drop : ∀ {xs : List V} {us : List Value} (n : Nat), Vals xs us → Vals (xs.drop n) (us.drop n)
  | _, _, 0, r => r
  | _, _, _ + 1, .nil => .nil
  | _, _, n + 1, .cons _ t => Vals.drop n t
def RelO : Option V → Option Value → Prop
  | some v, some u => RelV v u
  | none, none => True
  | _, _ => False
def KV {κ : Type} : List (κ × V) → List (κ × Value) → Prop := Paired fun (p : κ × V) (q : κ × Value) => p.1 = q.1 ∧ RelV p.2 q.2
def kV : Key → V
  | .inl i => .int i
  | .inr x => .str x
inductive HO where
  | lst (xs : List V)
  | tup (xs : List V)
  | dK (kvs : List (Key × V)) | dT (kvs : List (List Key × V))
  | set (S : Int → Bool) (n : Nat)
  | ins (C dx : Addr) (fs : List (Str × V))
  | own (x : Addr)
  | xd (fs : List (Str × V))
  | met (f x : Addr)
  | rng (lo hi : Int)
  | frz (o : Obj) (u : HO)
  | tbl (ps : Array Value)
  | ext (φ : Heap → Prop)
abbrev Hp := Addr → Option HO
def upd (H : Hp) (a : Addr) (o : HO) : Hp := fun b => if b = a then some o else H b
theorem upd_same {H : Hp} {a : Addr} {o : HO} : upd H a o a = some o := by unfold upd; rw [if_pos rfl]
theorem upd_ne {H : Hp} {a b : Addr} {o : HO} (h : b ≠ a) : upd H a o b = H b := by unfold upd; rw [if_neg h]
theorem ne_of_none {H : Hp} {a b : Addr} {o : HO} (h : H a = some o) (h' : H b = none) : a ≠ b := by
  intro e; subst e; rw [h] at h'; cases h'
section
variable (P : Program) (w : World)
def ObjOk (H : Hp) (h : Heap) (a : Addr) : HO → Prop
  | .lst xs => xs.length ≤ sizeLine ∧ ∃ (its : List Value) (n : Nat), Vals xs its ∧ h.get? a = some { cls := .type "list", data := .seq its.toArray n }
  | .tup xs => xs.length ≤ sizeLine ∧ ∃ its : List Value, Vals xs its ∧ IsTup h a its.toArray
  | .dK kvs => kvs.length ≤ sizeLine ∧ (a == sysModules) = false ∧ ∃ vs, KV kvs vs ∧ h.DictOf (mixKind P w) a vs
  | .dT kvs => kvs.length ≤ sizeLine ∧ (a == sysModules) = false ∧ ∃ xs : List (List Key × Addr × Value),
      Paired (fun (p : List Key × V) (q : List Key × Addr × Value) => p.1 = q.1 ∧ H q.2.1 = some (.tup (p.1.map kV)) ∧ RelV p.2 q.2.2) kvs xs ∧
      ∃ o es ep, h.get? a = some o ∧ o.ExactDict ∧ o.data = .dict es ep ∧ es.toList = xs.map (entryOfKey (tupleKind (mixKind P w))) ∧ (xs.map (·.1)).Nodup
  | .set S n => h.SetOf (intKind P w) a S n
  | .ins C dx fs => H dx = some (.own a) ∧ fs.length ≤ 1000 ∧ dx ≠ a ∧ h.get? a = some (PySem.W.instObj C dx) ∧
      ∃ mA, h.Ns1 dx mA ∧ (∀ f, RelO (fs.lookup f) (mA f)) ∧ PySem.Within mA (fs.map (·.1))
  | .own _ => ∃ o, h.get? a = some o
  | .xd fs => ∃ mA, h.Ns1 a mA ∧ ∀ f, RelO (fs.lookup f) (mA f)
  | .rng lo hi => ∃ t u v, h.get? a = some { cls := .type "range", data := .fields #[.int lo t, .int hi u, .int 1 v] }
  | .frz o u => h.get? a = some o ∧ ObjOk H h a u
  | .tbl ps => h.get? a = some { cls := .none, data := .fields ps }
  | .met f x => h.get? a = some (PySem.W.methodObj (.ref f) (.ref x))
  | .ext φ => φ h ∧ (∃ o, h.get? a = some o) ∧ ∀ h1 h2 : Heap, φ h1 → (∀ o, h1.get? a = some o → h2.get? a = some o) → φ h2
def HOk (H : Hp) (h : Heap) : Prop := ∀ a o, H a = some o → ObjOk P w H h a o
end
section
variable {P : Program} {w : World} {H H' : Hp} {h h' : Heap} {a : Addr} {o : HO}
theorem ObjOk.lt (x : ObjOk P w H h a o) : a < h.objs.size := by
  cases o with
  | lst xs => obtain ⟨_, _, _, _, e⟩ := x; exact Heap.lt_size e
  | tup xs => obtain ⟨_, _, _, p⟩ := x; exact p.lt
  | dK kvs => obtain ⟨_, _, _, _, o, _, _, e, _⟩ := x; exact Heap.lt_size e
  | dT kvs => obtain ⟨_, _, _, _, o, _, _, e, _⟩ := x; exact Heap.lt_size e
  | set S n => obtain ⟨o, _, _, _, e, _⟩ := x; exact Heap.lt_size e
  | ins C dx fs => obtain ⟨_, _, _, e, _⟩ := x; exact Heap.lt_size e
  | own y => obtain ⟨_, e⟩ := x; exact Heap.lt_size e
  | xd fs => obtain ⟨_, ⟨_, _, _, e, _⟩, _⟩ := x; exact Heap.lt_size e
  | rng lo hi => obtain ⟨_, _, _, e⟩ := x; exact Heap.lt_size e
  | frz ob u => obtain ⟨e, _⟩ := x; exact Heap.lt_size e
  | tbl ps => exact Heap.lt_size (show h.get? a = some _ from x)
  | met f y => exact Heap.lt_size (show h.get? a = some _ from x)
  | ext φ => obtain ⟨_, ⟨_, e⟩, _⟩ := x; exact Heap.lt_size e
theorem Paired.mapP {α β : Type} {F G : α → β → Prop} : ∀ {l₁ : List α} {l₂ : List β}, Paired F l₁ l₂ → (∀ a b, F a b → G a b) → Paired G l₁ l₂
  | _, _, .nil, _ => .nil
  | _, _, .cons r t, f => .cons (f _ _ r) (Paired.mapP t f)
theorem ObjOk.stay (x : ObjOk P w H h a o) (k : ∀ b u, (b = a ∨ H b = some (.own a)) → h.get? b = some u → h'.get? b = some u)
    (ho : ∀ b, H b = some (.own a) → H' b = some (.own a)) (ht : ∀ b xs, H b = some (.tup xs) → H' b = some (.tup xs)) : ObjOk P w H' h' a o := by
  induction o with
  | lst xs => obtain ⟨z, its, n, r, e⟩ := x; exact ⟨z, its, n, r, k _ _ (.inl rfl) e⟩
  | tup xs => obtain ⟨z, its, r, ob, e, c⟩ := x; exact ⟨z, its, r, ob, k _ _ (.inl rfl) e, c⟩
  | dK kvs => obtain ⟨z, y, vs, r, ob, es, ep, e, c⟩ := x; exact ⟨z, y, vs, r, ob, es, ep, k _ _ (.inl rfl) e, c⟩
  | dT kvs =>
    obtain ⟨z, y, xs, r, ob, es, ep, e, c⟩ := x
    exact ⟨z, y, xs, Paired.mapP r fun p q z => ⟨z.1, ht _ _ z.2.1, z.2.2⟩, ob, es, ep, k _ _ (.inl rfl) e, c⟩
  | set S n => obtain ⟨ob, es, ep, t, e, c⟩ := x; exact ⟨ob, es, ep, t, k _ _ (.inl rfl) e, c⟩
  | ins C dx fs =>
    obtain ⟨d, z, ne, e, mA, ⟨od, es, ep, e2, c⟩, r⟩ := x
    exact ⟨ho _ d, z, ne, k _ _ (.inl rfl) e, mA, ⟨od, es, ep, k _ _ (.inr d) e2, c⟩, r⟩
  | own y => obtain ⟨ob, e⟩ := x; exact ⟨ob, k _ _ (.inl rfl) e⟩
  | xd fs => obtain ⟨mA, ⟨od, es, ep, e, c⟩, r⟩ := x; exact ⟨mA, ⟨od, es, ep, k _ _ (.inl rfl) e, c⟩, r⟩
  | rng lo hi => obtain ⟨t, u, v, e⟩ := x; exact ⟨t, u, v, k _ _ (.inl rfl) e⟩
  | frz ob u ih => obtain ⟨e, q⟩ := x; exact ⟨k _ _ (.inl rfl) e, ih q⟩
  | tbl ps =>
    have e : h.get? a = some { cls := .none, data := .fields ps } := x
    show h'.get? a = some { cls := .none, data := .fields ps }
    exact k a _ (.inl rfl) e
  | met f y =>
    have e : h.get? a = some (PySem.W.methodObj (.ref f) (.ref y)) := x
    show h'.get? a = some (PySem.W.methodObj (.ref f) (.ref y))
    exact k a _ (.inl rfl) e
  | ext φ => obtain ⟨p, ⟨o, e⟩, st⟩ := x; exact ⟨st _ _ p fun o q => k _ _ (.inl rfl) q, ⟨o, k _ _ (.inl rfl) e⟩, st⟩
theorem HOk.lt (x : HOk P w H h) (e : H a = some o) : a < h.objs.size := (x a o e).lt
theorem HOk.fresh (x : HOk P w H h) (e : h.objs.size ≤ a) : H a = none := by
  cases q : H a with
  | none => rfl
  | some u => exact absurd (Nat.lt_of_lt_of_le (x.lt q) e) (Nat.lt_irrefl _)
theorem HOk.kept (x : HOk P w H h) (k : ∀ b u, h.get? b = some u → h'.get? b = some u) : HOk P w H h' := fun a o e =>
  (x a o e).stay (fun b u _ q => k b u q) (fun _ q => q) fun _ _ q => q
theorem HOk.laid (x : HOk P w H h) (k : ∀ b u, h.get? b = some u → h'.get? b = some u) (hp : h.objs.size ≤ a) (new : ObjOk P w (upd H a o) h' a o) : HOk P w (upd H a o) h' := fun b u e => by
  have hn := x.fresh hp
  by_cases hb : b = a
  · subst hb; rw [upd_same] at e; cases e; exact new
  · rw [upd_ne hb] at e
    exact (x b u e).stay (fun c v _ q => k c v q) (fun c q => by rw [upd_ne (ne_of_none q hn)]; exact q) fun c xs q => by rw [upd_ne (ne_of_none q hn)]; exact q
end
def Rd (H : Hp) (a : Addr) (u : HO) : Prop := H a = some u ∨ ∃ o, H a = some (.frz o u)
theorem Rd.ok {P : Program} {w : World} {H : Hp} {h : Heap} {a : Addr} {u : HO} (r : Rd H a u) (x : HOk P w H h) : ObjOk P w H h a u := by
  rcases r with r | ⟨o, r⟩
  · exact x a u r
  · obtain ⟨_, q⟩ := x a _ r
    exact q
def Mut : Option HO → Prop
  | some (.lst _) => True
  | some (.dK _) => True
  | some (.dT _) => True
  | some (.set _ _) => True
  | some (.ins _ _ _) => True
  | some (.ext _) => True
  | _ => False
section
variable {P : Program} {w : World} {H : Hp} {h h' : Heap} {x e : Addr} {o' : HO}
theorem HOk.write (ok : HOk P w H h) (mu : Mut (H x)) (he : e = x ∨ H e = some (.own x)) (k : ∀ b u, b ≠ e → h.get? b = some u → h'.get? b = some u) (heo : ∃ u, h'.get? e = some u)
    (new : ObjOk P w (upd H x o') h' x o') : HOk P w (upd H x o') h' := fun b u q => by
  have nown : ∀ c y, H c = some (.own y) → c ≠ x := fun c y r z => by subst z; rw [r] at mu; exact mu
  have ntup : ∀ c xs, H c = some (.tup xs) → c ≠ x := fun c xs r z => by subst z; rw [r] at mu; exact mu
  by_cases hb : b = x
  · subst hb; rw [upd_same] at q; cases q; exact new
  · rw [upd_ne hb] at q
    by_cases hbe : b = e
    · have q' : H b = some (.own x) := by
        rcases he with z | z
        · exact absurd (hbe.trans z) hb
        · rw [hbe]; exact z
      rw [q] at q'; cases q'
      obtain ⟨v, hv⟩ := heo
      exact ⟨v, by rw [hbe]; exact hv⟩
    · refine (ok b u q).stay (fun c v hc r => k c v ?_ r) (fun c r => by rw [upd_ne (nown c b r)]; exact r) fun c xs r => by rw [upd_ne (ntup c xs r)]; exact r
      rcases hc with rfl | hc
      · exact hbe
      · rintro rfl
        rcases he with z | z
        · exact nown c b hc z
        · rw [hc] at z; cases z; exact hb rfl
end
structure Un (fs ex : List Addr) (H H' : Hp) (h h' : Heap) : Prop where
  keep : ∀ b o, h.get? b = some o → H b = none → b ∉ fs → b ∉ ex → h'.get? b = some o
  slot : ∀ b o, h.get? b = some o → H b = none → b ∈ fs → b ∉ ex → ∃ sl, h'.get? b = some { o with slots := sl }
  free : ∀ b o, h.get? b = some o → H b = none → b ∉ ex → H' b = none
  there : ∀ b o, h.get? b = some o → b ∉ ex → ∃ o', h'.get? b = some o'
  tups : ∀ b xs, H b = some (.tup xs) → H' b = some (.tup xs)
  frzs : ∀ b o u, H b = some (.frz o u) → H' b = some (.frz o u)
  tbls : ∀ b ps, H b = some (.tbl ps) → ∃ more, H' b = some (.tbl (ps ++ more))
section
variable {fs fs' ex ex' : List Addr} {H H1 H2 : Hp} {h h1 h2 h' : Heap} {a x e : Addr} {o : HO}
theorem Un.any (u : Un fs ex H H1 h h1) {b : Addr} {ob : Obj} (q : h.get? b = some ob) (n : H b = none) (hx : b ∉ ex) : ∃ sl, h1.get? b = some { ob with slots := sl } := by
  by_cases hb : b ∈ fs
  · exact u.slot b ob q n hb hx
  · exact ⟨ob.slots, u.keep b ob q n hb hx⟩
theorem Un.kept (k : ∀ b u, h.get? b = some u → h'.get? b = some u) : Un fs ex H H h h' :=
  ⟨fun b ob q _ _ _ => k b ob q, fun b ob q _ _ _ => ⟨ob.slots, k b ob q⟩, fun _ _ _ n _ => n, fun b ob q _ => ⟨ob, k b ob q⟩, fun _ _ q => q, fun _ _ _ q => q, fun _ ps q => ⟨#[], by rw [q]; simp⟩⟩
theorem Un.refl : Un fs ex H H h h := Un.kept fun _ _ q => q
theorem Un.laid (k : ∀ b u, h.get? b = some u → h'.get? b = some u) (hp : h.objs.size ≤ a) (hn : H a = none) : Un fs ex H (upd H a o) h h' where
  keep := fun b u q _ _ _ => k b u q
  slot := fun b u q _ _ _ => ⟨u.slots, k b u q⟩
  free := fun b u q n _ => by rw [upd_ne (Nat.ne_of_lt (Nat.lt_of_lt_of_le (Heap.lt_size q) hp))]; exact n
  there := fun b u q _ => ⟨u, k b u q⟩
  tups := fun b xs q => by rw [upd_ne (ne_of_none q hn)]; exact q
  frzs := fun b u xs q => by rw [upd_ne (ne_of_none q hn)]; exact q
  tbls := fun b ps q => ⟨#[], by rw [upd_ne (ne_of_none q hn), q]; simp⟩
theorem Un.write (mu : Mut (H x)) (he : e = x ∨ H e = some (.own x)) (k : ∀ b u, b ≠ e → h.get? b = some u → h'.get? b = some u) (heo : ∃ u, h'.get? e = some u) : Un fs ex H (upd H x o) h h' := by
  have hx : ∀ b, H b = none → b ≠ x := fun b n z => by subst z; rw [n] at mu; exact mu
  have hb : ∀ b, H b = none → b ≠ e := fun b n z => by
    subst z
    rcases he with r | r
    · exact hx b n r
    · rw [n] at r; cases r
  have hm : ∀ b u, H b = some u → ¬ Mut (some u) → b ≠ x := fun b u q nm z => by subst z; rw [q] at mu; exact nm mu
  refine ⟨fun b u q n _ _ => k b u (hb b n) q, fun b u q n _ _ => ⟨u.slots, k b u (hb b n) q⟩, fun b u q n _ => by rw [upd_ne (hx b n)]; exact n, fun b u q _ => ?_,
    fun b xs q => by rw [upd_ne (hm b _ q fun z => z)]; exact q, fun b u xs q => by rw [upd_ne (hm b _ q fun z => z)]; exact q, fun b ps q => ⟨#[], by rw [upd_ne (hm b _ q fun z => z), q]; simp⟩⟩
  by_cases hbe : b = e
  · subst hbe; exact heo
  · exact ⟨u, k b u hbe q⟩
end
def trk (h : Heap) (H : Hp) : List Addr := (List.range h.objs.size).filter fun a => (H a).isSome
def hidT (h : Heap) (H : Hp) : Heap := PySem.W.hideAll h (trk h H)
theorem hidT_size (h : Heap) (H : Hp) : (hidT h H).objs.size = h.objs.size := PySem.W.hideAll_size _ _
theorem hidT_get {h : Heap} {H : Hp} {b : Addr} {o : Obj} (e : h.get? b = some o) (n : H b = none) : (hidT h H).get? b = some o :=
  PySem.W.hideAll_get _ e fun hm => by
    have q : (H b).isSome = true := (List.mem_filter.mp hm).2
    rw [n] at q; simp at q
theorem of_hidT {h : Heap} {H : Hp} {b : Addr} {o : Obj} (e : (hidT h H).get? b = some o) : h.get? b = some o ∧ H b = none := by
  have e' : h.get? b = some o := PySem.W.of_hideAll (trk h H) e
  refine ⟨e', ?_⟩
  cases q : H b with
  | none => rfl
  | some x =>
    have hm : b ∈ trk h H := List.mem_filter.mpr ⟨List.mem_range.mpr (Heap.lt_size e'), by simp [q]⟩
    have z : (hidT h H).get? b = none := PySem.W.hideAll_none (trk h H) hm
    rw [z] at e; cases e
end L2
namespace L2
open PySem PySem.Spec PyProof.Rows
structure Mod (K : PySem.W.Frag) (mg : Str → Option Value) (base : Heap) : Prop where
  kin : K.In base
  glob : base.Ns mainGlobals mg
  blt : ∃ mb, base.Ns builtinsNs mb ∧ ∀ x : Str, x ≠ "__name__" → mb x = bootBuiltins x
  nolimit : base.NoLimit
structure Cx where
  prog : Program
  w : World
  K : PySem.W.Frag
  mg : Str → Option Value
  base : Heap
  A : Around
  N : List Str
  s₀ : Shared
  H₀ : Hp
  env : Env
  outer : List Env
  stack : List Env
  ex : List Addr
  fn : Str → Bool
  calm : Bool
  pn : List (Addr × Obj)
  xe : Value → Shared → Prop
def frs (l : List Env) : List Addr := l.filterMap (·.frame)
abbrev Cx.fs (X : Cx) : List Addr := frs X.outer
def Vis (sc : Scope) (x : Str) : Prop := sc.names.lookup x = some .local ∨ sc.names.lookup x = some .cell ∨ sc.names.lookup x = some .free
def Loc (sc : Scope) (x : Str) : Prop := sc.names.lookup x = some .local ∨ sc.names.lookup x = some .cell
def Look (env : Env) (h : Heap) (m : Str → Option Value) (x : Str) (u : Value) : Prop :=
  (env.kindOf x = some .local ∧ m x = some u) ∨ ((env.kindOf x = some .cell ∨ env.kindOf x = some .free) ∧ ∃ c, env.cells.lookup x = some c ∧ h.IsCell c (some u))
structure Cx.Ok (X : Cx) : Prop where
  mod : Mod X.K X.mg X.base
  kind : X.env.scope.kind = .function
  glob : X.env.globals = mainGlobals
  blt : X.env.builtins = builtinsNs
  above : X.s₀.heap.objs.size ≤ X.env.locals
  inj : ∀ x y c, X.env.cells.lookup x = some c → X.env.cells.lookup y = some c → x = y
  has : ∀ x, (X.env.kindOf x = some .cell ∨ X.env.kindOf x = some .free) → ∃ c, X.env.cells.lookup x = some c
  cab : ∀ x c, X.fn x = true → X.env.cells.lookup x = some c → X.s₀.heap.objs.size ≤ c
  hd : X.calm = true → X.A.handled = none
  frames : X.A.frames = some X.stack
  stk : X.stack = X.outer ∨ (X.stack = X.env :: X.outer ∧ X.env.frame = some X.env.locals)
  exf : ∀ b ∈ X.ex, b ≠ X.env.locals ∧ ∀ x c, X.env.cells.lookup x = some c → c ≠ b
  bs : ∀ b o, X.base.get? b = some o → X.s₀.heap.get? b = some o ∧ X.H₀ b = none
  bsz : X.base.objs.size ≤ X.s₀.heap.objs.size
  noex : ∀ b o, X.base.get? b = some o → b ∉ X.ex
  exfs : ∀ b ∈ X.ex, b ∉ X.fs
  funs : X.s₀.heap.FunFrames X.base X.outer
  frf : ∀ b ∈ X.fs, X.H₀ b = none
structure Inv (X : Cx) (pins : List (Addr × Obj)) (σ : List (Option V)) (H : Hp) (s : Shared) : Prop where
  ok : X.Ok
  os : s.os = X.s₀.os
  bare : AllBare s.gens
  base : Un X.fs X.ex X.H₀ H X.s₀.heap s.heap
  loc : ∃ m, s.heap.Ns X.env.locals m ∧ ∀ (i : Nat) (x : Str) (v : V), X.N[i]? = some x → σ[i]? = some (some v) → Vis X.env.scope x → ∃ u, RelV v u ∧ Look X.env s.heap m x u
  cell : ∀ x c, X.env.cells.lookup x = some c → ∃ v, s.heap.IsCell c v
  free : H X.env.locals = none
  freeC : ∀ x c, X.env.cells.lookup x = some c → H c = none
  pin : ∀ p ∈ X.pn ++ pins, s.heap.get? p.1 = some p.2 ∧ H p.1 = none ∧ p.1 ≠ X.env.locals ∧ p.1 ∉ X.fs ∧ ∀ v, p.2.data ≠ .cell v
  hok : HOk X.prog X.w H s.heap
  len : σ.length = X.N.length
section
variable {X : Cx} {pins : List (Addr × Obj)} {σ : List (Option V)} {H H' : Hp} {s : Shared} {h' : Heap}
theorem Cx.Ok.nofr (ok : X.Ok) {b : Addr} {o : Obj} (e : X.base.get? b = some o) : b ∉ X.fs := fun hb => by
  have := (ok.funs.mem hb).1
  rw [e] at this; cases this
theorem Inv.bs (I : Inv X pins σ H s) : ∀ b o, X.base.get? b = some o → s.heap.get? b = some o ∧ H b = none := fun b o e =>
  ⟨I.base.keep b o (I.ok.bs b o e).1 (I.ok.bs b o e).2 (I.ok.nofr e) (I.ok.noex b o e), I.base.free b o (I.ok.bs b o e).1 (I.ok.bs b o e).2 (I.ok.noex b o e)⟩
theorem Inv.bk (I : Inv X pins σ H s) : ∀ b o, X.base.get? b = some o → s.heap.get? b = some o := fun b o e => (I.bs b o e).1
theorem Inv.mod (I : Inv X pins σ H s) : Mod X.K X.mg X.base := I.ok.mod
theorem Inv.kIn (I : Inv X pins σ H s) : X.K.In s.heap := I.ok.mod.kin.keeps I.bk
theorem Inv.lt (I : Inv X pins σ H s) : X.env.locals < s.heap.objs.size := let ⟨_, hn, _⟩ := I.loc; hn.lt
theorem Inv.sz (I : Inv X pins σ H s) : X.s₀.heap.objs.size ≤ s.heap.objs.size := Nat.le_trans I.ok.above (Nat.le_of_lt I.lt)
theorem Inv.nofs (I : Inv X pins σ H s) {a : Addr} (h : s.heap.objs.size ≤ a) : a ∉ X.fs := fun hb => by
  obtain ⟨_, o, ho, _⟩ := I.ok.funs.mem hb
  exact absurd (Nat.lt_of_lt_of_le (Heap.lt_size ho) (Nat.le_trans I.sz h)) (Nat.lt_irrefl _)
theorem Inv.cne (I : Inv X pins σ H s) : ∀ x c, X.env.cells.lookup x = some c → c ≠ X.env.locals := fun x c e z => by
  obtain ⟨v, o, ho, hd⟩ := I.cell x c e
  obtain ⟨m, ⟨o', es, ep, ho', hd', _⟩, _⟩ := I.loc
  rw [z, ho'] at ho; cases ho; rw [hd'] at hd; cases hd
theorem Inv.funs (I : Inv X pins σ H s) : s.heap.FunFrames X.base X.outer := by
  have all : ∀ (l : List Env), (∀ b ∈ frs l, b ∈ X.fs) → X.s₀.heap.FunFrames X.base l → s.heap.FunFrames X.base l := by
    intro l
    induction l with
    | nil => intro _ _; trivial
    | cons env r ih =>
      intro hs hl
      obtain ⟨hk, ⟨L, o, hf, hn, ho, hd⟩, hr⟩ := hl
      have hL : L ∈ X.fs := hs L (by unfold frs; rw [List.filterMap_cons, hf]; exact List.mem_cons_self)
      obtain ⟨sl, e⟩ := I.base.slot L o ho (I.ok.frf L hL) hL fun z => I.ok.exfs L z hL
      exact ⟨hk, ⟨L, _, hf, hn, e, hd⟩, ih (fun b hb => hs b (by unfold frs; rw [List.filterMap_cons, hf]; exact List.mem_cons_of_mem _ hb)) hr⟩
  exact all X.outer (fun _ hb => hb) I.ok.funs
theorem Inv.stack (I : Inv X pins σ H s) : s.heap.FunFrames X.base X.stack := by
  rcases I.ok.stk with e | ⟨e, hf⟩
  · rw [e]; exact I.funs
  · rw [e]
    obtain ⟨m, hn, _⟩ := I.loc
    refine .cons (by rw [I.ok.kind]; decide) hf hn ?_ I.funs
    exact Heap.get?_none_of_le (Nat.le_trans I.ok.bsz I.ok.above)
theorem Inv.stkSub (I : Inv X pins σ H s) : ∀ b ∈ frs X.stack, b ∈ X.env.locals :: X.fs := fun b hb => by
  rcases I.ok.stk with e | ⟨e, hf⟩
  · rw [e] at hb; exact List.mem_cons_of_mem _ hb
  · rw [e] at hb
    unfold frs at hb
    rw [List.filterMap_cons, hf] at hb
    exact hb
theorem Inv.stkFree (I : Inv X pins σ H s) : ∀ b ∈ frs X.stack, H b = none := fun b hb => by
  rcases List.mem_cons.mp (I.stkSub b hb) with e | hb
  · rw [e]; exact I.free
  · obtain ⟨_, o, ho, _⟩ := I.ok.funs.mem hb
    exact I.base.free b o ho (I.ok.frf b hb) fun z => I.ok.exfs b z hb
theorem Inv.step {g' : Array GenState} {t' : Nat} {d' : Drawn} {ch : List Addr} (I : Inv X pins σ H s)
    (hch : ∀ b ∈ ch, (b ∈ X.ex ∨ X.s₀.heap.objs.size ≤ b) ∧ b ≠ X.env.locals ∧ (∀ x c, X.env.cells.lookup x = some c → c ≠ b) ∧ ∀ p ∈ X.pn ++ pins, p.1 ≠ b)
    (keep : ∀ b o, b ≠ X.env.locals → b ∉ X.fs → b ∉ ch → s.heap.get? b = some o → H b = none → h'.get? b = some o)
    (slot : ∀ b o, b ≠ X.env.locals → b ∈ X.fs → b ∉ ch → s.heap.get? b = some o → H b = none → ∃ sl, h'.get? b = some { o with slots := sl }) (free : ∀ b o, b ∉ ch → s.heap.get? b = some o → H b = none → H' b = none)
    (there : ∀ b o, b ∉ ch → s.heap.get? b = some o → ∃ o', h'.get? b = some o')
    (tups : ∀ b xs, H b = some (.tup xs) → H' b = some (.tup xs)) (frzs : ∀ b o u, H b = some (.frz o u) → H' b = some (.frz o u)) (tbls : ∀ b ps, H b = some (.tbl ps) → ∃ more, H' b = some (.tbl (ps ++ more)))
    (ns : ∀ m, s.heap.Ns X.env.locals m → h'.Ns X.env.locals m) (hok : HOk X.prog X.w H' h') (hg : AllBare g') :
    Inv X pins σ H' { s with heap := h', gens := g', drawn := d', toks := t' } := by
  have neL : ∀ b o, X.s₀.heap.get? b = some o → b ≠ X.env.locals := fun b o e => Nat.ne_of_lt (Nat.lt_of_lt_of_le (Heap.lt_size e) I.ok.above)
  have neC : ∀ b o, X.s₀.heap.get? b = some o → b ∉ X.ex → b ∉ ch := fun b o e hx hb => by
    rcases (hch b hb).1 with z | z
    · exact hx z
    · exact absurd (Nat.lt_of_lt_of_le (Heap.lt_size e) z) (Nat.lt_irrefl _)
  have cellK : ∀ x c, X.env.cells.lookup x = some c → ∀ v, s.heap.IsCell c v → h'.IsCell c v := fun x c e v ⟨o, ho, hd⟩ => by
    have nch : c ∉ ch := fun z => (hch c z).2.2.1 x c e rfl
    by_cases hc : c ∈ X.fs
    · obtain ⟨sl, q⟩ := slot c o (I.cne x c e) hc nch ho (I.freeC x c e)
      exact ⟨_, q, hd⟩
    · exact ⟨o, keep c o (I.cne x c e) hc nch ho (I.freeC x c e), hd⟩
  refine ⟨I.ok, I.os, hg, ⟨fun b o e n hb hx => ?_, fun b o e n hb hx => ?_, fun b o e n hx => ?_, fun b o e hx => ?_, fun b xs e => tups b xs (I.base.tups b xs e), fun b o xs e => frzs b o xs (I.base.frzs b o xs e), fun b ps e => ?_⟩, ?_, fun x c e => ?_, ?_, fun x c e => ?_, fun p hp => ?_, hok, I.len⟩
  · exact keep b o (neL b o e) hb (neC b o e hx) (I.base.keep b o e n hb hx) (I.base.free b o e n hx)
  · obtain ⟨sl, e1⟩ := I.base.slot b o e n hb hx
    obtain ⟨sl', e2⟩ := slot b _ (neL b o e) hb (neC b o e hx) e1 (I.base.free b o e n hx)
    exact ⟨sl', e2⟩
  · obtain ⟨o', e1⟩ := I.base.there b o e hx
    exact free b o' (neC b o e hx) e1 (I.base.free b o e n hx)
  · obtain ⟨o', e1⟩ := I.base.there b o e hx
    exact there b o' (neC b o e hx) e1
  · obtain ⟨m1, e1⟩ := I.base.tbls b ps e
    obtain ⟨m2, e2⟩ := tbls b _ e1
    exact ⟨m1 ++ m2, by rw [e2, Array.append_assoc]⟩
  · obtain ⟨m, hn, hl⟩ := I.loc
    refine ⟨m, ns m hn, fun i x v e1 e2 e3 => ?_⟩
    obtain ⟨u, r, l⟩ := hl i x v e1 e2 e3
    refine ⟨u, r, ?_⟩
    rcases l with l | ⟨k, c, e, z⟩
    · exact .inl l
    · exact .inr ⟨k, c, e, cellK x c e _ z⟩
  · obtain ⟨v, z⟩ := I.cell x c e
    exact ⟨v, cellK x c e v z⟩
  · obtain ⟨m, ⟨o, _, _, ho, _⟩, _⟩ := I.loc
    exact free _ o (fun z => (hch _ z).2.1 rfl) ho I.free
  · obtain ⟨v, o, ho, hd⟩ := I.cell x c e
    exact free c o (fun z => (hch c z).2.2.1 x c e rfl) ho (I.freeC x c e)
  · obtain ⟨e, n, ne, nf, d⟩ := I.pin p hp
    have nch : p.1 ∉ ch := fun z => (hch p.1 z).2.2.2 p hp rfl
    exact ⟨keep p.1 p.2 ne nf nch e n, free p.1 p.2 nch e n, ne, nf, d⟩
theorem Inv.un {t' : Nat} (I : Inv X pins σ H s) (u : Un X.fs [] H H' s.heap h') (hok : HOk X.prog X.w H' h') : Inv X pins σ H' { s with heap := h', toks := t' } := by
  obtain ⟨m, ⟨o, es, ep, ho, r⟩, _⟩ := id I.loc
  obtain ⟨sl, hL⟩ := u.any ho I.free (by simp)
  exact I.step (g' := s.gens) (d' := s.drawn) (ch := []) (fun _ z => nomatch z) (fun b o _ hb _ e n => u.keep b o e n hb (by simp)) (fun b o _ hb _ e n => u.slot b o e n hb (by simp)) (fun b o _ e n => u.free b o e n (by simp)) (fun b o _ e => u.there b o e (by simp)) u.tups u.frzs u.tbls (fun m' hm => by
    obtain ⟨o', es', ep', ho', r'⟩ := hm
    rw [ho] at ho'; cases ho'
    exact ⟨_, es', ep', hL, r'⟩) hok I.bare
theorem Inv.call {g' : Array GenState} {t' : Nat} {d' : Drawn} {ch : List Addr} (I : Inv X pins σ H s) (u : Un (frs X.stack) ch H H' s.heap h') (hok : HOk X.prog X.w H' h') (hg : AllBare g')
    (hch : ∀ b ∈ ch, (b ∈ X.ex ∨ X.s₀.heap.objs.size ≤ b) ∧ b ≠ X.env.locals ∧ (∀ x c, X.env.cells.lookup x = some c → c ≠ b) ∧ ∀ p ∈ X.pn ++ pins, p.1 ≠ b) :
    Inv X pins σ H' { s with heap := h', gens := g', drawn := d', toks := t' } := by
  obtain ⟨m, ⟨o, es, ep, ho, r⟩, _⟩ := id I.loc
  obtain ⟨sl, hL⟩ := u.any ho I.free fun z => (hch _ z).2.1 rfl
  exact I.step (ch := ch) hch (fun b o hL hb hc e n => u.keep b o e n (fun z => (List.mem_cons.mp (I.stkSub b z)).elim hL hb) hc) (fun b o _ _ hc e n => u.any e n hc) (fun b o hc e n => u.free b o e n hc) (fun b o hc e => u.there b o e hc) u.tups u.frzs u.tbls (fun m' hm => by
    obtain ⟨o', es', ep', ho', r'⟩ := hm
    rw [ho] at ho'; cases ho'
    exact ⟨_, es', ep', hL, r'⟩) hok hg
theorem Inv.turned {t' : Nat} {it : Addr} (I : Inv X pins σ H s) (k : ∀ b o, b ≠ it → s.heap.get? b = some o → h'.get? b = some o) (hn : H it = none) (hL : it ≠ X.env.locals)
    (h1 : it ∈ X.ex ∨ X.s₀.heap.objs.size ≤ it) (h2 : ∀ x c, X.env.cells.lookup x = some c → c ≠ it) (h3 : ∀ p ∈ X.pn ++ pins, p.1 ≠ it) : Inv X pins σ H { s with heap := h', toks := t' } := by
  have nit : ∀ b u, H b = some u → b ≠ it := fun b u e z => by rw [z, hn] at e; cases e
  refine I.step (g' := s.gens) (d' := s.drawn) (ch := [it]) (fun b hb => ?_) (fun b o _ _ hc e _ => k b o (fun z => hc (by simp [z])) e) (fun b o _ _ hc e _ => ⟨o.slots, k b o (fun z => hc (by simp [z])) e⟩) (fun _ _ _ _ n => n)
    (fun b o hc e => ⟨o, k b o (fun z => hc (by simp [z])) e⟩) (fun _ _ e => e) (fun _ _ _ e => e) (fun b ps e => ⟨#[], by rw [e]; simp⟩) (fun m hm => ?_) (fun b u e => ?_) I.bare
  · have e : b = it := by simpa using hb
    subst e
    exact ⟨h1, hL, h2, h3⟩
  · obtain ⟨o, es, ep, ho, r⟩ := hm
    exact ⟨o, es, ep, k _ o (Ne.symm hL) ho, r⟩
  · refine (I.hok b u e).stay (fun c v hc q => k c v ?_ q) (fun _ q => q) fun _ _ q => q
    rcases hc with z | z
    · rw [z]; exact nit b u e
    · exact nit c _ z
theorem Inv.tok (I : Inv X pins σ H s) (t : Nat) : Inv X pins σ H { s with toks := t } := I.un (h' := s.heap) (t' := t) Un.refl I.hok
theorem Inv.kept {t' : Nat} (I : Inv X pins σ H s) (k : ∀ b u, s.heap.get? b = some u → h'.get? b = some u) : Inv X pins σ H { s with heap := h', toks := t' } := I.un (Un.kept k) (I.hok.kept k)
theorem Inv.laid {a : Addr} {o : HO} {t' : Nat} (I : Inv X pins σ H s) (k : ∀ b u, s.heap.get? b = some u → h'.get? b = some u) (hp : s.heap.objs.size ≤ a) (new : ObjOk X.prog X.w (upd H a o) h' a o) :
    Inv X pins σ (upd H a o) { s with heap := h', toks := t' } := I.un (Un.laid k hp (I.hok.fresh hp)) (I.hok.laid k hp new)
theorem Inv.write {x e : Addr} {o : HO} {t' : Nat} (I : Inv X pins σ H s) (mu : Mut (H x)) (he : e = x ∨ H e = some (.own x)) (k : ∀ b u, b ≠ e → s.heap.get? b = some u → h'.get? b = some u) (heo : ∃ u, h'.get? e = some u)
    (new : ObjOk X.prog X.w (upd H x o) h' x o) : Inv X pins σ (upd H x o) { s with heap := h', toks := t' } := I.un (Un.write mu he k heo) (I.hok.write mu he k heo new)
theorem Inv.weak {σ' : List (Option V)} (I : Inv X pins σ H s) (hl : σ'.length = σ.length) (w : ∀ (i : Nat) v, σ'[i]? = some (some v) → σ[i]? = some (some v)) : Inv X pins σ' H s :=
  ⟨I.ok, I.os, I.bare, I.base, let ⟨m, hn, hl'⟩ := I.loc; ⟨m, hn, fun i x v e1 e2 e3 => hl' i x v e1 (w i v e2) e3⟩, I.cell, I.free, I.freeC, I.pin, I.hok, hl.trans I.len⟩
theorem Inv.pins_of {pins' : List (Addr × Obj)} (I : Inv X pins σ H s) (h : ∀ p ∈ pins', s.heap.get? p.1 = some p.2 ∧ H p.1 = none ∧ p.1 ≠ X.env.locals ∧ p.1 ∉ X.fs ∧ ∀ v, p.2.data ≠ .cell v) : Inv X pins' σ H s :=
  ⟨I.ok, I.os, I.bare, I.base, I.loc, I.cell, I.free, I.freeC, fun p hp => (List.mem_append.mp hp).elim (fun z => I.pin p (List.mem_append_left _ z)) (h p), I.hok, I.len⟩
theorem nodup_ix {N : List Str} (hN : N.Nodup) {i j : Nat} {x : Str} (a : N[i]? = some x) (b : N[j]? = some x) : i = j := by
  obtain ⟨h1, e1⟩ := List.getElem?_eq_some_iff.mp a
  obtain ⟨h2, e2⟩ := List.getElem?_eq_some_iff.mp b
  exact (List.getElem_inj hN).mp (e1.trans e2.symm)
theorem store_ok2 {M : Model} {A : Around} {E : Value → Shared → Prop} {i : Nat} {x : Str} {v : V} {u : Value} {Q : Unit → Shared → Prop} (I : Inv X pins σ H s) (hN : X.N.Nodup) (hi : X.N[i]? = some x) (hx : Loc X.env.scope x) (r : RelV v u)
    (h : ∀ s', Inv X pins (σ.set i (some v)) H s' → (∃ a, Heap.SameBut a s.heap s'.heap ∧ (a = X.env.locals ∨ X.env.cells.lookup x = some a)) → Q () s') (hf : X.fn x = true ∨ X.env.scope.names.lookup x = some .local := by first | exact .inl rfl | exact .inr rfl | assumption) : wpAny M A (storeName X.env x u) Q E s := by
  obtain ⟨m, hn, hl⟩ := id I.loc
  have hcls : (X.env.scope.kind == .class || (X.env.scope.kind == .module && X.env.locals != X.env.globals)) = false := by rw [I.ok.kind]; rfl
  have hiσ : i < σ.length := by rw [I.len]; exact (List.getElem?_eq_some_iff.mp hi).1
  have cne := I.cne
  have tracked : ∀ {a : Addr} {h' : Heap}, (∃ o, s.heap.get? a = some o ∧ H a = none) → Heap.SameBut a s.heap h' → HOk X.prog X.w H h' := fun {a h'} ha hs b ob e => by
    obtain ⟨_, _, hfree⟩ := ha
    refine (I.hok b ob e).stay (fun c w' hc q => (hs.2 c ?_).trans q) (fun _ q => q) fun _ _ q => q
    rintro rfl
    rcases hc with rfl | hc
    · rw [hfree] at e; cases e
    · rw [hfree] at hc; cases hc
  rcases hx with hk | hk
  · refine wpAny_storeName_local hk hn (fun h' hn' hs => ?_) hcls
    obtain ⟨oL, _, _, hoL, _⟩ := id hn
    refine h _ ⟨I.ok, I.os, I.bare, ⟨fun b o e n hb hx => ?_, fun b o e n hb hx => ?_, I.base.free, fun b o e hx => ?_, I.base.tups, I.base.frzs, I.base.tbls⟩, ⟨_, hn', fun j y v' e1 e2 e3 => ?_⟩, fun y c e => ?_, I.free, I.freeC, fun p hp => ?_, tracked ⟨oL, hoL, I.free⟩ hs, by simpa using I.len⟩ ⟨_, hs, .inl rfl⟩
    · exact (hs.2 b (Nat.ne_of_lt (Nat.lt_of_lt_of_le (Heap.lt_size e) I.ok.above))).trans (I.base.keep b o e n hb hx)
    · obtain ⟨sl, e1⟩ := I.base.slot b o e n hb hx
      exact ⟨sl, (hs.2 b (Nat.ne_of_lt (Nat.lt_of_lt_of_le (Heap.lt_size e) I.ok.above))).trans e1⟩
    · obtain ⟨o', e1⟩ := I.base.there b o e hx
      exact ⟨o', (hs.2 b (Nat.ne_of_lt (Nat.lt_of_lt_of_le (Heap.lt_size e) I.ok.above))).trans e1⟩
    · by_cases hj : j = i
      · subst hj
        rw [hi] at e1; cases e1
        rw [List.getElem?_set_self hiσ] at e2
        cases e2
        exact ⟨u, r, .inl ⟨hk, by simp⟩⟩
      · rw [List.getElem?_set_ne (Ne.symm hj)] at e2
        obtain ⟨u', r', q⟩ := hl j y v' e1 e2 e3
        refine ⟨u', r', ?_⟩
        rcases q with ⟨k, e⟩ | ⟨k, c, e, z⟩
        · refine .inl ⟨k, ?_⟩
          have : y ≠ x := fun e => hj (nodup_ix hN e1 (e ▸ hi))
          simp [this, e]
        · exact .inr ⟨k, c, e, z.sameBut hs (cne y c e)⟩
    · obtain ⟨w', z⟩ := I.cell y c e
      exact ⟨w', z.sameBut hs (cne y c e)⟩
    · obtain ⟨e, n, ne, nf, d⟩ := I.pin p hp
      exact ⟨(hs.2 p.1 ne).trans e, n, ne, nf, d⟩
  · have hfn : X.fn x = true := by
      rcases hf with z | z
      · exact z
      · rw [z] at hk; cases hk
    obtain ⟨c, hc⟩ := I.ok.has x (.inl hk)
    obtain ⟨w', z⟩ := I.cell x c hc
    refine wpAny_storeName_cell I.ok.kind hk hc z (fun h' hc' hs => ?_)
    obtain ⟨oc, hoc, hocd⟩ := id z
    refine h { s with heap := h' } ⟨I.ok, I.os, I.bare, ⟨fun b o e n hb hx => ?_, fun b o e n hb hx => ?_, I.base.free, fun b o e hx => ?_, I.base.tups, I.base.frzs, I.base.tbls⟩, ⟨m, hn.sameBut hs (Ne.symm (cne x c hc)), fun j y v' e1 e2 e3 => ?_⟩, fun y c' e => ?_, I.free, I.freeC, fun p hp => ?_, tracked ⟨oc, hoc, I.freeC x c hc⟩ hs, by simpa using I.len⟩ ⟨c, hs, .inr hc⟩
    · exact (hs.2 b (Nat.ne_of_lt (Nat.lt_of_lt_of_le (Heap.lt_size e) (I.ok.cab x c hfn hc)))).trans (I.base.keep b o e n hb hx)
    · obtain ⟨sl, e1⟩ := I.base.slot b o e n hb hx
      exact ⟨sl, (hs.2 b (Nat.ne_of_lt (Nat.lt_of_lt_of_le (Heap.lt_size e) (I.ok.cab x c hfn hc)))).trans e1⟩
    · obtain ⟨o', e1⟩ := I.base.there b o e hx
      exact ⟨o', (hs.2 b (Nat.ne_of_lt (Nat.lt_of_lt_of_le (Heap.lt_size e) (I.ok.cab x c hfn hc)))).trans e1⟩
    · by_cases hj : j = i
      · subst hj
        rw [hi] at e1; cases e1
        rw [List.getElem?_set_self hiσ] at e2
        cases e2
        exact ⟨u, r, .inr ⟨.inl hk, c, hc, hc'⟩⟩
      · rw [List.getElem?_set_ne (Ne.symm hj)] at e2
        obtain ⟨u', r', q⟩ := hl j y v' e1 e2 e3
        refine ⟨u', r', ?_⟩
        rcases q with q | ⟨k, c', e, z'⟩
        · exact .inl q
        · refine .inr ⟨k, c', e, z'.sameBut hs ?_⟩
          rintro rfl
          exact hj (nodup_ix hN e1 (I.ok.inj _ _ _ e hc ▸ hi))
    · by_cases hcc : c' = c
      · subst hcc; exact ⟨_, hc'⟩
      · obtain ⟨w2, z2⟩ := I.cell y c' e
        exact ⟨w2, z2.sameBut hs hcc⟩
    · obtain ⟨e, n, ne, nf, d⟩ := I.pin p hp
      refine ⟨(hs.2 p.1 ?_).trans e, n, ne, nf, d⟩
      intro q
      rw [q, hoc] at e
      have q' : oc = p.2 := Option.some.inj e
      exact d w' (by rw [← q']; exact hocd)
theorem store_ok {M : Model} {A : Around} {E : Value → Shared → Prop} {i : Nat} {x : Str} {v : V} {u : Value} {Q : Unit → Shared → Prop} (I : Inv X pins σ H s) (hN : X.N.Nodup) (hi : X.N[i]? = some x) (hx : Loc X.env.scope x) (r : RelV v u)
    (h : ∀ s', Inv X pins (σ.set i (some v)) H s' → Q () s') (hf : X.fn x = true ∨ X.env.scope.names.lookup x = some .local := by first | exact .inl rfl | exact .inr rfl | assumption) : wpAny M A (storeName X.env x u) Q E s :=
  store_ok2 I hN hi hx r (fun s' I' _ => h s' I') hf
theorem Inv.call' {s' : Shared} {ch : List Addr} (I : Inv X pins σ H s) (ho : s'.os = s.os) (u : Un (frs X.stack) ch H H' s.heap s'.heap) (hok : HOk X.prog X.w H' s'.heap) (hg : AllBare s'.gens)
    (hch : ∀ b ∈ ch, (b ∈ X.ex ∨ X.s₀.heap.objs.size ≤ b) ∧ b ≠ X.env.locals ∧ (∀ x c, X.env.cells.lookup x = some c → c ≠ b) ∧ ∀ p ∈ X.pn ++ pins, p.1 ≠ b) : Inv X pins σ H' s' := by
  obtain ⟨h', g', d', t', o'⟩ := s'
  have e : o' = s.os := ho
  subst e
  exact I.call (g' := g') (t' := t') (d' := d') u hok hg hch
end
abbrev XK := Value → Option Addr → Hp → Prop
abbrev St := List (Option V)
abbrev VK := V → Hp → Prop
abbrev TE := St → Hp → VK → Prop
abbrev TT := St → Hp → (Bool → Hp → Prop) → Prop
abbrev TA := St → Hp → (List V → Hp → Prop) → Prop
structure Ends where
  nx : St → Hp → Prop
  rt : VK
  bk : St → Hp → Prop := fun _ _ => False
  ct : St → Hp → Prop := fun _ _ => False
abbrev TS := Ends → St → Hp → Prop
def EP (X : Cx) (pins : List (Addr × Obj)) (σ : St) (Q : VK) (u : Value) (s' : Shared) : Prop := ∃ v H', Inv X pins σ H' s' ∧ RelV v u ∧ Q v H'
def TP (X : Cx) (pins : List (Addr × Obj)) (σ : St) (Q : Bool → Hp → Prop) (b : Bool) (s' : Shared) : Prop := ∃ H', Inv X pins σ H' s' ∧ Q b H'
def AP (X : Cx) (pins : List (Addr × Obj)) (σ : St) (Q : List V → Hp → Prop) (us : List Value) (s' : Shared) : Prop := ∃ vs H', Inv X pins σ H' s' ∧ Vals vs us ∧ Q vs H'
def SP (X : Cx) (pins : List (Addr × Obj)) (D : Ends) (f : Flow) (s' : Shared) : Prop :=
  match f with
  | .next => ∃ σ' H', Inv X pins σ' H' s' ∧ D.nx σ' H'
  | .brk => ∃ σ' H', Inv X pins σ' H' s' ∧ D.bk σ' H'
  | .cont => ∃ σ' H', Inv X pins σ' H' s' ∧ D.ct σ' H'
  | .ret u => ∃ v σ' H', Inv X pins σ' H' s' ∧ RelV v u ∧ D.rt v H'
def PE (X : Cx) (e : Expr) (t : TE) : Prop :=
  ∀ (pins : List (Addr × Obj)) (s : Shared) (σ : St) (H : Hp) (Q : VK), Inv X pins σ H s → t σ H Q → wpAny (model X.prog X.w) X.A (eval e X.env) (EP X pins σ Q) X.xe s
def PT (X : Cx) (e : Expr) (t : TT) : Prop :=
  ∀ (pins : List (Addr × Obj)) (s : Shared) (σ : St) (H : Hp) (Q : Bool → Hp → Prop), Inv X pins σ H s → t σ H Q → wpAny (model X.prog X.w) X.A (isTrue e X.env (eval e X.env)) (TP X pins σ Q) X.xe s
def PW (X : Cx) (e : Expr) (t : TT) : Prop :=
  ∀ (whole : Sem Value) (pins : List (Addr × Obj)) (s : Shared) (σ : St) (H : Hp) (Q : Bool → Hp → Prop), Inv X pins σ H s → t σ H Q → wpAny (model X.prog X.w) X.A (isTrue e X.env whole) (TP X pins σ Q) X.xe s
theorem PW.pt {X : Cx} {e : Expr} {t : TT} (h : PW X e t) : PT X e t := h _
def PA (X : Cx) (es : List Expr) (t : TA) : Prop :=
  ∀ (pos : Pos) (pins : List (Addr × Obj)) (s : Shared) (σ : St) (H : Hp) (Q : List V → Hp → Prop), Inv X pins σ H s → t σ H Q → wpAny (model X.prog X.w) X.A (spliced (backTo pos (starEach es X.env))) (AP X pins σ Q) X.xe s
def PS (X : Cx) (st : Stmt) (t : TS) : Prop :=
  ∀ (pins : List (Addr × Obj)) (s : Shared) (σ : St) (H : Hp) (D : Ends), Inv X pins σ H s → t D σ H → wpAny (model X.prog X.w) X.A (exec st X.env) (SP X pins D) X.xe s
def PSs (X : Cx) (st : List Stmt) (t : TS) : Prop :=
  ∀ (pins : List (Addr × Obj)) (s : Shared) (σ : St) (H : Hp) (D : Ends), Inv X pins σ H s → t D σ H → wpAny (model X.prog X.w) X.A (execs st X.env) (SP X pins D) X.xe s
theorem thn {α : Type} {t : Sem α} {Q Q' : α → Shared → Prop} {M : Model} {A : Around} {E : Value → Shared → Prop} {s : Shared} (h : wpAny M A t Q E s) (hQ : ∀ a s, Q a s → Q' a s) : wpAny M A t Q' E s := wpAny_mono h hQ fun _ _ x => x
end L2
namespace L2
open PySem PySem.Spec PyProof.Rows
section
variable {X : Cx}
def tVar (i : Nat) : TE := fun σ H Q => ∃ v, σ[i]? = some (some v) ∧ Q v H
def tC (v : V) : TE := fun _ H Q => Q v H
theorem pe_var {i : Nat} {x : Str} {pos : Pos} (hN : X.N[i]? = some x) (hv : Vis X.env.scope x) (hd : (x == ("__debug__" : Str)) = false := by decide) (hcd : (x == ("__classdict__" : Str)) = false := by decide) : PE X (.Name x pos) (tVar i) := by
  intro pins s σ H Q I h
  obtain ⟨v, e, h⟩ := h
  obtain ⟨m, hn, hl⟩ := I.loc
  obtain ⟨u, r, l⟩ := hl i x v hN e hv
  have fin : EP X pins σ Q u s := ⟨v, H, I, r, h⟩
  rcases l with ⟨hk, hm⟩ | ⟨hk, c, hc, hcell⟩
  · exact wpAny_Name (wpAny_loadName_local I.ok.kind hk hn hm fin) hd
  · rcases hk with hk | hk
    · exact wpAny_Name (wpAny_loadName_cell I.ok.kind hk hc hcell fin) hd
    · exact wpAny_Name (wpAny_loadName_free I.ok.kind hk hc hcell fin hcd) hd
theorem pe_int {i j pos} : PE X (.Constant (.int i) j pos) (tC (.int i)) := fun _ _ _ H _ I h => wpAny_Constant_int ⟨.int i, H, I.tok _, ⟨_, rfl⟩, h⟩
theorem pe_bl {b j pos} : PE X (.Constant (.bool b) j pos) (tC (.bl b)) := fun _ _ _ H _ I h => Constant_bool ⟨.bl b, H, I, rfl, h⟩
theorem pe_non {j pos} : PE X (.Constant .none j pos) (tC .non) := fun _ _ _ H _ I h => Constant_none ⟨.non, H, I, rfl, h⟩
theorem pe_str {x j pos} : PE X (.Constant (.str x) j pos) (tC (.str x)) := fun _ _ _ H _ I h => Calls.Constant_str ⟨.str x, H, I.tok _, ⟨_, rfl⟩, h⟩
def Gl (X : Cx) (x : Str) : Prop := X.env.kindOf x = some .globalImplicit
theorem ld_glob {E : Value → Shared → Prop} {pins : List (Addr × Obj)} {s : Shared} {σ : St} {H : Hp} {x : Str} {u : Value} {pos : Pos} {Q : Value → Shared → Prop} (I : Inv X pins σ H s) (hg : Gl X x) (hm : X.mg x = some u) (h : Q u s)
    (hd : (x == ("__debug__" : Str)) = false := by decide) : wpAny (model X.prog X.w) X.A (eval (.Name x pos) X.env) Q E s :=
  Calls.Name_function_global I.ok.kind hg (Calls.loadGlobal_global (by rw [I.ok.glob]; exact I.mod.glob.keeps I.bk) hm h) hd
theorem ld_blt {E : Value → Shared → Prop} {pins : List (Addr × Obj)} {s : Shared} {σ : St} {H : Hp} {x : Str} {u : Value} {pos : Pos} {Q : Value → Shared → Prop} (I : Inv X pins σ H s) (hg : Gl X x) (hm : X.mg x = none) (hv : bootBuiltins x = some u) (h : Q u s)
    (hn : x ≠ "__name__" := by decide) (hd : (x == ("__debug__" : Str)) = false := by decide) : wpAny (model X.prog X.w) X.A (eval (.Name x pos) X.env) Q E s := by
  obtain ⟨mb, h1, h2⟩ := I.mod.blt
  exact Calls.Name_function_global I.ok.kind hg (Calls.loadGlobal_builtin (by rw [I.ok.glob]; exact I.mod.glob.keeps I.bk) hm (by rw [I.ok.blt]; exact h1.keeps I.bk) ((h2 x hn).trans hv) h) hd
theorem pe_glob {x : Str} {v : V} {u : Value} {pos : Pos} (hg : Gl X x) (hm : X.mg x = some u) (r : RelV v u) (hd : (x == ("__debug__" : Str)) = false := by decide) : PE X (.Name x pos) (tC v) :=
  fun _ _ _ H _ I h => ld_glob I hg hm ⟨v, H, I, r, h⟩ hd
theorem pe_bltn {x : Str} {v : V} {u : Value} {pos : Pos} (hg : Gl X x) (hm : X.mg x = none) (hv : bootBuiltins x = some u) (r : RelV v u) (hn : x ≠ "__name__" := by decide) (hd : (x == ("__debug__" : Str)) = false := by decide) : PE X (.Name x pos) (tC v) :=
  fun _ _ _ H _ I h => ld_blt I hg hm hv ⟨v, H, I, r, h⟩ hn hd
variable {a b : Expr} {ta tb : TE} {pos : Pos}
def tB (t : TE) : TT := fun σ H Q => t σ H fun x H1 => ∃ c, x = .bl c ∧ Q c H1
theorem pt_val {e : Expr} {t : TE} (h : PE X e t) (he : ∀ whole, isTrue e X.env whole = (do let v ← whole; standAt e.pos; holding [v] (truthy v)) := by intro _; rfl) : PT X e (tB t) := by
  intro pins s σ H Q I hw
  refine isTrue_plain (thn (h pins s σ H _ I hw) fun v s1 ⟨x, H1, I1, r1, q1⟩ => ?_) (he _)
  obtain ⟨d, rfl, q⟩ := q1
  cases r1
  exact wpAny_truthy_bool ⟨H1, I1, q⟩
variable {tA tB' : TT} {rest : List Expr}
def tAnd (t u : TT) : TT := fun σ H Q => t σ H fun c H1 => if c = true then u σ H1 Q else Q false H1
def tOr (t u : TT) : TT := fun σ H Q => t σ H fun c H1 => if c = true then Q true H1 else u σ H1 Q
def tNot (t : TT) : TT := fun σ H Q => t σ H fun c H1 => Q (!c) H1
theorem pw_and1 (ha : PT X a tA) : PW X (.BoolOp .And [a] pos) tA := by
  intro wh pins s σ H Q I h
  refine isTrue_and (thn (ha pins s σ H Q I h) fun c s1 e => ?_)
  cases c with
  | true => exact isTrue_and_nil e
  | false => exact e
theorem pw_or1 (ha : PT X a tA) : PW X (.BoolOp .Or [a] pos) tA := by
  intro wh pins s σ H Q I h
  refine isTrue_or (thn (ha pins s σ H Q I h) fun c s1 e => ?_)
  cases c with
  | false => exact isTrue_or_nil e
  | true => exact e
theorem pw_and (ha : PT X a tA) (hb : PW X (.BoolOp .And (b :: rest) pos) tB') : PW X (.BoolOp .And (a :: b :: rest) pos) (tAnd tA tB') := by
  intro wh pins s σ H Q I h
  refine isTrue_and (thn (ha pins s σ H _ I h) fun c s1 ⟨H1, I1, q1⟩ => ?_)
  cases c with
  | true => exact hb wh pins s1 σ H1 Q I1 q1
  | false => exact ⟨H1, I1, q1⟩
theorem pw_or (ha : PT X a tA) (hb : PW X (.BoolOp .Or (b :: rest) pos) tB') : PW X (.BoolOp .Or (a :: b :: rest) pos) (tOr tA tB') := by
  intro wh pins s σ H Q I h
  refine isTrue_or (thn (ha pins s σ H _ I h) fun c s1 ⟨H1, I1, q1⟩ => ?_)
  cases c with
  | true => exact ⟨H1, I1, q1⟩
  | false => exact hb wh pins s1 σ H1 Q I1 q1
theorem pt_not (ha : PT X a tA) : PT X (.UnaryOp .Not a pos) (tNot tA) := by
  intro pins s σ H Q I h
  exact isTrue_not (ha pins s σ H (fun c H1 => Q (!c) H1) I h)
def tAndV (ta tb : TE) : TE := fun σ H Q => ta σ H fun x H1 => ∃ c, x = .bl c ∧ if c = true then tb σ H1 Q else Q (.bl false) H1
def tOrV (ta tb : TE) : TE := fun σ H Q => ta σ H fun x H1 => ∃ c, x = .bl c ∧ if c = true then Q (.bl true) H1 else tb σ H1 Q
def tNotV (ta : TE) : TE := fun σ H Q => ta σ H fun x H1 => ∃ c, x = .bl c ∧ Q (.bl (!c)) H1
theorem pe_one {op} {t : TE} (h : PE X a t) : PE X (.BoolOp op [a] pos) t := fun pins s σ H Q I hw => BoolOp_one (h pins s σ H Q I hw)
theorem pe_and (ha : PE X a ta) (hb : PE X (.BoolOp .And (b :: rest) pos) tb) : PE X (.BoolOp .And (a :: b :: rest) pos) (tAndV ta tb) := by
  intro pins s σ H Q I h
  refine BoolOp_and (thn (ha pins s σ H _ I h) fun v s1 ⟨x, H1, I1, r1, q1⟩ => ?_)
  obtain ⟨c, rfl, q1⟩ := q1
  cases r1
  refine wpAny_truthy_bool ?_
  cases c with
  | true => exact hb pins s1 σ H1 Q I1 q1
  | false => exact ⟨.bl false, H1, I1, rfl, q1⟩
theorem pe_or (ha : PE X a ta) (hb : PE X (.BoolOp .Or (b :: rest) pos) tb) : PE X (.BoolOp .Or (a :: b :: rest) pos) (tOrV ta tb) := by
  intro pins s σ H Q I h
  refine BoolOp_or (thn (ha pins s σ H _ I h) fun v s1 ⟨x, H1, I1, r1, q1⟩ => ?_)
  obtain ⟨c, rfl, q1⟩ := q1
  cases r1
  refine wpAny_truthy_bool ?_
  cases c with
  | false => exact hb pins s1 σ H1 Q I1 q1
  | true => exact ⟨.bl true, H1, I1, rfl, q1⟩
theorem pe_not (ha : PE X a ta) : PE X (.UnaryOp .Not a pos) (tNotV ta) := by
  intro pins s σ H Q I h
  refine UnaryOp_ (thn (ha pins s σ H _ I h) fun v s1 ⟨x, H1, I1, r1, q1⟩ => ?_)
  obtain ⟨c, rfl, q1⟩ := q1
  cases r1
  exact not_of (wpAny_truthy_bool ⟨.bl (!c), H1, I1, rfl, q1⟩)
end
end L2
namespace L2
open PySem PySem.Spec PyProof.Rows
def SqL (K : PySem.W.Frag) (H : Hp) (a : Addr) (xs : List V) : Prop :=
  Rd H a (.lst xs) ∨
    ∃ (o : Obj) (its : Array Value) (n : Nat), K.lookup a = some o ∧ o.cls = .type "list" ∧ o.dict = none ∧ o.data = .seq its n ∧ its.size ≤ sizeLine ∧ Vals xs its.toList
def SqT (K : PySem.W.Frag) (H : Hp) (a : Addr) (xs : List V) : Prop :=
  Rd H a (.tup xs) ∨
    ∃ (o : Obj) (its : Array Value) (n : Nat), K.lookup a = some o ∧ o.cls = .type "tuple" ∧ o.data = .seq its n ∧ its.size ≤ sizeLine ∧ Vals xs its.toList
def absV : Value → Option V
  | .none => some .non
  | .bool b => some (.bl b)
  | .int i _ => some (.int i)
  | .str x _ => some (.str x)
  | .bytes b _ => some (.byt b)
  | .float b _ => some (.flt b)
  | .ref a => some (.ref a)
  | .type n => some (.ty n)
  | _ => none
theorem RelV.abs {x : V} {u : Value} (r : RelV x u) : absV u = some x := by
  cases x with
  | non => cases r; rfl
  | bl _ => cases r; rfl
  | int _ => obtain ⟨t, rfl⟩ := r; rfl
  | str _ => obtain ⟨t, rfl⟩ := r; rfl
  | byt _ => obtain ⟨t, rfl⟩ := r; rfl
  | flt _ => obtain ⟨t, rfl⟩ := r; rfl
  | ref _ => cases r; rfl
  | ty _ => cases r; rfl
theorem RelV.inj {x y : V} {u : Value} (r : RelV x u) (q : RelV y u) : x = y := Option.some.inj (r.abs.symm.trans q.abs)
theorem Vals.inj : ∀ {xs ys : List V} {us : List Value}, Vals xs us → Vals ys us → xs = ys
  | _, _, _, .nil, .nil => rfl
  | _, _, _, .cons r t, .cons r' t' => by rw [r.inj r', Vals.inj t t']
section
variable {X : Cx} {pins : List (Addr × Obj)} {σ : St} {H : Hp} {s : Shared} {a : Addr} {xs ys : List V}
theorem SqL.of {K : PySem.W.Frag} (h : H a = some (.lst xs)) : SqL K H a xs := .inl (.inl h)
theorem SqT.of {K : PySem.W.Frag} (h : H a = some (.tup xs)) : SqT K H a xs := .inl (.inl h)
theorem Inv.list (I : Inv X pins σ H s) (h : SqL X.K H a xs) : ∃ its : List Value, Vals xs its ∧ PlainL s.heap a its.toArray ∧ xs.length ≤ sizeLine := by
  rcases h with h | ⟨o, its, n, hk, hc, hd, hs, hz, r⟩
  · obtain ⟨z, its, n, r, e⟩ := h.ok I.hok
    exact ⟨its, r, ⟨_, n, e, rfl, rfl, rfl⟩, z⟩
  · refine ⟨its.toList, r, ⟨o, n, I.kIn a o hk, hc, hd, by simpa using hs⟩, ?_⟩
    have e := r.length
    simp only [Array.length_toList] at e
    omega
theorem Inv.tuple (I : Inv X pins σ H s) (h : SqT X.K H a xs) : ∃ its : List Value, Vals xs its ∧ IsTup s.heap a its.toArray ∧ xs.length ≤ sizeLine := by
  rcases h with h | ⟨o, its, n, hk, hc, hs, hz, r⟩
  · obtain ⟨z, its, r, p⟩ := h.ok I.hok
    exact ⟨its, r, p, z⟩
  · refine ⟨its.toList, r, ⟨o, I.kIn a o hk, hc, n, by simpa using hs⟩, ?_⟩
    have e := r.length
    simp only [Array.length_toList] at e
    omega
theorem Inv.list_inj (I : Inv X pins σ H s) (h : SqL X.K H a xs) (h' : SqL X.K H a ys) : xs = ys := by
  obtain ⟨its, r, ⟨o, n, e, _, _, d⟩, _⟩ := I.list h
  obtain ⟨its', r', ⟨o', n', e', _, _, d'⟩, _⟩ := I.list h'
  rw [e] at e'; cases e'
  rw [d] at d'
  injection d' with d1 _
  have : its = its' := by simpa using congrArg Array.toList d1
  subst this
  exact r.inj r'
theorem Inv.tuple_inj (I : Inv X pins σ H s) (h : SqT X.K H a xs) (h' : SqT X.K H a ys) : xs = ys := by
  obtain ⟨its, r, ⟨o, e, _, n, d⟩, _⟩ := I.tuple h
  obtain ⟨its', r', ⟨o', e', _, n', d'⟩, _⟩ := I.tuple h'
  rw [e] at e'; cases e'
  rw [d] at d'
  injection d' with d1 _
  have : its = its' := by simpa using congrArg Array.toList d1
  subst this
  exact r.inj r'
end
abbrev Cx.wish (X : Cx) (E : Value → Shared → Prop) : Cx := { X with xe := E }
abbrev Cx.nox (X : Cx) : Cx := X.wish fun _ _ => False
theorem Cx.Ok.wish {X : Cx} (ok : X.Ok) (E : Value → Shared → Prop) : (X.wish E).Ok :=
  ⟨ok.mod, ok.kind, ok.glob, ok.blt, ok.above, ok.inj, ok.has, ok.cab, ok.hd, ok.frames, ok.stk, ok.exf, ok.bs, ok.bsz, ok.noex, ok.exfs, ok.funs, ok.frf⟩
theorem Cx.Ok.unwish {X : Cx} {E : Value → Shared → Prop} (ok : (X.wish E).Ok) : X.Ok :=
  ⟨ok.mod, ok.kind, ok.glob, ok.blt, ok.above, ok.inj, ok.has, ok.cab, ok.hd, ok.frames, ok.stk, ok.exf, ok.bs, ok.bsz, ok.noex, ok.exfs, ok.funs, ok.frf⟩
section
variable {X : Cx} {pins : List (Addr × Obj)} {σ : St} {H : Hp} {s : Shared} {E : Value → Shared → Prop}
theorem Inv.wish (I : Inv X pins σ H s) (E : Value → Shared → Prop) : Inv (X.wish E) pins σ H s := ⟨I.ok.wish E, I.os, I.bare, I.base, I.loc, I.cell, I.free, I.freeC, I.pin, I.hok, I.len⟩
theorem Inv.unwish (I : Inv (X.wish E) pins σ H s) : Inv X pins σ H s := ⟨I.ok.unwish, I.os, I.bare, I.base, I.loc, I.cell, I.free, I.freeC, I.pin, I.hok, I.len⟩
theorem SP.unwish {D : Ends} {f : Flow} {s' : Shared} (h : SP (X.wish E) pins D f s') : SP X pins D f s' := by
  cases f with
  | next => obtain ⟨σ', H', I, q⟩ := h; exact ⟨σ', H', I.unwish, q⟩
  | brk => obtain ⟨σ', H', I, q⟩ := h; exact ⟨σ', H', I.unwish, q⟩
  | cont => obtain ⟨σ', H', I, q⟩ := h; exact ⟨σ', H', I.unwish, q⟩
  | ret u => obtain ⟨v, σ', H', I, r, q⟩ := h; exact ⟨v, σ', H', I.unwish, r, q⟩
theorem PSs.nox {st : List Stmt} {t : TS} (h : PSs X.nox st t) : PSs X st t := fun pins s σ H D I hw =>
  wpAny_mono (h pins s σ H D (I.wish _) hw) (fun _ _ q => q.unwish) fun _ _ z => False.elim z
end
section
variable {X : Cx} {st : Stmt} {rest : List Stmt} {t u : TS} {e : Expr} {te : TE} {pos : Pos}
def tNext : TS := fun D σ H => D.nx σ H
def tSeq (t u : TS) : TS := fun D σ H => t { D with nx := u D } σ H
theorem pss_nil : PSs X [] tNext := fun _ _ σ H _ I h => wpAny_execs_nil ⟨σ, H, I, h⟩
theorem pss_cons (h1 : PS X st t) (h2 : PSs X rest u) : PSs X (st :: rest) (tSeq t u) := by
  intro pins s σ H D I h
  refine wpAny_execs_cons (thn (h1 pins s σ H { D with nx := u D } I h) fun f s1 q => ?_)
  cases f with
  | next =>
    obtain ⟨σ', H', I', q⟩ := q
    exact h2 pins s1 σ' H' D I' q
  | ret v => exact q
  | brk => exact q
  | cont => exact q
theorem pss_one (h1 : PS X st t) : PSs X [st] t := by
  intro pins s σ H D I h
  refine wpAny_execs_cons (thn (h1 pins s σ H D I h) fun f s1 q => ?_)
  cases f with
  | next => exact wpAny_execs_nil q
  | ret v => exact q
  | brk => exact q
  | cont => exact q
theorem Inv.quiet {pins : List (Addr × Obj)} {σ : St} {H : Hp} {s : Shared} (I : Inv X pins σ H s) : interactive X.env = false := by simp [interactive, I.ok.kind]
def tDrop (te : TE) : TS := fun D σ H => te σ H fun _ H1 => D.nx σ H1
theorem ps_expr (he : PE X e te) (hs : swapsWith e none pos.line X.env = pure false := by rfl) : PS X (.Expr e pos) (tDrop te) := by
  intro pins s σ H D I h
  exact wpAny_Expr_any (thn (he pins s σ H _ I h) fun v s1 ⟨x, H1, I1, r1, q1⟩ => ⟨σ, H1, I1, q1⟩) I.quiet hs
def tRet (te : TE) : TS := fun D σ H => te σ H D.rt
theorem ps_ret (he : PE X e te) : PS X (.Return (some e) pos) (tRet te) := by
  intro pins s σ H D I h
  exact wpAny_Return_some (thn (he pins s σ H _ I h) fun v s1 ⟨x, H1, I1, r1, q1⟩ => ⟨x, σ, H1, I1, r1, q1⟩)
def tIfS (c : TT) (t u : TS) : TS := fun D σ H => c σ H fun b H1 => if b = true then t D σ H1 else u D σ H1
theorem ps_if {c : Expr} {a b : List Stmt} {tc : TT} (hc : PT X c tc) (ha : PSs X a t) (hb : PSs X b u) : PS X (.If c a b pos) (tIfS tc t u) := by
  intro pins s σ H D I h
  refine wpAny_If (thn (hc pins s σ H _ I h) fun d s1 ⟨H1, I1, q1⟩ => ?_)
  cases d with
  | true => exact ha pins s1 σ H1 D I1 q1
  | false => exact hb pins s1 σ H1 D I1 q1
def tNever : TS := fun _ _ _ => False
theorem pss_never {sts : List Stmt} : PSs X sts tNever := fun _ _ _ _ _ _ h => h.elim
end
abbrev TG := V → St → Hp → (St → Hp → Prop) → Prop
def PG (X : Cx) (target : Expr) (t : TG) : Prop :=
  ∀ (pins : List (Addr × Obj)) (s : Shared) (σ : St) (H : Hp) (v : V) (u : Value) (Q : St → Hp → Prop), Inv X pins σ H s → RelV v u → t v σ H Q →
    wpAny (model X.prog X.w) X.A (assign target X.env u) (fun _ s' => ∃ σ' H', Inv X pins σ' H' s' ∧ Q σ' H') X.xe s
section
variable {X : Cx} {pos : Pos}
def gName (i : Nat) : TG := fun v σ H Q => Q (σ.set i (some v)) H
theorem pg_name {i : Nat} {x : Str} (hN : X.N.Nodup) (hi : X.N[i]? = some x) (hx : Loc X.env.scope x) (hf : X.fn x = true ∨ X.env.scope.names.lookup x = some .local := by first | exact .inl rfl | exact .inr rfl | assumption) : PG X (.Name x pos) (gName i) := by
  intro pins s σ H v u Q I r h
  exact wpAny_assign_Name (store_ok I hN hi hx r (fun s' I' => ⟨_, H, I', h⟩) hf)
def tAsg (te : TE) (g : TG) : TS := fun D σ H => te σ H fun x H1 => g x σ H1 D.nx
theorem ps_set {i : Nat} {x : Str} {e : Expr} {te : TE} {pos' : Pos} (hN : X.N.Nodup) (hi : X.N[i]? = some x) (hx : Loc X.env.scope x) (he : PE X e te) (hs : swapsWith e (some (.Name x pos')) pos.line X.env = pure false := by rfl) (hf : X.fn x = true ∨ X.env.scope.names.lookup x = some .local := by first | exact .inl rfl | exact .inr rfl | assumption) :
    PS X (.Assign [.Name x pos'] e pos) (tAsg te (gName i)) := by
  intro pins s σ H D I h
  refine wpAny_Assign_Name (thn (he pins s σ H _ I h) fun v s1 ⟨y, H1, I1, r1, q1⟩ => ?_) hs
  exact store_ok I1 hN hi hx r1 (fun s2 I2 => ⟨_, H1, I2, q1⟩) hf
end
section
variable {X : Cx} {pos : Pos}
def tWhile (c : TT) (tb : TS) : TS := fun D σ H => ∃ W : Nat → St → Hp → Prop, (∃ m, W m σ H) ∧ ∀ m σ H, W m σ H →
  c σ H fun b H1 => if b = true then ∃ N : St → Hp → Prop, (∀ σ' H', N σ' H' → ∃ m', m' < m ∧ W m' σ' H') ∧ tb { D with nx := N, ct := N, bk := D.nx } σ H1 else D.nx σ H1
theorem ps_while {c : Expr} {body : List Stmt} {tc : TT} {tb : TS} (hp : PassesOwn (model X.prog X.w) X.A X.env X.xe) (hc : PT X c tc) (hb : PSs X body tb) : PS X (.While c body [] pos) (tWhile tc tb) := by
  intro pins s σ H D I h
  obtain ⟨W, ⟨m0, w0⟩, turn⟩ := h
  refine wpAny_While (codeAny_whileLoop (fun n s' => ∃ σ' H', Inv X pins σ' H' s' ∧ W n σ' H') ?_ m0 ⟨σ, H, I, w0⟩)
  rintro n s1 ⟨σ1, H1, I1, w1⟩
  refine wpAny_passesOwn hp (thn (hc pins s1 σ1 H1 _ I1 (turn n σ1 H1 w1)) fun b s2 ⟨H2, I2, q2⟩ => ?_)
  cases b with
  | true =>
    obtain ⟨N, hN, q2⟩ := q2
    rw [if_pos rfl]
    refine wpAny_passesOwn hp (thn (hb pins s2 σ1 H2 _ I2 q2) fun f s3 q3 => ?_)
    cases f with
    | next =>
      obtain ⟨σ3, H3, I3, n3⟩ := q3
      obtain ⟨m', hm, w3⟩ := hN σ3 H3 n3
      exact ⟨m', hm, σ3, H3, I3, w3⟩
    | cont =>
      obtain ⟨σ3, H3, I3, n3⟩ := q3
      obtain ⟨m', hm, w3⟩ := hN σ3 H3 n3
      exact ⟨m', hm, σ3, H3, I3, w3⟩
    | brk => exact q3
    | ret v => exact q3
  | false =>
    rw [if_neg Bool.false_ne_true]
    exact wpAny_execs_nil ⟨σ1, H2, I2, q2⟩
end
structure It where
  go : Nat → Hp → Prop
  yld : Nat → Hp → V → Hp → Prop
  stop : Nat → Hp → Prop
def FpOk (X : Cx) (pins : List (Addr × Obj)) (H : Hp) (b : Addr) : Prop :=
  H b = none ∧ b ≠ X.env.locals ∧ b ∉ X.fs ∧ (b ∈ X.ex ∨ X.s₀.heap.objs.size ≤ b) ∧ (∀ x c, X.env.cells.lookup x = some c → c ≠ b) ∧ ∀ p ∈ X.pn ++ pins, p.1 ≠ b
theorem Inv.fpOk {X : Cx} {pins : List (Addr × Obj)} {σ : St} {H H' : Hp} {s : Shared} {b : Addr} (I : Inv X pins σ H s) (hb : s.heap.objs.size ≤ b) (hn : H' b = none) : FpOk X pins H' b := by
  refine ⟨hn, Nat.ne_of_gt (Nat.lt_of_lt_of_le I.lt hb), I.nofs hb, .inr (Nat.le_trans I.sz hb), fun x c e z => ?_, fun p hp z => ?_⟩
  · obtain ⟨v, q⟩ := I.cell x c e
    exact absurd (Nat.lt_of_lt_of_le q.lt (by rw [z]; exact hb)) (Nat.lt_irrefl _)
  · exact absurd (Nat.lt_of_lt_of_le (Heap.lt_size (I.pin p hp).1) (by rw [z]; exact hb)) (Nat.lt_irrefl _)
structure Turn (P : Program) (w : World) (K : PySem.W.Frag) (tg : Expr) (J : It) (fp : List Addr) (it : Addr) (tn : Nat → Heap → Prop) : Prop where
  mem : it ∈ fp
  obj : ∀ i h, tn i h → ∀ b ∈ fp, ∃ o, h.get? b = some o ∧ ∀ v, o.data ≠ .cell v
  keep : ∀ i h h', tn i h → (∀ b ∈ fp, ∀ o, h.get? b = some o → h'.get? b = some o) → tn i h'
  item : ∀ (X : Cx), X.prog = P → X.w = w → X.K = K → X.calm = true → ∀ (i : Nat) (pins : List (Addr × Obj)) (s : Shared) (σ : St) (H : Hp) (E : Value → Shared → Prop), Inv X pins σ H s → (∀ b ∈ fp, FpOk X pins H b) → tn i s.heap → J.go i H →
    wpAny (model P w) X.A (pyNext (.ref it)) (fun r s1 => ∃ u, r = some u ∧
      wpAny (model P w) X.A (letOwnedTupleGo tg (.ref it) u) (fun _ s2 => ∃ x H', Inv X pins σ H' s2 ∧ RelV x u ∧ J.yld i H x H' ∧ tn (i + 1) s2.heap ∧ ∀ b ∈ fp, H' b = none) E s1) E s
  done : ∀ (X : Cx), X.prog = P → X.w = w → X.K = K → X.calm = true → ∀ (i : Nat) (pins : List (Addr × Obj)) (s : Shared) (σ : St) (H : Hp) (E : Value → Shared → Prop), Inv X pins σ H s → (∀ b ∈ fp, FpOk X pins H b) → tn i s.heap → J.stop i H →
    wpAny (model P w) X.A (pyNext (.ref it)) (fun r s1 => r = none ∧ Inv X pins σ H s1) E s
  self : ∀ (A : Around) (i : Nat) (s : Shared) (Q : Value → Shared → Prop) (E : Value → Shared → Prop), tn i s.heap → Q (.ref it) s → wpAny (model P w) A (pyIter (.ref it)) Q E s
abbrev TI := St → Hp → (It → Hp → Prop) → Prop
def PIE (X : Cx) (pins : List (Addr × Obj)) (σ : St) (tg : Expr) (R : It → Hp → Prop) (itv : Value) (s2 : Shared) : Prop :=
  ∃ (it : Addr) (fp : List Addr) (tn : Nat → Heap → Prop) (J : It) (H' : Hp), itv = .ref it ∧ Inv X pins σ H' s2 ∧ Turn X.prog X.w X.K tg J fp it tn ∧ tn 0 s2.heap ∧ (∀ b ∈ fp, FpOk X pins H' b) ∧ R J H'
def PI (X : Cx) (tg iter : Expr) (wi : TI) : Prop :=
  ∀ (pins : List (Addr × Obj)) (s : Shared) (σ : St) (H : Hp) (R : It → Hp → Prop), Inv X pins σ H s → wi σ H R →
    wpAny (model X.prog X.w) X.A (eval iter X.env) (fun v s1 => wpAny (model X.prog X.w) X.A (pyIter v) (PIE X pins σ tg R) X.xe s1) X.xe s
theorem go_of {M : Model} {A : Around} {E : Value → Shared → Prop} {s : Shared} {tg : Expr} {it : Addr} {u : Value} {o : Obj} {n : String} {vs : Array Value} {Q : Unit → Shared → Prop} (ho : s.heap.get? it = some o) (hc : o.cls = .type n) (hd : o.data = .fields vs)
    (hn : ["enumerate", "zip", "dict_itemiterator", "dict_reverseitemiterator", "odict_iterator", "itertools.zip_longest", "itertools.pairwise"].contains n = false) (hQ : Q () s) : wpAny M A (letOwnedTupleGo tg (.ref it) u) Q E s := by
  unfold letOwnedTupleGo
  cases tg <;> first
    | exact wpAny_pure hQ
    | (cases u <;> first
        | exact wpAny_pure hQ
        | (refine wpAny_bind (wpAny_load ho ?_)
           rw [hc, hd]
           show wpAny M A (if (["enumerate", "zip", "dict_itemiterator", "dict_reverseitemiterator", "odict_iterator", "itertools.zip_longest", "itertools.pairwise"].contains n && vs[0]? == some (rawInt _)) = true then _ else _) Q E s
           rw [if_neg (by intro h; rw [hn, Bool.false_and] at h; cases h)]
           exact wpAny_pure hQ))
def Itl (K : PySem.W.Frag) (a : Addr) : It :=
  ⟨fun i H => ∃ xs x, SqL K H a xs ∧ xs[i]? = some x, fun i H x H' => H' = H ∧ ∀ xs, SqL K H a xs → xs[i]? = some x, fun i H => ∃ xs, SqL K H a xs ∧ xs.length ≤ i⟩
def Itt (K : PySem.W.Frag) (a : Addr) : It :=
  ⟨fun i H => ∃ xs x, SqT K H a xs ∧ xs[i]? = some x, fun i H x H' => H' = H ∧ ∀ xs, SqT K H a xs → xs[i]? = some x, fun i H => ∃ xs, SqT K H a xs ∧ xs.length ≤ i⟩
def Itr (lo : Int) (n : Nat) : It := ⟨fun i _ => i < n, fun i H x H' => H' = H ∧ x = .int (lo + i), fun i _ => n ≤ i⟩
theorem turn_list {P : Program} {w : World} {K : PySem.W.Frag} {tg : Expr} (a it : Addr) : Turn P w K tg (Itl K a) [it] it (fun i h => h.IsListIter it a i) where
  mem := by simp
  obj := fun i h st b hb => by
    have e : b = it := by simpa using hb
    subst e
    obtain ⟨o, e, c, d⟩ := st
    exact ⟨o, e, fun v z => by rw [d] at z; cases z⟩
  keep := fun i h h' st k => st.at fun o e => k it (by simp) o e
  item := by
    intro X hP hw hK hc i pins s σ H E I hf st hg
    subst hP hw hK
    obtain ⟨xs, x, hq, hx⟩ := hg
    obtain ⟨its, rv, p, hz⟩ := I.list hq
    obtain ⟨u, hu, ru⟩ := rv.get hx
    obtain ⟨f0, f1, f2, f3, f4, f5⟩ := hf it (by simp)
    refine wpAny_pyNext_list_item st p.isList (x := u) (by simpa using hu) fun h' st' sb => ?_
    have I1 : Inv X pins σ H { s with heap := h' } := I.turned (t' := s.toks) (fun b o hb e => (sb.2 b hb).trans e) f0 f1 f3 f4 f5
    obtain ⟨o, e, c, d⟩ := id st'
    exact ⟨u, rfl, go_of (s := { s with heap := h' }) e c d (by decide) ⟨x, H, I1, ru, ⟨rfl, fun ys hy => by rw [I.list_inj hy hq]; exact hx⟩, st', fun b hb => (hf b hb).1⟩⟩
  done := by
    intro X hP hw hK hc i pins s σ H E I hf st hg
    subst hP hw hK
    obtain ⟨xs, hq, hx⟩ := hg
    obtain ⟨its, rv, p, hz⟩ := I.list hq
    obtain ⟨f0, f1, f2, f3, f4, f5⟩ := hf it (by simp)
    have hl := rv.length
    exact wpAny_pyNext_list_end (I.ok.hd hc) st p.isList (by simp; omega) fun h' eb => ⟨rfl, I.turned (t' := s.toks) (fun b o hb e => eb b o hb e) f0 f1 f3 f4 f5⟩
  self := fun _ _ _ _ _ st h => wpAny_pyIter_listiter st h
theorem turn_tuple {P : Program} {w : World} {K : PySem.W.Frag} {tg : Expr} (a it : Addr) : Turn P w K tg (Itt K a) [it] it (fun i h => h.IsTupleIter it a i) where
  mem := by simp
  obj := fun i h st b hb => by
    have e : b = it := by simpa using hb
    subst e
    obtain ⟨o, e, c, d⟩ := st
    exact ⟨o, e, fun v z => by rw [d] at z; cases z⟩
  keep := fun i h h' st k => st.at fun o e => k it (by simp) o e
  item := by
    intro X hP hw hK hc i pins s σ H E I hf st hg
    subst hP hw hK
    obtain ⟨xs, x, hq, hx⟩ := hg
    obtain ⟨its, rv, p, hz⟩ := I.tuple hq
    obtain ⟨u, hu, ru⟩ := rv.get hx
    obtain ⟨f0, f1, f2, f3, f4, f5⟩ := hf it (by simp)
    refine wpAny_pyNext_tuple_item st (show s.heap.IsTuple a its.toArray from p) (x := u) (by simpa using hu) fun h' st' sb => ?_
    have I1 : Inv X pins σ H { s with heap := h' } := I.turned (t' := s.toks) (fun b o hb e => (sb.2 b hb).trans e) f0 f1 f3 f4 f5
    obtain ⟨o, e, c, d⟩ := id st'
    exact ⟨u, rfl, go_of (s := { s with heap := h' }) e c d (by decide) ⟨x, H, I1, ru, ⟨rfl, fun ys hy => by rw [I.tuple_inj hy hq]; exact hx⟩, st', fun b hb => (hf b hb).1⟩⟩
  done := by
    intro X hP hw hK hc i pins s σ H E I hf st hg
    subst hP hw hK
    obtain ⟨xs, hq, hx⟩ := hg
    obtain ⟨its, rv, p, hz⟩ := I.tuple hq
    obtain ⟨f0, f1, f2, f3, f4, f5⟩ := hf it (by simp)
    have hl := rv.length
    exact wpAny_pyNext_tuple_end (I.ok.hd hc) st (show s.heap.IsTuple a its.toArray from p) (by simp; omega) fun h' eb => ⟨rfl, I.turned (t' := s.toks) (fun b o hb e => eb b o hb e) f0 f1 f3 f4 f5⟩
  self := fun _ _ _ _ _ st h => wpAny_pyIter_tupleiter st h
theorem turn_range {P : Program} {w : World} {K : PySem.W.Frag} {tg : Expr} (it : Addr) (lo : Int) (n : Nat) : Turn P w K tg (Itr lo n) [it] it (fun i h => IsRangeIter h it (lo + (i : Nat) * 1) ((n : Int) - (i : Nat)) 1) where
  mem := by simp
  obj := fun i h st b hb => by
    have e : b = it := by simpa using hb
    subst e
    exact ⟨_, st, fun v z => by
      have z' : Data.fields _ = Data.cell v := z
      cases z'⟩
  keep := fun i h h' st k => k it (by simp) _ st
  item := by
    intro X hP hw hK hc i pins s σ H E I hf st hg
    subst hP hw hK
    obtain ⟨f0, f1, f2, f3, f4, f5⟩ := hf it (by simp)
    have W := Walks.range (prog := X.prog) (w := X.w) (I.ok.hd hc) it lo 1 n
    refine W.item i s _ _ hg st fun v h' tk hv st' kk => ?_
    obtain ⟨t, rfl⟩ := hv
    have I1 : Inv X pins σ H { s with heap := h', toks := tk } := I.turned (fun b o hb e => kk b o (by simpa using hb) e) f0 f1 f3 f4 f5
    refine ⟨_, rfl, go_of (s := { s with heap := h', toks := tk }) (n := "range_iterator") st' rfl rfl (by decide) ⟨.int (lo + i), H, I1, ⟨t, ?_⟩, ⟨rfl, rfl⟩, st', fun b hb => (hf b hb).1⟩⟩
    rw [Int.mul_one]
  done := by
    intro X hP hw hK hc i pins s σ H E I hf st hg
    subst hP hw hK
    obtain ⟨f0, f1, f2, f3, f4, f5⟩ := hf it (by simp)
    exact wpAny_pyNext_range_end (I.ok.hd hc) st (by have : n ≤ i := hg; omega) fun h' eb => ⟨rfl, I.turned (t' := s.toks) (fun b o hb e => eb b o hb e) f0 f1 f3 f4 f5⟩
  self := fun _ _ _ _ _ st h => wpAny_pyIter_rangeiter st h
end L2
namespace L2
open PySem PySem.Spec PyProof.Rows
section
variable {X : Cx} {tg : Expr}
def iList (K : PySem.W.Frag) (tl : TE) : TI := fun σ H R => tl σ H fun x H1 => ∃ a, x = .ref a ∧ (∃ xs, SqL K H1 a xs) ∧ R (Itl K a) H1
def iTup (K : PySem.W.Frag) (tl : TE) : TI := fun σ H R => tl σ H fun x H1 => ∃ a, x = .ref a ∧ (∃ xs, SqT K H1 a xs) ∧ R (Itt K a) H1
theorem pi_list {l : Expr} {tl : TE} (hl : PE X l tl) : PI X tg l (iList X.K tl) := by
  intro pins s σ H R I h
  refine thn (hl pins s σ H _ I h) fun v s1 ⟨x, H1, I1, r1, q1⟩ => ?_
  obtain ⟨a, e, ⟨xs, hq⟩, q⟩ := q1
  subst e
  cases r1
  obtain ⟨its, rv, p, hz⟩ := I1.list hq
  refine wpAny_pyIter_list p.isList ?_
  refine ⟨s1.heap.objs.size, [s1.heap.objs.size], _, _, H1, rfl, I1.kept (t' := s1.toks) fun b o e => Heap.get?_push_of_some _ e, turn_list a _, ⟨_, Heap.get?_push_size _ rfl, rfl, rfl⟩, fun b hb => ?_, q⟩
  have e : b = s1.heap.objs.size := by simpa using hb
  subst e
  exact I1.fpOk (Nat.le_refl _) (I1.hok.fresh (Nat.le_refl _))
theorem pi_tup {l : Expr} {tl : TE} (hl : PE X l tl) : PI X tg l (iTup X.K tl) := by
  intro pins s σ H R I h
  refine thn (hl pins s σ H _ I h) fun v s1 ⟨x, H1, I1, r1, q1⟩ => ?_
  obtain ⟨a, e, ⟨xs, hq⟩, q⟩ := q1
  subst e
  cases r1
  obtain ⟨its, rv, p, hz⟩ := I1.tuple hq
  refine wpAny_pyIter_tuple (show s1.heap.IsTuple a its.toArray from p) ?_
  refine ⟨s1.heap.objs.size, [s1.heap.objs.size], _, _, H1, rfl, I1.kept (t' := s1.toks) fun b o e => Heap.get?_push_of_some _ e, turn_tuple a _, ⟨_, Heap.get?_push_size _ rfl, rfl, rfl⟩, fun b hb => ?_, q⟩
  have e : b = s1.heap.objs.size := by simpa using hb
  subst e
  exact I1.fpOk (Nat.le_refl _) (I1.hok.fresh (Nat.le_refl _))
theorem range_it {pins : List (Addr × Obj)} {σ : St} {H : Hp} {s : Shared} {R : It → Hp → Prop} {E : Value → Shared → Prop} {lo hi : Int} {t u v : Tok} {tk : Nat} (I : Inv X pins σ H s) (h1 : -(2 ^ 62) ≤ lo) (h2 : lo < 2 ^ 62) (h3 : -(2 ^ 62) ≤ hi) (h4 : hi < 2 ^ 62)
    (q : R (Itr lo (hi - lo).toNat) H) : wpAny (model X.prog X.w) X.A (pyIter (.ref s.heap.objs.size)) (PIE X pins σ tg R) E { s with heap := s.heap.push { cls := .type "range", data := .fields #[.int lo t, .int hi u, .int 1 v] }, toks := tk } := by
  refine wpAny_pyIter_range (IsRange.new ..) (small_one h1 h2 h3 h4) ?_
  have I1 : Inv X pins σ H { s with heap := s.heap.push { cls := .type "range", data := .fields #[.int lo t, .int hi u, .int 1 v] }, toks := tk } := I.kept fun b o e => Heap.get?_push_of_some _ e
  refine ⟨(s.heap.push { cls := .type "range", data := .fields #[.int lo t, .int hi u, .int 1 v] }).objs.size, [(s.heap.push { cls := .type "range", data := .fields #[.int lo t, .int hi u, .int 1 v] }).objs.size], _, _, H, rfl,
    I1.kept (t' := tk) fun b o e => Heap.get?_push_of_some _ e, turn_range _ lo (hi - lo).toNat, ?_, fun b hb => ?_, q⟩
  · have e1 : lo + ((0 : Nat) : Int) * 1 = lo := by simp
    have e2 : (((hi - lo).toNat : Nat) : Int) - ((0 : Nat) : Int) = Builtin.Range.rangeSize lo hi 1 := by rw [rangeSize_one]; split <;> omega
    show IsRangeIter _ _ (lo + ((0 : Nat) : Int) * 1) ((((hi - lo).toNat : Nat) : Int) - ((0 : Nat) : Int)) 1
    rw [e1, e2]
    exact Heap.get?_push_size _ rfl
  · have e : b = (s.heap.push { cls := .type "range", data := .fields #[.int lo t, .int hi u, .int 1 v] }).objs.size := by simpa using hb
    subst e
    exact I1.fpOk (Nat.le_refl _) (I1.hok.fresh (Nat.le_refl _))
def iRng1 (ta : TA) : TI := fun σ H R => ta σ H fun vs H1 => ∃ j : Int, vs = [.int j] ∧ -(2 ^ 62) ≤ j ∧ j < 2 ^ 62 ∧ R (Itr 0 j.toNat) H1
def iRng2 (ta : TA) : TI := fun σ H R => ta σ H fun vs H1 => ∃ i j : Int, vs = [.int i, .int j] ∧ (-(2 ^ 62) ≤ i ∧ i < 2 ^ 62 ∧ -(2 ^ 62) ≤ j ∧ j < 2 ^ 62) ∧ R (Itr i (j - i).toNat) H1
theorem pi_range1 {a : Expr} {ta : TA} {p pos : Pos} (hg : Gl X "range") (hm : X.mg "range" = none) (ha : PA X [a] ta) (hs : starEach [a] X.env = [(false, eval a X.env)] := by rfl) : PI X tg (.Call (.Name "range" p) [a] [] pos) (iRng1 ta) := by
  intro pins s σ H R I h
  refine Call_ (ld_blt I hg hm boot_range (PyProof.Rows.callWith_type1 (thn (ha pos pins s σ H _ I h) fun us s1 ⟨vs, H1, I1, r1, q1⟩ => ?_) hs rfl))
  obtain ⟨j, e, q1, q2, q⟩ := q1
  subst e
  cases r1 with
  | cons r rr =>
    cases rr
    obtain ⟨t, rfl⟩ := r
    exact call_range_1 (range_it I1 (by omega) (by omega) q1 q2 (by simpa using q))
theorem pi_range2 {a b : Expr} {ta : TA} {p pos : Pos} (hg : Gl X "range") (hm : X.mg "range" = none) (ha : PA X [a, b] ta) (hs : starEach [a, b] X.env = [(false, eval a X.env), (false, eval b X.env)] := by rfl) (hs2 : starEach [b] X.env = [(false, eval b X.env)] := by rfl) :
    PI X tg (.Call (.Name "range" p) [a, b] [] pos) (iRng2 ta) := by
  intro pins s σ H R I h
  refine Call_ (ld_blt I hg hm boot_range (PyProof.Rows.callWith_type1 (thn (ha pos pins s σ H _ I h) fun us s1 ⟨vs, H1, I1, r1, q1⟩ => ?_) (by rw [hs, hs2]) (by rw [hs2]; rfl)))
  obtain ⟨i, j, e, ⟨q1, q2, q3, q4⟩, q⟩ := q1
  subst e
  cases r1 with
  | cons r rr =>
    cases rr with
    | cons r' rr =>
      cases rr
      obtain ⟨t, rfl⟩ := r
      obtain ⟨t', rfl⟩ := r'
      exact call_range_2 (range_it I1 q1 q2 q3 q4 q)
def tFor (wi : TI) (g : TG) (tb : TS) : TS := fun D σ H => wi σ H fun J H1 => ∃ W : Nat → Nat → St → Hp → Prop, (∃ m, W 0 m σ H1) ∧ ∀ i m σ H, W i m σ H →
  (J.stop i H ∧ D.nx σ H) ∨ (J.go i H ∧ ∃ N : St → Hp → Prop, (∀ σ' H', N σ' H' → ∃ m', m' < m ∧ W (i + 1) m' σ' H') ∧ ∀ x H', J.yld i H x H' → g x σ H' fun σ2 H2 => tb { D with nx := N, ct := N, bk := D.nx } σ2 H2)
def pinsAt (fp : List Addr) (h : Heap) : List (Addr × Obj) := fp.filterMap fun b => (h.get? b).map fun o => (b, o)
theorem mem_pinsAt {fp : List Addr} {h : Heap} {b : Addr} {o : Obj} (hb : b ∈ fp) (e : h.get? b = some o) : (b, o) ∈ pinsAt fp h := List.mem_filterMap.mpr ⟨b, hb, by rw [e]; rfl⟩
theorem of_pinsAt {fp : List Addr} {h : Heap} {p : Addr × Obj} (hp : p ∈ pinsAt fp h) : p.1 ∈ fp ∧ h.get? p.1 = some p.2 := by
  obtain ⟨b, hb, e⟩ := List.mem_filterMap.mp hp
  cases q : h.get? b with
  | none => rw [q] at e; cases e
  | some o =>
    rw [q] at e
    have e' : (b, o) = p := Option.some.inj e
    subst e'
    exact ⟨hb, q⟩
theorem Inv.pinned {pins : List (Addr × Obj)} {σ : St} {H : Hp} {s : Shared} {fp : List Addr} (I : Inv X pins σ H s) (hf : ∀ b ∈ fp, FpOk X pins H b) (ho : ∀ b ∈ fp, ∃ o, s.heap.get? b = some o ∧ ∀ v, o.data ≠ .cell v) : Inv X (pins ++ pinsAt fp s.heap) σ H s :=
  I.pins_of fun p hp => (List.mem_append.mp hp).elim (fun z => I.pin p (List.mem_append_right _ z)) fun z => by
    obtain ⟨hb, e⟩ := of_pinsAt z
    obtain ⟨f0, f1, f2, _⟩ := hf p.1 hb
    obtain ⟨o, e', d⟩ := ho p.1 hb
    rw [e] at e'; cases e'
    exact ⟨e, f0, f1, f2, d⟩
theorem Inv.unpinned {pins pl : List (Addr × Obj)} {σ : St} {H : Hp} {s : Shared} (I : Inv X (pins ++ pl) σ H s) : Inv X pins σ H s := I.pins_of fun p hp => I.pin p (List.mem_append_right _ (List.mem_append_left _ hp))
theorem ps_for {iter : Expr} {body : List Stmt} {wi : TI} {g : TG} {tb : TS} {pos : Pos} (hp : PassesOwn (model X.prog X.w) X.A X.env X.xe) (hc : X.calm = true) (hi : PI X tg iter wi) (hg : PG X tg g) (hb : PSs X body tb)
    (hs : ∀ x, foldedSetIterable iter X.env x = pure x := by intro _; rfl) : PS X (.For tg iter body [] pos) (tFor wi g tb) := by
  intro pins s σ H D I h
  refine wpAny_For (thn (hi pins s σ H _ I h) fun v s1 h1 => thn h1 fun itv s2 h2 => ?_) hs
  obtain ⟨it, fp, tn, J, H2, e, I2, T, st2, f2, W, ⟨m0, w0⟩, turn⟩ := h2
  subst e
  have stat : ∀ {H' : Hp}, (∀ b ∈ fp, H' b = none) → ∀ b ∈ fp, FpOk X pins H' b := fun hn b hb => ⟨hn b hb, (f2 b hb).2⟩
  refine codeAny_forLoop_any (fun n s' => ∃ i σ' H', Inv X pins σ' H' s' ∧ tn i s'.heap ∧ (∀ b ∈ fp, H' b = none) ∧ W i n σ' H') ?_ m0 ⟨0, σ, H2, I2, st2, fun b hb => (f2 b hb).1, w0⟩
  rintro n s3 ⟨i, σ3, H3, I3, st3, fr3, w3⟩
  rcases turn i n σ3 H3 w3 with ⟨stop, qn⟩ | ⟨go, N, hN, step⟩
  · refine wpAny_passesOwn hp (thn (T.done X rfl rfl rfl hc i pins s3 σ3 H3 X.xe I3 (stat fr3) st3 stop) fun r s4 ⟨hr, I4⟩ => ?_)
    subst hr
    exact wpAny_execs_nil ⟨σ3, H3, I4, qn⟩
  · refine wpAny_passesOwn hp (thn (T.item X rfl rfl rfl hc i pins s3 σ3 H3 X.xe I3 (stat fr3) st3 go) fun r s4 ⟨u, hr, h4⟩ => ?_)
    subst hr
    refine wpAny_passesOwn hp (thn h4 fun _ s5 ⟨x, H5, I5, r5, y5, st5, fr5⟩ => ?_)
    have I5' := I5.pinned (stat fr5) (T.obj _ _ st5)
    refine wpAny_passesOwn hp (thn (hg _ s5 σ3 H5 x u _ I5' r5 (step x H5 y5)) fun _ s6 ⟨σ6, H6, I6, q6⟩ => ?_)
    refine wpAny_passesOwn hp (thn (hb _ s6 σ6 H6 _ I6 q6) fun f s7 q7 => ?_)
    have again : ∀ {σ7 : St} {H7 : Hp}, Inv X (pins ++ pinsAt fp s5.heap) σ7 H7 s7 → N σ7 H7 → ∃ m, m < n ∧ ∃ i σ' H', Inv X pins σ' H' s7 ∧ tn i s7.heap ∧ (∀ b ∈ fp, H' b = none) ∧ W i m σ' H' := fun {σ7 H7} I7 n7 => by
      obtain ⟨m', hm, w7⟩ := hN σ7 H7 n7
      refine ⟨m', hm, i + 1, σ7, H7, I7.unpinned, T.keep _ _ _ st5 fun b hb o e => (I7.pin (b, o) (List.mem_append_right _ (List.mem_append_right _ (mem_pinsAt hb e)))).1, fun b hb => ?_, w7⟩
      obtain ⟨o, e, d⟩ := T.obj _ _ st5 b hb
      exact (I7.pin (b, o) (List.mem_append_right _ (List.mem_append_right _ (mem_pinsAt hb e)))).2.1
    cases f with
    | next => obtain ⟨σ7, H7, I7, n7⟩ := q7; exact again I7 n7
    | cont => obtain ⟨σ7, H7, I7, n7⟩ := q7; exact again I7 n7
    | brk => obtain ⟨σ7, H7, I7, q7⟩ := q7; exact ⟨σ7, H7, I7.unpinned, q7⟩
    | ret v => obtain ⟨x7, σ7, H7, I7, r7, q7⟩ := q7; exact ⟨x7, σ7, H7, I7.unpinned, r7, q7⟩
end
theorem for_list {K : PySem.W.Frag} {a : Addr} {xs : List V} {g : TG} {tb : TS} {D : Ends} {σ : St} {H : Hp} (Pv : Nat → St → Hp → Prop) (h0 : Pv 0 σ H) (hl : ∀ i σ H, i ≤ xs.length → Pv i σ H → SqL K H a xs)
    (hs : ∀ i x σ H, xs[i]? = some x → Pv i σ H → g x σ H fun σ2 H2 => tb { D with nx := Pv (i + 1), ct := Pv (i + 1), bk := D.nx } σ2 H2) (hd : ∀ σ H, Pv xs.length σ H → D.nx σ H) :
    ∃ W : Nat → Nat → St → Hp → Prop, (∃ m, W 0 m σ H) ∧ ∀ i m σ H, W i m σ H →
      ((Itl K a).stop i H ∧ D.nx σ H) ∨ ((Itl K a).go i H ∧ ∃ N : St → Hp → Prop, (∀ σ' H', N σ' H' → ∃ m', m' < m ∧ W (i + 1) m' σ' H') ∧ ∀ x H', (Itl K a).yld i H x H' → g x σ H' fun σ2 H2 => tb { D with nx := N, ct := N, bk := D.nx } σ2 H2) := by
  refine ⟨fun i m σ H => m = xs.length - i ∧ i ≤ xs.length ∧ Pv i σ H, ⟨xs.length, by simp, Nat.zero_le _, h0⟩, ?_⟩
  rintro i m σ H ⟨rfl, hi, p⟩
  have q := hl i σ H hi p
  by_cases hlt : i < xs.length
  · refine .inr ⟨⟨xs, xs[i], q, by simp [hlt]⟩, Pv (i + 1), fun σ' H' p' => ⟨xs.length - (i + 1), by omega, rfl, hlt, p'⟩, fun x H' y => ?_⟩
    obtain ⟨e, y⟩ := y
    subst e
    exact hs i x σ _ (y xs q) p
  · have e : i = xs.length := by omega
    subst e
    exact .inl ⟨⟨xs, q, Nat.le_refl _⟩, hd σ H p⟩
theorem for_range {lo : Int} {n : Nat} {g : TG} {tb : TS} {D : Ends} {σ : St} {H : Hp} (Pv : Nat → St → Hp → Prop) (h0 : Pv 0 σ H)
    (hs : ∀ i σ H, i < n → Pv i σ H → g (.int (lo + i)) σ H fun σ2 H2 => tb { D with nx := Pv (i + 1), ct := Pv (i + 1), bk := D.nx } σ2 H2) (hd : ∀ σ H, Pv n σ H → D.nx σ H) :
    ∃ W : Nat → Nat → St → Hp → Prop, (∃ m, W 0 m σ H) ∧ ∀ i m σ H, W i m σ H →
      ((Itr lo n).stop i H ∧ D.nx σ H) ∨ ((Itr lo n).go i H ∧ ∃ N : St → Hp → Prop, (∀ σ' H', N σ' H' → ∃ m', m' < m ∧ W (i + 1) m' σ' H') ∧ ∀ x H', (Itr lo n).yld i H x H' → g x σ H' fun σ2 H2 => tb { D with nx := N, ct := N, bk := D.nx } σ2 H2) := by
  refine ⟨fun i m σ H => m = n - i ∧ i ≤ n ∧ Pv i σ H, ⟨n, by simp, Nat.zero_le _, h0⟩, ?_⟩
  rintro i m σ H ⟨rfl, hi, p⟩
  by_cases hlt : i < n
  · refine .inr ⟨hlt, Pv (i + 1), fun σ' H' p' => ⟨n - (i + 1), by omega, rfl, hlt, p'⟩, fun x H' y => ?_⟩
    obtain ⟨e, y⟩ := y
    subst e y
    exact hs i σ _ hlt p
  · have e : i = n := by omega
    subst e
    exact .inl ⟨Nat.le_refl _, hd σ H p⟩
end L2
namespace L2
open PySem PySem.Spec PyProof.Rows
abbrev R2 := V → V → Hp → VK → Prop
def OpR (X : Cx) (f : Value → Value → Sem Value) (r : R2) : Prop :=
  ∀ (pins : List (Addr × Obj)) (s : Shared) (σ : St) (H : Hp) (x y : V) (v u : Value) (Q : VK), Inv X pins σ H s → RelV x v → RelV y u → r x y H Q →
    wpAny (model X.prog X.w) X.A (f v u) (EP X pins σ Q) X.xe s
def UnR (X : Cx) (f : Value → Sem Value) (r : V → Hp → VK → Prop) : Prop :=
  ∀ (pins : List (Addr × Obj)) (s : Shared) (σ : St) (H : Hp) (x : V) (v : Value) (Q : VK), Inv X pins σ H s → RelV x v → r x H Q →
    wpAny (model X.prog X.w) X.A (f v) (EP X pins σ Q) X.xe s
def CallR (X : Cx) (f : Value) (r : List V → Hp → VK → Prop) : Prop :=
  ∀ (pins : List (Addr × Obj)) (s : Shared) (σ : St) (H : Hp) (xs : List V) (us : List Value) (Q : VK), Inv X pins σ H s → Vals xs us → r xs H Q →
    wpAny (model X.prog X.w) X.A (call f us) (EP X pins σ Q) X.xe s
def tOp (r : R2) (ta tb : TE) : TE := fun σ H Q => ta σ H fun x H1 => tb σ H1 fun y H2 => r x y H2 Q
def tUn (r : V → Hp → VK → Prop) (ta : TE) : TE := fun σ H Q => ta σ H fun x H1 => r x H1 Q
def rI (C : Int → Int → Prop) (g : Int → Int → V) : R2 := fun x y H Q => ∃ i j, x = .int i ∧ y = .int j ∧ C i j ∧ Q (g i j) H
def rI0 (g : Int → Int → V) : R2 := fun x y H Q => ∃ i j, x = .int i ∧ y = .int j ∧ Q (g i j) H
def rU (g : Int → V) : V → Hp → VK → Prop := fun x H Q => ∃ i, x = .int i ∧ Q (g i) H
section
variable {X : Cx} {a b c : Expr} {ta tb tc : TE} {pos : Pos}
theorem binT (ha : PE X a ta) (hb : PE X b tb) {pins : List (Addr × Obj)} {s : Shared} {σ : St} {H : Hp} {R : V → V → Hp → Prop} (I : Inv X pins σ H s)
    (h : ta σ H fun x H1 => tb σ H1 fun y H2 => R x y H2) {Q : Value → Shared → Prop} {f : Value → Value → Sem Value}
    (hf : ∀ v u s2 x y H2, Inv X pins σ H2 s2 → RelV x v → RelV y u → R x y H2 → wpAny (model X.prog X.w) X.A (f v u) Q X.xe s2) :
    wpAny (model X.prog X.w) X.A (eval a X.env) (fun v s₁ => wpAny (model X.prog X.w) X.A (eval b X.env) (fun u s₂ => wpAny (model X.prog X.w) X.A (f v u) Q X.xe s₂) X.xe s₁) X.xe s := by
  refine thn (ha pins s σ H _ I h) fun v s1 ⟨x, H1, I1, r1, q1⟩ => ?_
  refine thn (hb pins s1 σ H1 _ I1 q1) fun u s2 ⟨y, H2, I2, r2, q2⟩ => ?_
  exact hf v u s2 x y H2 I2 r1 r2 q2
theorem pe_op {op : Operator} {r : R2} (ho : OpR X (binaryOp op) r) (ha : PE X a ta) (hb : PE X b tb) : PE X (.BinOp a op b pos) (tOp r ta tb) := by
  intro pins s σ H Q I h
  exact wpAny_BinOp (binT ha hb I h fun v u s2 x y H2 I2 rx ry q => ho pins s2 σ H2 x y v u Q I2 rx ry q)
theorem pe_un {op : UnaryOp} {r : V → Hp → VK → Prop} (ho : UnR X (unaryOp op) r) (ha : PE X a ta) : PE X (.UnaryOp op a pos) (tUn r ta) := by
  intro pins s σ H Q I h
  exact UnaryOp_ (thn (ha pins s σ H _ I h) fun v s1 ⟨x, H1, I1, r1, q1⟩ => ho pins s1 σ H1 x v Q I1 r1 q1)
theorem opI {f : Value → Value → Sem Value} {C : Int → Int → Prop} {g : Int → Int → Int}
    (rule : ∀ (i j : Int) (t u : Tok) (s : Shared) (Q : Value → Shared → Prop) (E : Value → Shared → Prop), C i j → Q (.int (g i j) s.toks) { s with toks := s.toks + 1 } → wpAny (model X.prog X.w) X.A (f (.int i t) (.int j u)) Q E s) :
    OpR X f (rI C fun i j => .int (g i j)) := by
  intro pins s σ H x y v u Q I rx ry h
  obtain ⟨i, j, rfl, rfl, hc, q⟩ := h
  obtain ⟨t, rfl⟩ := rx
  obtain ⟨t', rfl⟩ := ry
  exact rule i j t t' s _ _ hc ⟨.int (g i j), H, I.tok _, ⟨_, rfl⟩, q⟩
theorem opI0 {f : Value → Value → Sem Value} {g : Int → Int → Int}
    (rule : ∀ (i j : Int) (t u : Tok) (s : Shared) (Q : Value → Shared → Prop) (E : Value → Shared → Prop), Q (.int (g i j) s.toks) { s with toks := s.toks + 1 } → wpAny (model X.prog X.w) X.A (f (.int i t) (.int j u)) Q E s) :
    OpR X f (rI0 fun i j => .int (g i j)) := by
  intro pins s σ H x y v u Q I rx ry h
  obtain ⟨i, j, rfl, rfl, q⟩ := h
  obtain ⟨t, rfl⟩ := rx
  obtain ⟨t', rfl⟩ := ry
  exact rule i j t t' s _ _ ⟨.int (g i j), H, I.tok _, ⟨_, rfl⟩, q⟩
theorem opB0 {f : Value → Value → Sem Value} {g : Int → Int → Bool}
    (rule : ∀ (i j : Int) (t u : Tok) (s : Shared) (Q : Value → Shared → Prop) (E : Value → Shared → Prop), Q (.bool (g i j)) s → wpAny (model X.prog X.w) X.A (f (.int i t) (.int j u)) Q E s) :
    OpR X f (rI0 fun i j => .bl (g i j)) := by
  intro pins s σ H x y v u Q I rx ry h
  obtain ⟨i, j, rfl, rfl, q⟩ := h
  obtain ⟨t, rfl⟩ := rx
  obtain ⟨t', rfl⟩ := ry
  exact rule i j t t' s _ _ ⟨.bl (g i j), H, I, rfl, q⟩
def CDiv (i j : Int) : Prop := 0 < j ∧ j < 1073741824
def CPow (i j : Int) : Prop := 0 ≤ j ∧ j ≤ 1000000 ∧ i.natAbs < 2 ^ 64
def CMul (i j : Int) : Prop := (-(2 ^ 64) < i ∧ i < 2 ^ 64) ∨ (-(2 ^ 64) < j ∧ j < 2 ^ 64)
theorem CMul.ok {i j : Int} (h : CMul i j) : IntMulOk i j := by
  rcases h with ⟨h1, h2⟩ | ⟨h1, h2⟩
  · exact .of_left (intBits_le_64 h1 h2)
  · exact .of_right (intBits_le_64 h1 h2)
theorem op_add : OpR X (binaryOp .Add) (rI0 fun i j => .int (i + j)) := opI0 fun _ _ _ _ _ _ _ q => add_int q
theorem op_sub : OpR X (binaryOp .Sub) (rI0 fun i j => .int (i - j)) := opI0 fun _ _ _ _ _ _ _ q => sub_int q
theorem op_mul : OpR X (binaryOp .Mult) (rI CMul fun i j => .int (i * j)) := opI fun _ _ _ _ _ _ _ hc q => mul_int q hc.ok
theorem op_fdiv : OpR X (binaryOp .FloorDiv) (rI CDiv fun i j => .int (i / j)) := opI fun i j _ _ _ _ _ hc q => by
  have h1 : (0 : Int) < j := hc.1
  have h2 : j < 1073741824 := hc.2
  exact floordiv_int (by omega) (by rw [Int.fdiv_eq_ediv_of_nonneg i (by omega)]; exact q) (.inl (PyProof.noPylong_small (by omega)))
theorem op_mod : OpR X (binaryOp .Mod) (rI (fun _ j => 0 < j) fun i j => .int (i % j)) := opI fun i j _ _ _ _ _ hc q => by
  have h1 : (0 : Int) < j := hc
  exact mod_int' (by omega) (by rw [Int.fmod_eq_emod_of_nonneg i (by omega)]; exact q)
theorem op_pow : OpR X (binaryOp .Pow) (rI CPow fun i j => .int (i ^ j.toNat)) := opI fun _ _ _ _ _ _ _ hc q => pow_int_small hc.1 hc.2.1 hc.2.2 q
theorem unI {f : Value → Sem Value} {g : Int → Int}
    (rule : ∀ (i : Int) (t : Tok) (s : Shared) (Q : Value → Shared → Prop) (E : Value → Shared → Prop), Q (.int (g i) s.toks) { s with toks := s.toks + 1 } → wpAny (model X.prog X.w) X.A (f (.int i t)) Q E s) :
    UnR X f (rU fun i => .int (g i)) := by
  intro pins s σ H x v Q I rx h
  obtain ⟨i, rfl, q⟩ := h
  obtain ⟨t, rfl⟩ := rx
  exact rule i t s _ _ ⟨.int (g i), H, I.tok _, ⟨_, rfl⟩, q⟩
theorem un_neg : UnR X (unaryOp .USub) (rU fun i => .int (-i)) := unI fun _ _ _ _ _ q => neg_int q
end
def scal : V → V → Bool
  | .non, .non => true | .non, .int _ => true | .int _, .non => true | .non, .bl _ => true | .bl _, .non => true | .non, .str _ => true | .str _, .non => true
  | .int _, .int _ => true | .bl _, .bl _ => true | .str _, .str _ => true | .byt _, .byt _ => true
  | .int _, .str _ => true | .str _, .int _ => true | .bl _, .str _ => true | .str _, .bl _ => true
  | _, _ => false
def rEq : R2 := fun x y H Q => scal x y = true ∧ Q (.bl (decide (x = y))) H
def rNe : R2 := fun x y H Q => scal x y = true ∧ Q (.bl (!decide (x = y))) H
theorem dec_int {i j : Int} : decide (V.int i = V.int j) = (i == j) := by
  rw [Bool.eq_iff_iff]
  simp
theorem dec_bl {i j : Bool} : decide (V.bl i = V.bl j) = (i == j) := by
  rw [Bool.eq_iff_iff]
  simp
theorem dec_str {i j : Str} : decide (V.str i = V.str j) = (i == j) := by
  rw [Bool.eq_iff_iff]
  simp
theorem dec_byt {i j : Array UInt8} : decide (V.byt i = V.byt j) = (i.toList == j.toList) := by
  rw [Bool.eq_iff_iff]
  cases i
  cases j
  simp
section
variable {X : Cx} {a b c : Expr} {ta tb tc : TE} {pos : Pos}
theorem fin_bl {pins : List (Addr × Obj)} {σ : St} {H : Hp} {s : Shared} {Q : VK} {k k' : Bool} (I : Inv X pins σ H s) (q : Q (.bl k) H) (e : k = k') : EP X pins σ Q (.bool k') s := by
  subst e
  exact ⟨.bl k, H, I, rfl, q⟩
theorem op_eq : OpR X (compareOp .Eq) rEq := by
  intro pins s σ H x y v u Q I rx ry h
  obtain ⟨hs, q⟩ := h
  cases x with
  | non =>
    cases rx
    cases y with
    | non => cases ry; exact PySem.EqNone.eq_none_none (fin_bl I q (by simp))
    | bl j => cases ry; exact PySem.EqNone.eq_none_bool (fin_bl I q (by simp))
    | int j => obtain ⟨t', rfl⟩ := ry; exact PySem.EqNone.eq_none_int (fin_bl I q (by simp))
    | str j => obtain ⟨t', rfl⟩ := ry; exact PySem.EqNone.eq_none_str (fin_bl I q (by simp))
    | _ => exact absurd (show false = true from hs) Bool.false_ne_true
  | bl i =>
    cases rx
    cases y with
    | non => cases ry; exact PySem.EqNone.eq_bool_none (fin_bl I q (by simp))
    | bl j => cases ry; exact eq_bool (fin_bl I q dec_bl)
    | str j => obtain ⟨t', rfl⟩ := ry; exact PySem.EqMixed.eq_bool_str (fin_bl I q (by simp))
    | _ => exact absurd (show false = true from hs) Bool.false_ne_true
  | int i =>
    obtain ⟨t, rfl⟩ := rx
    cases y with
    | non => cases ry; exact PySem.EqNone.eq_int_none (fin_bl I q (by simp))
    | int j => obtain ⟨t', rfl⟩ := ry; exact eq_int (fin_bl I q dec_int)
    | str j => obtain ⟨t', rfl⟩ := ry; exact PySem.EqMixed.eq_int_str (fin_bl I q (by simp))
    | _ => exact absurd (show false = true from hs) Bool.false_ne_true
  | str i =>
    obtain ⟨t, rfl⟩ := rx
    cases y with
    | non => cases ry; exact PySem.EqNone.eq_str_none (fin_bl I q (by simp))
    | bl j => cases ry; exact PySem.EqMixed.eq_str_bool (fin_bl I q (by simp))
    | int j => obtain ⟨t', rfl⟩ := ry; exact PySem.EqMixed.eq_str_int (fin_bl I q (by simp))
    | str j => obtain ⟨t', rfl⟩ := ry; exact eq_str (fin_bl I q dec_str)
    | _ => exact absurd (show false = true from hs) Bool.false_ne_true
  | byt i =>
    obtain ⟨t, rfl⟩ := rx
    cases y with
    | byt j => obtain ⟨t', rfl⟩ := ry; exact PySem.W.eq_bytes (fin_bl I q dec_byt)
    | _ => exact absurd (show false = true from hs) Bool.false_ne_true
  | _ => cases y <;> exact absurd (show false = true from hs) Bool.false_ne_true
theorem op_ne : OpR X (compareOp .NotEq) rNe := by
  intro pins s σ H x y v u Q I rx ry h
  obtain ⟨hs, q⟩ := h
  cases x with
  | non =>
    cases rx
    cases y with
    | non => cases ry; exact PySem.EqNone.ne_none_none (fin_bl I q (by simp))
    | bl j => cases ry; exact PySem.EqNone.ne_none_bool (fin_bl I q (by simp))
    | int j => obtain ⟨t', rfl⟩ := ry; exact PySem.EqNone.ne_none_int (fin_bl I q (by simp))
    | str j => obtain ⟨t', rfl⟩ := ry; exact PySem.EqNone.ne_none_str (fin_bl I q (by simp))
    | _ => exact absurd (show false = true from hs) Bool.false_ne_true
  | bl i =>
    cases rx
    cases y with
    | non => cases ry; exact PySem.EqNone.ne_bool_none (fin_bl I q (by simp))
    | bl j => cases ry; exact ne_bool (fin_bl I q (congrArg not dec_bl))
    | str j => obtain ⟨t', rfl⟩ := ry; exact PySem.EqMixed.ne_bool_str (fin_bl I q (by simp))
    | _ => exact absurd (show false = true from hs) Bool.false_ne_true
  | int i =>
    obtain ⟨t, rfl⟩ := rx
    cases y with
    | non => cases ry; exact PySem.EqNone.ne_int_none (fin_bl I q (by simp))
    | int j => obtain ⟨t', rfl⟩ := ry; exact ne_int (fin_bl I q (congrArg not dec_int))
    | str j => obtain ⟨t', rfl⟩ := ry; exact PySem.EqMixed.ne_int_str (fin_bl I q (by simp))
    | _ => exact absurd (show false = true from hs) Bool.false_ne_true
  | str i =>
    obtain ⟨t, rfl⟩ := rx
    cases y with
    | non => cases ry; exact PySem.EqNone.ne_str_none (fin_bl I q (by simp))
    | bl j => cases ry; exact PySem.EqMixed.ne_str_bool (fin_bl I q (by simp))
    | int j => obtain ⟨t', rfl⟩ := ry; exact PySem.EqMixed.ne_str_int (fin_bl I q (by simp))
    | str j => obtain ⟨t', rfl⟩ := ry; exact ne_str (fin_bl I q (congrArg not dec_str))
    | _ => exact absurd (show false = true from hs) Bool.false_ne_true
  | byt i =>
    obtain ⟨t, rfl⟩ := rx
    cases y with
    | byt j => obtain ⟨t', rfl⟩ := ry; exact PySem.W.ne_bytes (fin_bl I q (congrArg not dec_byt))
    | _ => exact absurd (show false = true from hs) Bool.false_ne_true
  | _ => cases y <;> exact absurd (show false = true from hs) Bool.false_ne_true
theorem op_lt : OpR X (compareOp .Lt) (rI0 fun i j => .bl (decide (i < j))) := opB0 fun _ _ _ _ _ _ _ q => lt_int q
theorem op_le : OpR X (compareOp .LtE) (rI0 fun i j => .bl (decide (i ≤ j))) := opB0 fun _ _ _ _ _ _ _ q => le_int q
theorem op_gt : OpR X (compareOp .Gt) (rI0 fun i j => .bl (decide (j < i))) := opB0 fun _ _ _ _ _ _ _ q => gt_int q
theorem op_isN : OpR X (compareOp .Is) (fun x y H Q => y = .non ∧ Q (.bl (decide (x = .non))) H) := by
  intro pins s σ H x y v u Q I rx ry h
  obtain ⟨rfl, q⟩ := h
  cases ry
  refine is_none_gen (fin_bl I q ?_)
  cases x <;> first
    | (cases rx; rfl)
    | (obtain ⟨t, rfl⟩ := rx; rfl)
theorem op_notN : OpR X (compareOp .IsNot) (fun x y H Q => y = .non ∧ Q (.bl (!decide (x = .non))) H) := by
  intro pins s σ H x y v u Q I rx ry h
  obtain ⟨rfl, q⟩ := h
  cases ry
  refine isnot_none_gen (fin_bl I q ?_)
  cases x <;> first
    | (cases rx; rfl)
    | (obtain ⟨t, rfl⟩ := rx; rfl)
theorem nomark (b : Expr) {op : CmpOp} (h : op ≠ .In := by decide) (h2 : op ≠ .NotIn := by decide) : behindInMarks op b = false := by
  have e1 : (op == CmpOp.In) = false := by cases op <;> first | rfl | exact absurd rfl h
  have e2 : (op == CmpOp.NotIn) = false := by cases op <;> first | rfl | exact absurd rfl h2
  cases b <;> simp [behindInMarks, e1, e2]
theorem pe_cmpR {op : CmpOp} {r : R2} (ho : OpR X (compareOp op) r) (ha : PE X a ta) (hb : PE X b tb) (hm : behindInMarks op b = false) : PE X (.Compare a [op] [b] pos) (tOp r ta tb) := by
  intro pins s σ H Q I h
  exact wpAny_Compare1 (binT ha hb I h fun v u s2 x y H2 I2 rx ry q => ho pins s2 σ H2 x y v u Q I2 rx ry q) hm
def tTest (t : TE) : TT := fun σ H Q => t σ H fun x H' => ∃ k, x = .bl k ∧ Q k H'
theorem pt_cmpR {op : CmpOp} {r : R2} (ho : OpR X (compareOp op) r) (ha : PE X a ta) (hb : PE X b tb) (hm : behindInMarks op b = false) : PT X (.Compare a [op] [b] pos) (tTest (tOp r ta tb)) := by
  intro pins s σ H Q I h
  refine wpAny_isTrue_Compare1 (thn (ha pins s σ H _ I h) fun v s1 ⟨x, H1, I1, r1, q1⟩ => thn (hb pins s1 σ H1 _ I1 q1) fun u s2 ⟨y, H2, I2, r2, q2⟩ =>
    thn (ho pins s2 σ H2 x y v u _ I2 r1 r2 q2) fun c s3 ⟨z, H3, I3, r3, k, e, q3⟩ => ?_) hm
  subst e
  cases r3
  exact wpAny_truthy_bool ⟨H3, I3, q3⟩
def tChain (r r' : R2) (ta tb tc : TE) : TE := fun σ H Q => ta σ H fun x H1 => tb σ H1 fun y H2 => r x y H2 fun z H3 => ∃ k, z = .bl k ∧
  (if k = true then tc σ H3 fun w' H4 => r' y w' H4 Q else Q (.bl false) H3)
theorem pe_chain {op op' : CmpOp} {r r' : R2} (ho : OpR X (compareOp op) r) (ho' : OpR X (compareOp op') r') (ha : PE X a ta) (hb : PE X b tb) (hc : PE X c tc)
    (hm : lastMarks [op, op'] [b, c] = false := by with_unfolding_all rfl) : PE X (.Compare a [op, op'] [b, c] pos) (tChain r r' ta tb tc) := by
  intro pins s σ H Q I h
  refine Compare_chain (thn (ha pins s σ H _ I h) fun v s1 ⟨x, H1, I1, r1, q1⟩ => chain_link (thn (hb pins s1 σ H1 _ I1 q1) fun u s2 ⟨y, H2, I2, r2, q2⟩ =>
    thn (ho pins s2 σ H2 x y v u _ I2 r1 r2 q2) fun d s3 ⟨z, H3, I3, r3, k, e, q3⟩ => ?_)) hm
  subst e
  cases r3
  refine wpAny_truthy_bool ?_
  cases k with
  | false => exact ite_ff ⟨.bl false, H3, I3, rfl, q3⟩
  | true => exact ite_tt (chain_last (thn (hc pins s3 σ H3 _ I3 q3) fun w' s4 ⟨z', H4, I4, r4, q4⟩ => ho' pins s4 σ H4 y z' u w' Q I4 r2 r4 q4))
theorem line63 : (sizeLine : Nat) < 2 ^ 63 := by rw [sizeLine_eq]; decide
theorem op_add_str : OpR X (binaryOp .Add) (fun x y H Q => ∃ i j, x = .str i ∧ y = .str j ∧ i.length + j.length ≤ sizeLine ∧ Q (.str (i ++ j)) H) := by
  intro pins s σ H x y v u Q I rx ry h
  obtain ⟨i, j, rfl, rfl, hz, q⟩ := h
  obtain ⟨t, rfl⟩ := rx
  obtain ⟨t', rfl⟩ := ry
  exact add_str (fun t' tk => ⟨.str (i ++ j), H, I.tok _, ⟨_, rfl⟩, q⟩) hz
theorem vals1 {x : V} {us : List Value} (r : Vals [x] us) : ∃ u, us = [u] ∧ RelV x u := by
  cases r with
  | cons r1 r2 => cases r2; exact ⟨_, rfl, r1⟩
theorem vals2 {x y : V} {us : List Value} (r : Vals [x, y] us) : ∃ u w', us = [u, w'] ∧ RelV x u ∧ RelV y w' := by
  cases r with
  | cons r1 r2 =>
    cases r2 with
    | cons r3 r4 => cases r4; exact ⟨_, _, rfl, r1, r3⟩
theorem call_max2 (hc : X.calm = true) : CallR X (.builtin "max") (fun xs H Q => ∃ i j, xs = [.int i, .int j] ∧ Q (.int (if j > i then j else i)) H) := by
  intro pins s σ H xs us Q I r h
  obtain ⟨i, j, rfl, q⟩ := h
  obtain ⟨u, w', rfl, ⟨t, rfl⟩, ⟨t', rfl⟩⟩ := vals2 r
  refine max_two_ints (I.ok.hd hc) fun h' tk k => ⟨_, H, I.kept k, ?_, q⟩
  by_cases hj : j > i
  · rw [if_pos hj, if_pos hj]; exact ⟨_, rfl⟩
  · rw [if_neg hj, if_neg hj]; exact ⟨_, rfl⟩
theorem call_min2 (hc : X.calm = true) : CallR X (.builtin "min") (fun xs H Q => ∃ i j, xs = [.int i, .int j] ∧ Q (.int (if j < i then j else i)) H) := by
  intro pins s σ H xs us Q I r h
  obtain ⟨i, j, rfl, q⟩ := h
  obtain ⟨u, w', rfl, ⟨t, rfl⟩, ⟨t', rfl⟩⟩ := vals2 r
  refine min_two_ints (I.ok.hd hc) fun h' tk k => ⟨_, H, I.kept k, ?_, q⟩
  by_cases hj : j < i
  · rw [if_pos hj, if_pos hj]; exact ⟨_, rfl⟩
  · rw [if_neg hj, if_neg hj]; exact ⟨_, rfl⟩
theorem call_str_int : CallR X (.type "str") (fun xs H Q => ∃ i, xs = [.int i] ∧ i.natAbs.log2 < 1920 ∧ Q (.str (toString i)) H) := by
  intro pins s σ H xs us Q I r h
  obtain ⟨i, rfl, hz, q⟩ := h
  obtain ⟨u, rfl, t, rfl⟩ := vals1 r
  exact PySem.P.str_of_int hz ⟨.str _, H, I.tok _, ⟨_, rfl⟩, q⟩
theorem call_ord : CallR X (.builtin "ord") (fun xs H Q => ∃ x, xs = [.str x] ∧ x.length = 1 ∧ Q (.int (x.cps.getD 0 0 : Nat)) H) := by
  intro pins s σ H xs us Q I r h
  obtain ⟨x, rfl, hz, q⟩ := h
  obtain ⟨u, rfl, t, rfl⟩ := vals1 r
  exact ord_of_one hz ⟨.int _, H, I.tok _, ⟨_, rfl⟩, q⟩
end
end L2
namespace L2
open PySem PySem.Spec PyProof.Rows
structure ObjM (h : Heap) (x dx C : Addr) (mA : Str → Option Value) : Prop where
  obj : h.get? x = some (PySem.W.instObj C dx)
  ns : h.Ns1 dx mA
  ne : dx ≠ x
theorem lookIn_ns {h : Heap} {dx : Addr} {mA : Str → Option Value} (n : h.Ns1 dx mA) : ∃ od, h.get? dx = some od ∧ ∀ name, PySem.W.lookIn name od = some (mA name) := by
  obtain ⟨o, es, ep, ho, hd, hk, _, hm⟩ := n
  refine ⟨o, ho, fun name => ?_⟩
  have e := hm name
  unfold nsFind findBy at e
  rw [← Array.find?_toList] at e
  unfold PySem.W.lookIn
  rw [hd]
  dsimp only
  split
  · rename_i y q
    rw [q] at e
    exact congrArg some e
  · rename_i q
    rw [q] at e
    have a : es.toList.any (·.refKey) = false := by
      rw [List.any_eq_false]
      intro y hy
      obtain ⟨z, t, hkey⟩ := hk y (Array.mem_toList_iff.mp hy)
      simp [DictEntry.refKey, hkey]
    have a' : ¬ es.toList.any (·.refKey) = true := by rw [a]; exact Bool.false_ne_true
    rw [if_neg a']
    exact congrArg some e
theorem ObjM.look {h : Heap} {x dx C : Addr} {mA : Str → Option Value} (I : ObjM h x dx C mA) : ∃ od, PySem.W.InstAt h x (PySem.W.instObj C dx) C (some od) ∧ ∀ name, PySem.W.lookIn name od = some (mA name) :=
  let ⟨od, ho, hl⟩ := lookIn_ns I.ns
  ⟨od, ⟨I.obj, rfl, rfl, ho⟩, hl⟩
section
variable {prog : Program} {w : World} {A : Around} {E : Value → Shared → Prop} {s : Shared} {K : PySem.W.Frag} {x dx C f : Addr} {mA : Str → Option Value} {name : Str} {v : Value}
theorem get_map {expr : Bool} {Q : Value → Shared → Prop} (X : K.In s.heap) (I : ObjM s.heap x dx C mA) (hg : PySem.W.plainGet K C name = true) (hh : PySem.W.hasDictIn K C = true)
    (ha : PySem.W.findIn K (.ref C) name = some none) (hv : mA name = some v) (hv' : PySem.W.handedIn v = true) (h : Q v { s with toks := s.toks + 1 }) :
    wpAny (model prog w) A (getAttr (.ref x) name expr) Q E s := by
  obtain ⟨od, J, hl⟩ := I.look
  exact PySem.W.get_value X J (PySem.W.plainGet_of hg).1 (PySem.W.findObj_own hh ha rfl (by rw [hl, hv])) hv' h
theorem get_meth {pl : Sem Bool} {Q : Value × List Value → Shared → Prop} (X : K.In s.heap) (I : ObjM s.heap x dx C mA) (hg : PySem.W.plainGet K C name = true)
    (hf : PySem.W.findIn K (.ref C) name = some (some (.ref f))) (ht : PySem.W.isFn K (.ref f) = true) (hv : mA name = none) (h : Q (.ref f, [.ref x]) s) :
    wpAny (model prog w) A (getMethod (.ref x) name pl) Q E s := by
  obtain ⟨od, J, hl⟩ := I.look
  exact PySem.W.method_fn X J (PySem.W.plainGet_of hg).1 (PySem.W.plainGet_of hg).2 hf (beq_iff_eq.mp ht) (by show (PySem.W.lookIn name od).map (·.isSome) = some false; rw [hl, hv]; rfl) h
theorem set_map {ns : List Str} {Q : Unit → Shared → Prop} (X : K.In s.heap) (I : ObjM s.heap x dx C mA)
    (hs : PySem.W.findIn K (.ref C) "__setattr__" = some (some (.builtin "object.__setattr__"))) (hp : PySem.W.plainOver K C = true) (ht : PySem.W.takerIn K C name = some none) (hh : PySem.W.hasDictIn K C = true)
    (hw : PySem.Within mA ns) (hsz : ns.length ≤ sizeLine)
    (h : ∀ h', ObjM h' x dx C (fun y => if y = name then some v else mA y) → Heap.SameBut dx s.heap h' → Q () { s with heap := h', toks := s.toks + 2 }) :
    wpAny (model prog w) A (setAttr (.ref x) name v) Q E s := by
  obtain ⟨od, J, hl⟩ := I.look
  refine PySem.W.set_plain X J hs (PySem.W.osa_open (s := { s with toks := s.toks + 1 }) (r := none) X J hp ht fun b => ?_)
  obtain ⟨cd, hc, hd'⟩ := PySem.W.any_some hh
  have hx : s.heap.get? x = some ⟨.ref C, some dx, .plain, #[]⟩ := I.obj
  refine wpAny_bind (wpAny_pure (wpAny_bind (wpAny_bind (wpAny_loadPart hx (wpAny_bind (PySem.W.Looks.here (s := { s with toks := s.toks + 1 }) (PySem.W.looks_clsIn X hc) ?_))))))
  rw [hd']
  refine wpAny_pure (a := some dx) (wpAny_bind (wpAny_pure (wpAny_bind ?_)))
  refine wpAny_nsSet1 (s := { s with toks := s.toks + 1 }) I.ns fun h' hn2 hs2 => ?_
  obtain ⟨oD, esD, epD, hoD, hdD, hcD⟩ := hn2.count (PySem.Within.cons name v hw)
  refine wpAny_bind (wpAny_lookBehind hoD (by rw [hdD]; exact pastItsLine_dict (Nat.le_trans hcD (by rw [List.length_cons]; omega))) ?_)
  exact wpAny_pure (h _ ⟨(hs2.2 _ (Ne.symm I.ne)).trans I.obj, hn2, I.ne⟩ hs2)
theorem make_map {R : Result → Shared → Prop} {vs : List Value} {kw : List (Str × Value)} (X : K.In s.heap) (hm : PySem.W.makesIn K C = true)
    (hi : PySem.W.findIn K (.ref C) "__init__" = some (some (.ref f))) (hf : PySem.W.typeIn K (.ref f) = some (.type "function"))
    (h : codeAny (model prog w) (A.under (.builtin "type.__call__" ⟨.ref C :: vs, kw⟩)) (.call (.ref f) ⟨.ref (s.heap.objs.size + 1) :: vs, kw⟩) (PySem.W.InitBack (s.heap.objs.size + 1) R)
      { s with heap := (s.heap.push PySem.W.emptyDict).push (PySem.W.instObj C s.heap.objs.size) }) :
    codeAny (model prog w) A (.call (.ref C) ⟨vs, kw⟩) R s := by
  obtain ⟨hh, g, d, t, os⟩ := s
  exact PySem.W.make_core (PySem.W.makes_of X hm) (PySem.W.looks_findIn X hi) (fun self => PySem.W.bind_fn X self hf) (.inl rfl) h
end
def putF (f : Str) (v : V) : List (Str × V) → List (Str × V)
  | [] => [(f, v)]
  | (g, x) :: r => if g = f then (g, v) :: r else (g, x) :: putF f v r
theorem lookup_putF (f g : Str) (v : V) : ∀ fs : List (Str × V), (putF f v fs).lookup g = if g = f then some v else fs.lookup g
  | [] => by
    show List.lookup g [(f, v)] = _
    by_cases h : g = f
    · have hb : (g == f) = true := beq_iff_eq.mpr h
      simp only [List.lookup, hb, if_pos h]
    · have hb : (g == f) = false := beq_eq_false_iff_ne.mpr h
      simp only [List.lookup, hb, if_neg h]
  | (k, x) :: r => by
    have ih := lookup_putF f g v r
    rw [show putF f v ((k, x) :: r) = (if k = f then (k, v) :: r else (k, x) :: putF f v r) from rfl]
    by_cases hk : k = f
    · rw [if_pos hk]
      by_cases h : g = k
      · have hb : (g == k) = true := beq_iff_eq.mpr h
        simp only [List.lookup, hb, if_pos (h.trans hk)]
      · have hb : (g == k) = false := beq_eq_false_iff_ne.mpr h
        simp only [List.lookup, hb, if_neg (fun e : g = f => h (e.trans hk.symm))]
    · rw [if_neg hk]
      by_cases h : g = k
      · have hb : (g == k) = true := beq_iff_eq.mpr h
        simp only [List.lookup, hb, if_neg (fun e : g = f => hk (h.symm.trans e))]
      · have hb : (g == k) = false := beq_eq_false_iff_ne.mpr h
        simp only [List.lookup, hb]
        exact ih
theorem keys_putF (f : Str) (v : V) : ∀ fs : List (Str × V), f ∈ (putF f v fs).map (·.1) ∧ ∀ g, g ∈ fs.map (·.1) → g ∈ (putF f v fs).map (·.1)
  | [] => ⟨by simp [putF], fun g h => by simp at h⟩
  | (k, x) :: r => by
    obtain ⟨i1, i2⟩ := keys_putF f v r
    rw [show putF f v ((k, x) :: r) = (if k = f then (k, v) :: r else (k, x) :: putF f v r) from rfl]
    by_cases hk : k = f
    · rw [if_pos hk]
      subst hk
      exact ⟨by simp, fun g h => by simpa using h⟩
    · rw [if_neg hk]
      refine ⟨?_, fun g h => ?_⟩
      · rw [List.map_cons]
        exact List.mem_cons_of_mem _ i1
      · rw [List.map_cons] at h ⊢
        rcases List.mem_cons.mp h with e | e
        · exact List.mem_cons.mpr (.inl e)
        · exact List.mem_cons_of_mem _ (i2 g e)
theorem length_putF (f : Str) (v : V) : ∀ fs : List (Str × V), (putF f v fs).length ≤ fs.length + 1
  | [] => by simp [putF]
  | (k, x) :: r => by
    have ih := length_putF f v r
    rw [show putF f v ((k, x) :: r) = (if k = f then (k, v) :: r else (k, x) :: putF f v r) from rfl]
    by_cases hk : k = f
    · rw [if_pos hk, List.length_cons, List.length_cons]; omega
    · rw [if_neg hk, List.length_cons, List.length_cons]; omega
theorem RelO.some_of {v : V} {o : Option Value} (r : RelO (some v) o) : ∃ u, o = some u ∧ RelV v u := by
  cases o with
  | none => exact (show False from r).elim
  | some u => exact ⟨u, rfl, r⟩
theorem RelO.none_of {o : Option Value} (r : RelO none o) : o = none := by
  cases o with
  | none => rfl
  | some u => exact (show False from r).elim
theorem handed_of {v : V} {u : Value} (r : RelV v u) : PySem.W.handedIn u = true := by
  cases v with
  | non => cases (show u = Value.none from r); rfl
  | bl b => cases (show u = Value.bool b from r); rfl
  | int i => obtain ⟨t, e⟩ := (show ∃ t, u = Value.int i t from r); cases e; rfl
  | str x => obtain ⟨t, e⟩ := (show ∃ t, u = Value.str x t from r); cases e; rfl
  | byt b => obtain ⟨t, e⟩ := (show ∃ t, u = Value.bytes b t from r); cases e; rfl
  | flt b => obtain ⟨t, e⟩ := (show ∃ t, u = Value.float b t from r); cases e; rfl
  | ref a => cases (show u = Value.ref a from r); rfl
  | ty n => cases (show u = Value.type n from r); rfl
section
variable {P : Program} {w : World} {H H' : Hp} {h h' : Heap} {a C dx : Addr} {fs fs' : List (Str × V)}
theorem ins_get (hok : HOk P w H h) (e : H a = some (.ins C dx fs)) : ∃ mA, ObjM h a dx C mA ∧ (∀ f, RelO (fs.lookup f) (mA f)) ∧ PySem.Within mA (fs.map (·.1)) ∧ fs.length ≤ 1000 ∧ H dx = some (.own a) := by
  obtain ⟨d, z, ne, ob, mA, n, r, q⟩ := (show ObjOk P w H h a (.ins C dx fs) from hok a _ e)
  exact ⟨mA, ⟨ob, n, ne⟩, r, q, z, d⟩
end
structure Cls (K : PySem.W.Frag) (C : Addr) : Prop where
  pg : PySem.W.plainGet K C Str.empty = true
  hd : PySem.W.hasDictIn K C = true
  po : PySem.W.plainOver K C = true
  sa : PySem.W.findIn K (.ref C) "__setattr__" = some (some (.builtin "object.__setattr__"))
theorem Cls.get {K : PySem.W.Frag} {C : Addr} (c : Cls K C) (f : Str) : PySem.W.plainGet K C f = true := c.pg
def NoAttr (K : PySem.W.Frag) (C : Addr) (f : Str) : Prop := PySem.W.findIn K (.ref C) f = some none
theorem NoAttr.taker {K : PySem.W.Frag} {C : Addr} {f : Str} (n : NoAttr K C f) : PySem.W.takerIn K C f = some none := by
  unfold PySem.W.takerIn
  rw [show PySem.W.findIn K (.ref C) f = some none from n]
  rfl
structure Meth (K : PySem.W.Frag) (C : Addr) (m : Str) (f : Addr) : Prop where
  at_ : PySem.W.findIn K (.ref C) m = some (some (.ref f))
  fn : PySem.W.isFn K (.ref f) = true
  kp : PySem.W.keepIn K (.ref f) = true
section
variable {X : Cx} {pins : List (Addr × Obj)} {σ : St} {H : Hp} {s : Shared} {a C dx : Addr} {fs : List (Str × V)} {f : Str} {v : V} {A : Around} {E : Value → Shared → Prop}
theorem getattr_ok {b : Bool} {Q : Value → Shared → Prop} (I : Inv X pins σ H s) (e : H a = some (.ins C dx fs)) (c : Cls X.K C) (n : NoAttr X.K C f) (l : fs.lookup f = some v)
    (h : ∀ u s', Inv X pins σ H s' → RelV v u → Q u s') : wpAny (model X.prog X.w) A (getAttr (.ref a) f b) Q E s := by
  obtain ⟨mA, O, r, _, _, _⟩ := ins_get I.hok e
  obtain ⟨u, hu, ru⟩ := RelO.some_of (v := v) (o := mA f) (by rw [← l]; exact r f)
  exact get_map I.kIn O (c.get f) c.hd n hu (handed_of ru) (h u _ (I.tok _) ru)
theorem getmeth_ok {m : Str} {g : Addr} {pl : Sem Bool} {Q : Value × List Value → Shared → Prop} (I : Inv X pins σ H s) (e : H a = some (.ins C dx fs)) (c : Cls X.K C) (k : Meth X.K C m g) (l : fs.lookup m = none)
    (h : Q (.ref g, [.ref a]) s) : wpAny (model X.prog X.w) A (getMethod (.ref a) m pl) Q E s := by
  obtain ⟨mA, O, r, _, _, _⟩ := ins_get I.hok e
  have hn : mA m = none := RelO.none_of (by rw [← l]; exact r m)
  exact get_meth I.kIn O (c.get m) k.at_ k.fn hn h
theorem setattr_ok {y : V} {u : Value} {Q : Unit → Shared → Prop} (I : Inv X pins σ H s) (e : H a = some (.ins C dx fs)) (c : Cls X.K C) (n : NoAttr X.K C f) (hl : fs.length < 1000) (ry : RelV y u)
    (h : ∀ s', Inv X pins σ (upd H a (.ins C dx (putF f y fs))) s' → Q () s') : wpAny (model X.prog X.w) A (setAttr (.ref a) f u) Q E s := by
  obtain ⟨mA, O, r, wi, _, ho⟩ := ins_get I.hok e
  have hz : (fs.map (·.1)).length ≤ sizeLine := by rw [List.length_map, sizeLine_eq]; omega
  refine set_map I.kIn O c.sa c.po n.taker c.hd wi hz fun h' O' sb => h _ ?_
  have hd : ∃ o, h'.get? dx = some o := let ⟨o, _, _, e', _⟩ := O'.ns; ⟨o, e'⟩
  refine I.write (x := a) (e := dx) (by rw [e]; exact True.intro) (.inr ho) (fun b q hb z => (sb.2 b hb).trans z) hd ?_
  refine ⟨by rw [upd_ne O.ne]; exact ho, ?_, O.ne, O'.obj, _, O'.ns, fun g => ?_, fun g hg => ?_⟩
  · have := length_putF f y fs; omega
  · show RelO ((putF f y fs).lookup g) (if g = f then some u else mA g)
    rw [lookup_putF]
    by_cases q : g = f
    · rw [if_pos q, if_pos q]; exact ry
    · rw [if_neg q, if_neg q]; exact r g
  · by_cases q : g = f
    · rw [q]; exact (keys_putF f y fs).1
    · refine (keys_putF f y fs).2 g (wi g fun z => hg ?_)
      show (if g = f then some u else mA g) = none
      rw [if_neg q]; exact z
theorem Inv.made (I : Inv X pins σ H s) : Inv X pins σ (upd (upd H s.heap.objs.size (.own (s.heap.objs.size + 1))) (s.heap.objs.size + 1) (.ins C s.heap.objs.size []))
    { s with heap := (s.heap.push PySem.W.emptyDict).push (PySem.W.instObj C s.heap.objs.size) } := by
  have e1 : (s.heap.push PySem.W.emptyDict).get? s.heap.objs.size = some PySem.W.emptyDict := Heap.get?_push_size s.heap rfl
  have e2 : ((s.heap.push PySem.W.emptyDict).push (PySem.W.instObj C s.heap.objs.size)).get? (s.heap.objs.size + 1) = some (PySem.W.instObj C s.heap.objs.size) := by
    have := Heap.get?_push_size (s.heap.push PySem.W.emptyDict) (o := PySem.W.instObj C s.heap.objs.size) rfl
    rwa [Heap.size_push] at this
  have e3 : (s.heap.push PySem.W.emptyDict).Ns s.heap.objs.size (fun _ => none) := ⟨PySem.W.emptyDict, #[], _, e1, rfl, (fun e he => absurd he (by simp)), fun _ => rfl⟩
  have I1 := I.laid (a := s.heap.objs.size) (o := .own (s.heap.objs.size + 1)) (h' := s.heap.push PySem.W.emptyDict) (t' := s.toks) (fun b u q => Heap.get?_push_of_some _ q) (Nat.le_refl _) ⟨_, e1⟩
  refine I1.laid (a := s.heap.objs.size + 1) (o := .ins C s.heap.objs.size []) (t' := s.toks) (fun b u q => Heap.get?_push_of_some _ q) (Nat.le_of_eq (Heap.size_push _ _)) ?_
  have ne : s.heap.objs.size ≠ s.heap.objs.size + 1 := Nat.ne_of_lt (Nat.lt_succ_self _)
  refine ⟨by rw [upd_ne ne, upd_same], Nat.zero_le _, ne, e2, fun _ => none, (Heap.Ns1.of_empty e3).at fun o q => Heap.get?_push_of_some _ q, fun _ => True.intro, fun y hy => absurd rfl hy⟩
theorem attr_of {prog : Program} {w : World} {env : Env} {e : Expr} {f : Str} {pos : Pos} {s : Shared} {Q : Value → Shared → Prop} (hb : attributeBase e f env (eval e env) = eval e env)
    (h : wpAny (model prog w) A (eval e env) (fun o s₁ => wpAny (model prog w) A (getAttr o f true) Q E s₁) E s) : wpAny (model prog w) A (eval (.Attribute e f pos) env) Q E s :=
  Attribute_any_ h (by rw [arm_eval_Attribute, hb])
end
def tFld (K : PySem.W.Frag) (ta : TE) (f : Str) : TE := fun σ H Q => ta σ H fun x H1 => ∃ a C dx fs v, x = .ref a ∧ H1 a = some (.ins C dx fs) ∧ Cls K C ∧ NoAttr K C f ∧ fs.lookup f = some v ∧ Q v H1
def sFld (K : PySem.W.Frag) (ta tv : TE) (f : Str) : TS := fun D σ H => tv σ H fun y H1 => ta σ H1 fun x H2 => ∃ a C dx fs, x = .ref a ∧ H2 a = some (.ins C dx fs) ∧ Cls K C ∧ NoAttr K C f ∧ fs.length < 1000 ∧
  D.nx σ (upd H2 a (.ins C dx (putF f y fs)))
def InOp (X : Cx) (op : Operator) (rd : V → V → Hp → VK → Prop) : Prop :=
  ∀ (pins : List (Addr × Obj)) (s : Shared) (σ : St) (H : Hp) (x y : V) (u v : Value) (Q : VK), Inv X pins σ H s → RelV x u → RelV y v → rd x y H Q → wpAny (model X.prog X.w) X.A (inplaceOp op u v) (EP X pins σ Q) X.xe s
def sFldAug (K : PySem.W.Frag) (ta tv : TE) (rd : V → V → Hp → VK → Prop) (f : Str) : TS := fun D σ H => ta σ H fun x H1 => ∃ a C dx fs v, x = .ref a ∧ H1 a = some (.ins C dx fs) ∧ Cls K C ∧ NoAttr K C f ∧ fs.lookup f = some v ∧
  tv σ H1 fun y H2 => rd v y H2 fun z H3 => ∃ dx' fs', H3 a = some (.ins C dx' fs') ∧ fs'.length < 1000 ∧ D.nx σ (upd H3 a (.ins C dx' (putF f z fs')))
section
variable {X : Cx} {o e value : Expr} {f : Str} {pos pos' tpos : Pos} {ta tv : TE}
theorem pe_fld (he : PE X e ta) (hb : attributeBase e f X.env (eval e X.env) = eval e X.env) : PE X (.Attribute e f pos) (tFld X.K ta f) := by
  intro pins s σ H Q I h
  refine attr_of hb (thn (he pins s σ H _ I h) fun u s1 ⟨x, H1, I1, rx, a, C, dx, fs, v, ex, ea, c, n, l, q⟩ => ?_)
  subst ex
  obtain rfl : u = Value.ref a := rx
  exact getattr_ok I1 ea c n l fun u' s2 I2 ru => ⟨v, H1, I2, ru, q⟩
theorem ps_fld (ha : PE X o ta) (hv : PE X value tv) (hs : swapsWith value (some (.Attribute o f pos')) pos.line X.env = pure false) : PS X (.Assign [.Attribute o f pos'] value pos) (sFld X.K ta tv f) := by
  intro pins s σ H D I h
  refine plainObj_wpAny_Assign_Attribute (thn (hv pins s σ H _ I h) fun u s1 ⟨y, H1, I1, ry, q⟩ => thn (ha pins s1 σ H1 _ I1 q) fun ov s2 ⟨x, H2, I2, rx, a, C, dx, fs, ex, ea, c, n, l, q2⟩ => ?_) hs
  subst ex
  obtain rfl : ov = Value.ref a := rx
  exact setattr_ok I2 ea c n l ry fun s3 I3 => ⟨σ, _, I3, q2⟩
theorem ps_fldaug {op : Operator} {rd : V → V → Hp → VK → Prop} (ha : PE X o ta) (hv : PE X value tv) (hop : InOp X op rd) : PS X (.AugAssign (.Attribute o f tpos) op value pos) (sFldAug X.K ta tv rd f) := by
  intro pins s σ H D I h
  refine wpAny_AugAssign_AttributeAny (thn (ha pins s σ H _ I h) fun ov s1 ⟨x, H1, I1, rx, a, C, dx, fs, v, ex, ea, c, n, l, q⟩ => ?_)
  subst ex
  obtain rfl : ov = Value.ref a := rx
  refine getattr_ok I1 ea c n l fun u s2 I2 ru => thn (hv pins s2 σ H1 _ I2 q) fun w3 s3 ⟨y, H2, I3, ry, q3⟩ => thn (hop pins s3 σ H2 v y u w3 _ I3 ru ry q3) fun w4 s4 ⟨z, H3, I4, rz, dx', fs', ea', l', q4⟩ => ?_
  exact setattr_ok I4 ea' c n l' rz fun s5 I5 => ⟨σ, _, I5, q4⟩
def rAdd : V → V → Hp → VK → Prop := fun x y H Q => ∃ i j, x = .int i ∧ y = .int j ∧ Q (.int (i + j)) H
theorem in_add : InOp X .Add rAdd := by
  rintro pins s σ H x y u v Q I rx ry ⟨i, j, rfl, rfl, q⟩
  obtain ⟨t, rfl⟩ := (show ∃ t, u = Value.int i t from rx)
  obtain ⟨t', rfl⟩ := (show ∃ t', v = Value.int j t' from ry)
  exact PyProof.Rows.iadd_int ⟨.int (i + j), H, I.tok _, ⟨_, rfl⟩, q⟩
end
section
variable {X : Cx} {pins : List (Addr × Obj)} {σ : St} {H : Hp} {s : Shared} {A : Around} {E : Value → Shared → Prop} {Q : Value → Shared → Prop} {c : Value} {b : Bool}
inductive TyOf (K : PySem.W.Frag) (H : Hp) : V → Value → Prop where
  | non : TyOf K H .non (.type "NoneType")
  | bl (x : Bool) : TyOf K H (.bl x) (.type "bool")
  | int (i : Int) : TyOf K H (.int i) (.type "int")
  | str (x : Str) : TyOf K H (.str x) (.type "str")
  | flt (x : UInt64) : TyOf K H (.flt x) (.type "float")
  | lst {a : Addr} {xs : List V} (e : H a = some (.lst xs)) : TyOf K H (.ref a) (.type "list")
  | frz {a : Addr} {o : Obj} {xs : List V} (e : H a = some (.frz o (.lst xs))) : TyOf K H (.ref a) (.type "list")
  | tup {a : Addr} {xs : List V} (e : H a = some (.tup xs)) : TyOf K H (.ref a) (.type "tuple")
  | dK {a : Addr} {kvs : List (Key × V)} (e : H a = some (.dK kvs)) : TyOf K H (.ref a) (.type "dict")
  | dT {a : Addr} {kvs : List (List Key × V)} (e : H a = some (.dT kvs)) : TyOf K H (.ref a) (.type "dict")
  | ins {a C dx : Addr} {fs : List (Str × V)} (e : H a = some (.ins C dx fs)) (cl : Cls K C) (ha : PySem.W.findIn K (.ref C) "__class__" = some (some (.builtin "object.__class__")))
      (hn : PySem.W.specialIn K (.builtin "object.__class__") "__get__" = some (some (.builtin "getset_descriptor.__get__"))) (htk : PySem.W.takesIn K (.builtin "object.__class__") = some true)
      (hm : PySem.W.mroIn K C (.type "object") = some true) : TyOf K H (.ref a) (.ref C)
theorem isinst_ok {x : V} {u t : Value} (I : Inv X pins σ H s) (rx : RelV x u) (ty : TyOf X.K H x t) (e : PySem.W.kitOne X.K t c = some b) (h : ∀ tk, Q (.bool b) { s with toks := tk }) :
    wpAny (model X.prog X.w) A (call (.builtin "isinstance") [u, c]) Q E s := by
  cases ty with
  | non => cases (show u = Value.none from rx); exact PySem.W.kia_one PySem.W.kitx_none I.kIn True.intro e (fun z => nomatch z) h
  | bl y => cases (show u = Value.bool y from rx); exact PySem.W.kia_one PySem.W.kitx_bool I.kIn True.intro e (fun z => nomatch z) h
  | int i => obtain ⟨t, q⟩ := (show ∃ t, u = Value.int i t from rx); cases q; exact PySem.W.kia_one PySem.W.kitx_int I.kIn True.intro e (fun z => nomatch z) h
  | str y => obtain ⟨t, q⟩ := (show ∃ t, u = Value.str y t from rx); cases q; exact PySem.W.kia_one PySem.W.kitx_str I.kIn True.intro e (fun z => nomatch z) h
  | flt y => obtain ⟨t, q⟩ := (show ∃ t, u = Value.float y t from rx); cases q; exact PySem.W.kia_one PySem.W.kitx_float I.kIn True.intro e (fun z => nomatch z) h
  | @lst a xs ea =>
    cases (show u = Value.ref a from rx)
    obtain ⟨_, _, n, _, h1⟩ := (show ObjOk X.prog X.w H s.heap a (.lst xs) from I.hok a _ ea)
    exact PySem.W.kia_one PySem.W.kitx_list I.kIn ⟨_, h1, rfl⟩ e (fun z => nomatch z) h
  | @frz a ob xs ea =>
    cases (show u = Value.ref a from rx)
    obtain ⟨_, _, _, n, _, h1⟩ := (show ObjOk X.prog X.w H s.heap a (.frz ob (.lst xs)) from I.hok a _ ea)
    exact PySem.W.kia_one PySem.W.kitx_list I.kIn ⟨_, h1, rfl⟩ e (fun z => nomatch z) h
  | @tup a xs ea =>
    cases (show u = Value.ref a from rx)
    obtain ⟨_, _, _, p⟩ := (show ObjOk X.prog X.w H s.heap a (.tup xs) from I.hok a _ ea)
    obtain ⟨o, h1, h2, _⟩ := p
    exact PySem.W.kia_one PySem.W.kitx_tuple I.kIn ⟨o, h1, h2⟩ e (fun z => nomatch z) h
  | @dK a kvs ea =>
    cases (show u = Value.ref a from rx)
    obtain ⟨_, _, vs, _, p⟩ := (show ObjOk X.prog X.w H s.heap a (.dK kvs) from I.hok a _ ea)
    obtain ⟨o, es, ep, h1, h2, _⟩ := p
    exact PySem.W.kia_one PySem.W.kitx_dict I.kIn ⟨o, h1, h2.1⟩ e (fun z => nomatch z) h
  | @dT a kvs ea =>
    cases (show u = Value.ref a from rx)
    obtain ⟨_, _, xs, _, o, es, ep, h1, h2, _⟩ := (show ObjOk X.prog X.w H s.heap a (.dT kvs) from I.hok a _ ea)
    exact PySem.W.kia_one PySem.W.kitx_dict I.kIn ⟨o, h1, h2.1⟩ e (fun z => nomatch z) h
  | @ins a C dx fs ea cl ha hn htk hm =>
    cases (show u = Value.ref a from rx)
    obtain ⟨mA, O, _⟩ := ins_get I.hok ea
    obtain ⟨od, J, _⟩ := O.look
    exact PySem.W.kia_one (PySem.W.kitx_own (cl.get _) cl.hd ha hn htk hm) I.kIn J e (fun z => nomatch z) h
end
end L2
namespace L2
open PySem PySem.Spec PyProof.Rows
structure Room (k : Nat) (A : Around) : Prop where
  hd : A.handled = none
  dp : A.depth + 3 * k + 5 < recursionLimit
  un : A.units + 16 * k + 200 < cLine
theorem Room.mono {j k : Nat} {A : Around} (r : Room k A) (h : j ≤ k) : Room j A := ⟨r.hd, by have := r.dp; omega, by have := r.un; omega⟩
theorem Room.deeper {k : Nat} {A : Around} (r : Room (k + 1) A) (env : Env) : Room k (A.deeper env) :=
  ⟨r.hd, by have := r.dp; show A.depth + 1 + 3 * k + 5 < _; omega, by have := r.un; show A.units + 3 + 16 * k + 200 < _; omega⟩
theorem make_depth {A : Around} {C : Addr} {us : List Value} {kw : List (Str × Value)} : (A.under (.builtin "type.__call__" ⟨.ref C :: us, kw⟩)).depth = A.depth + 1 := by
  first | rfl | simp [Around.under, Code.weight, Code.isCreation, Code.isGuard, Code.isCaller, Code.frames, Code.isFrame, guardIds]
theorem make_units {A : Around} {C : Addr} {us : List Value} {kw : List (Str × Value)} : (A.under (.builtin "type.__call__" ⟨.ref C :: us, kw⟩)).units = A.units + 1 := by
  first | rfl | simp [Around.under, Code.cUnits, Code.frames, Code.isFrame]
theorem Room.make {k : Nat} {A : Around} (r : Room (k + 1) A) (C : Addr) (us : List Value) (kw : List (Str × Value)) : Room k (A.under (.builtin "type.__call__" ⟨.ref C :: us, kw⟩)) :=
  ⟨r.hd, by have := r.dp; rw [make_depth]; omega, by have := r.un; rw [make_units]; omega⟩
theorem Room.depth {k : Nat} {A : Around} (r : Room k A) : A.depth < recursionLimit := by have := r.dp; omega
theorem Room.units {k : Nat} {A : Around} (r : Room k A) : A.units + 64 < cLine := by have := r.un; omega
def tNil : TA := fun _ H Q => Q [] H
def tCons (ta : TE) (tr : TA) : TA := fun σ H Q => ta σ H fun x H1 => tr σ H1 fun xs H2 => Q (x :: xs) H2
section
variable {X : Cx} {e : Expr} {es : List Expr} {te : TE} {t : TA} {pos : Pos}
theorem pa_nil : PA X [] tNil := fun _ _ _ _ H Q I h => Calls.spliced_nil ⟨[], H, I, .nil, h⟩
theorem pa_cons (ha : PE X e te) (hr : PA X es t) (hs : starEach (e :: es) X.env = (false, eval e X.env) :: starEach es X.env := by rfl) : PA X (e :: es) (tCons te t) := by
  intro pos pins s σ H Q I h
  rw [hs]
  show wpAny _ _ (spliced ((false, eval e X.env) :: backTo pos (starEach es X.env))) _ _ s
  refine Calls.spliced_cons (thn (ha pins s σ H _ I h) fun u s1 ⟨x, H1, I1, r1, q1⟩ => ?_)
  exact thn (hr pos pins s1 σ H1 _ I1 q1) fun us s2 ⟨xs, H2, I2, r2, q2⟩ => ⟨x :: xs, H2, I2, .cons r1 r2, q2⟩
def tTup (t : TA) : TE := fun σ H Q => t σ H fun xs H1 => xs.length ≤ sizeLine ∧ ∀ p, H1 p = none → Q (.ref p) (upd H1 p (.tup xs))
def tLst (t : TA) : TE := fun σ H Q => t σ H fun xs H1 => xs.length ≤ sizeLine ∧ ∀ p, H1 p = none → Q (.ref p) (upd H1 p (.lst xs))
theorem pe_tup {x1} (h : PA X es t) : PE X (.Tuple es x1 pos) (tTup t) := by
  intro pins s σ H Q I hq
  refine wpAny_Tuple_spliced (thn (h pos pins s σ H _ I hq) fun us s1 ⟨xs, H1, I1, r, z, q⟩ => ⟨by rw [← r.length]; exact z, ?_⟩)
  have hf : H1 s1.heap.objs.size = none := I1.hok.fresh (Nat.le_refl _)
  refine ⟨.ref s1.heap.objs.size, upd H1 s1.heap.objs.size (.tup xs), I1.laid (t' := s1.toks) (fun b u e => Heap.get?_push_of_some _ e) (Nat.le_refl _) ?_, rfl, q _ hf⟩
  exact ⟨z, us, r, ⟨_, Heap.get?_push_size _ rfl, rfl, _, rfl⟩⟩
theorem pe_lst (h : PA X es t) : PE X (.List es pos) (tLst t) := by
  intro pins s σ H Q I hq
  refine wpAny_List_spliced (thn (h pos pins s σ H _ I hq) fun us s1 ⟨xs, H1, I1, r, z, q⟩ => ⟨by rw [← r.length]; exact z, ?_⟩)
  have hf : H1 s1.heap.objs.size = none := I1.hok.fresh (Nat.le_refl _)
  refine ⟨.ref s1.heap.objs.size, upd H1 s1.heap.objs.size (.lst xs), I1.laid (t' := s1.toks) (fun b u e => Heap.get?_push_of_some _ e) (Nat.le_refl _) ?_, rfl, q _ hf⟩
  exact ⟨z, us, 0, r, Heap.get?_push_size _ rfl⟩
end
abbrev Sp := List V → Hp → VK → XK → Prop
abbrev CXT := List Env → Hp → Shared → XK → Value → Shared → Prop
structure Env0 (P : Program) (w : World) (K : PySem.W.Frag) (mg : Str → Option Value) (base : Heap) (A : Around) (outer : List Env) (s : Shared) (H : Hp) : Prop where
  frames : A.frames = some outer
  mod : Mod K mg base
  bs : ∀ b o, base.get? b = some o → s.heap.get? b = some o ∧ H b = none
  bsz : base.objs.size ≤ s.heap.objs.size
  funs : s.heap.FunFrames base outer
  frf : ∀ b ∈ frs outer, H b = none
  hok : HOk P w H s.heap
  bare : AllBare s.gens
def CE (outer : List Env) (P : Program) (w : World) (H : Hp) (s : Shared) (Q : VK) (u : Value) (s' : Shared) : Prop :=
  ∃ v H', s'.os = s.os ∧ AllBare s'.gens ∧ Un (frs outer) [] H H' s.heap s'.heap ∧ HOk P w H' s'.heap ∧ RelV v u ∧ Q v H'
def CR (CX : CXT) (outer : List Env) (P : Program) (w : World) (H : Hp) (s : Shared) (Q : VK) (E : XK) (r : Result) (s' : Shared) : Prop :=
  match r with
  | .ok (.ret u) => CE outer P w H s Q u s'
  | .ok _ => False
  | .error e => CX outer H s E e s'
structure FnOk (P : Program) (w : World) (K : PySem.W.Frag) (mg : Str → Option Value) (base : Heap) (CX : CXT) (k : Nat) (f : Addr) (fd : FuncData) (ps : List Str) (sp : Sp) : Prop where
  len : ∀ vs H Q E, sp vs H Q E → vs.length = ps.length
  run : ∀ (A : Around) (outer : List Env) (s : Shared) (H : Hp) (args : Args) (us : List Value) (vs : List V) (Q : VK) (E : XK), Room k A → Env0 P w K mg base A outer s H → BindsTo s fd args (ps.zip us) → Vals vs us → sp vs H Q E →
    codeAny (model P w) A (.call (.ref f) args) (CR CX outer P w H s Q E) s
theorem FnOk.mono {P : Program} {w : World} {K : PySem.W.Frag} {mg : Str → Option Value} {base : Heap} {CX : CXT} {j k : Nat} {f : Addr} {fd : FuncData} {ps : List Str} {sp : Sp} (F : FnOk P w K mg base CX j f fd ps sp) (h : j ≤ k) :
    FnOk P w K mg base CX k f fd ps sp := ⟨F.len, fun A outer s H args us vs Q E hr => F.run A outer s H args us vs Q E (hr.mono h)⟩
theorem FnOk.imp {P : Program} {w : World} {K : PySem.W.Frag} {mg : Str → Option Value} {base : Heap} {CX : CXT} {k : Nat} {f : Addr} {fd : FuncData} {ps : List Str} {sp sp' : Sp} (F : FnOk P w K mg base CX k f fd ps sp)
    (h : ∀ vs H Q E, sp' vs H Q E → sp vs H Q E) : FnOk P w K mg base CX k f fd ps sp' :=
  ⟨fun vs H Q E q => F.len vs H Q E (h _ _ _ _ q), fun A outer s H args us vs Q E hr he hb hv hs => F.run A outer s H args us vs Q E hr he hb hv (h _ _ _ _ hs)⟩
theorem Env0.make {P : Program} {w : World} {K : PySem.W.Frag} {mg : Str → Option Value} {base : Heap} {A : Around} {outer : List Env} {s : Shared} {H : Hp} (e : Env0 P w K mg base A outer s H) (C : Addr) (us : List Value) (kw : List (Str × Value)) :
    Env0 P w K mg base (A.under (.builtin "type.__call__" ⟨.ref C :: us, kw⟩)) outer s H := ⟨by first | exact e.frames | (simpa [Around.under, Code.envs, Code.isFrame, pushEnvs] using e.frames), e.mod, e.bs, e.bsz, e.funs, e.frf, e.hok, e.bare⟩
section
variable {X : Cx} {pins : List (Addr × Obj)} {σ : St} {H : Hp} {s s' : Shared}
theorem Inv.env0 (I : Inv X pins σ H s) : Env0 X.prog X.w X.K X.mg X.base X.A X.stack s H :=
  ⟨I.ok.frames, I.ok.mod, I.bs, Nat.le_trans I.ok.bsz I.sz, I.stack, I.stkFree, I.hok, I.bare⟩
theorem Inv.after {Q : VK} {u : Value} (I : Inv X pins σ H s) (h : CE X.stack X.prog X.w H s Q u s') : EP X pins σ Q u s' := by
  obtain ⟨v, H', os, bare, un, hok, r, q⟩ := h
  obtain ⟨hh, g, d, t, os'⟩ := s'
  obtain rfl : os' = s.os := os
  exact ⟨v, H', I.call (h' := hh) (g' := g) (d' := d) (t' := t) (ch := []) un hok bare (fun b z => absurd z (by simp)), r, q⟩
end
def tCall (sp : Sp) (dvs : List V) (E : XK) (t : TA) : TE := fun σ H Q => t σ H fun vs H1 => sp (vs ++ dvs) H1 Q E
def tMeth (C : Addr) (m : Str) (sp : Sp) (dvs : List V) (E : XK) (ta : TE) (t : TA) : TE := fun σ H Q => ta σ H fun x H1 => ∃ a dx fs, x = .ref a ∧ H1 a = some (.ins C dx fs) ∧ fs.lookup m = none ∧
  t σ H1 fun vs H2 => sp (x :: (vs ++ dvs)) H2 Q E
def tMake (C : Addr) (sp : Sp) (dvs : List V) (E : XK) (t : TA) : TE := fun σ H Q => t σ H fun vs H1 => ∀ x dx, H1 x = none → H1 dx = none → dx ≠ x →
  sp (.ref x :: (vs ++ dvs)) (upd (upd H1 dx (.own x)) x (.ins C dx [])) (fun v H2 => v = .non ∧ Q (.ref x) H2) E
def Binds (K : PySem.W.Frag) (fd : FuncData) (ps : List Str) (ds : List Value) : Prop :=
  ∀ (s : Shared) (us : List Value), K.In s.heap → (us ++ ds).length = ps.length → BindsTo s fd ⟨us, []⟩ (ps.zip (us ++ ds))
theorem Binds.all {K : PySem.W.Frag} {fd : FuncData} {ps : List Str} (h : ∀ us : List Value, us.length = ps.length → bindArgs fd ⟨us, []⟩ = pure (ps.zip us)) : Binds K fd ps [] := fun s us _ hl => by
  rw [List.append_nil] at hl ⊢
  exact .of_eq (h us hl)
def Passes (CX : CXT) (X : Cx) (E : XK) : Prop := ∀ (pins : List (Addr × Obj)) (σ : St) (H : Hp) (s : Shared) (e : Value) (s' : Shared), Inv X pins σ H s → CX X.stack H s E e s' → X.xe e s'
section
variable {X : Cx} {CX : CXT} {k : Nat} {f C : Addr} {fd : FuncData} {ps : List Str} {sp : Sp} {dvs : List V} {ds : List Value} {E : XK} {x m : Str} {p pos apos : Pos} {e o : Expr} {es : List Expr} {ta : TE} {t : TA}
theorem run_fn {pins : List (Addr × Obj)} {σ : St} {H : Hp} {s : Shared} {Q : VK} {us : List Value} {vs : List V} (F : FnOk X.prog X.w X.K X.mg X.base CX k f fd ps sp) (hr : Room k X.A) (hb : Binds X.K fd ps ds) (hd : Vals dvs ds) (hx : Passes CX X E)
    (I : Inv X pins σ H s) (r : Vals vs us) (h : sp (vs ++ dvs) H Q E) : wpAny (model X.prog X.w) X.A (call (.ref f) us) (EP X pins σ Q) X.xe s := by
  have r2 : Vals (vs ++ dvs) (us ++ ds) := r.append hd
  have hl : (us ++ ds).length = ps.length := by rw [← r2.length]; exact F.len _ _ _ _ h
  refine wpAny_call (codeAny_mono (F.run X.A X.stack s H ⟨us, []⟩ (us ++ ds) (vs ++ dvs) Q E hr I.env0 (hb s us I.kIn hl) r2 h) fun r s' hq => ?_)
  cases r with
  | error e => exact hx pins σ H s e s' I hq
  | ok fl =>
    cases fl with
    | ret u => exact I.after hq
    | next => exact False.elim hq
    | brk => exact False.elim hq
    | cont => exact False.elim hq
theorem pe_call (F : FnOk X.prog X.w X.K X.mg X.base CX k f fd ps sp) (hr : Room k X.A) (hg : Gl X x) (hm : X.mg x = some (.ref f)) (hk : PySem.W.keepIn X.K (.ref f) = true) (hb : Binds X.K fd ps ds) (hd : Vals dvs ds) (hx : Passes CX X E)
    (ha : PA X (e :: es) t) (hdb : (x == ("__debug__" : Str)) = false := by decide) (he : starEach (e :: es) X.env = (false, eval e X.env) :: starEach es X.env := by rfl) (hpl : (backTo pos (starEach es X.env)).any (·.1) = false := by rfl) :
    PE X (.Call (.Name x p) (e :: es) [] pos) (tCall sp dvs E t) := by
  intro pins s σ H Q I h
  refine wpAny_Call_Name_kw (ld_glob I hg hm ?_ hdb)
  refine PySem.W.callWith_K (h₀ := X.base) I.ok.mod.kin hk (thn (ha pos pins s σ H _ I h) fun us s1 ⟨vs, H1, I1, r, q⟩ => ⟨I1.kIn, ?_⟩) he hpl
  exact run_fn F hr hb hd hx I1 r q
theorem pe_meth {pl : Sem Bool} (he : PE X o ta) (c : Cls X.K C) (hm : Meth X.K C m f) (F : FnOk X.prog X.w X.K X.mg X.base CX k f fd ps sp) (hr : Room k X.A) (hb : Binds X.K fd ps ds) (hd : Vals dvs ds) (hx : Passes CX X E) (ha : PA X (e :: es) t)
    (hst : starEach (e :: es) X.env = (false, eval e X.env) :: starEach es X.env := by rfl) (hpl : (backTo pos (starEach es X.env)).any (·.1) = false := by rfl)
    (ht : eval (.Call (.Attribute o m apos) (e :: es) [] pos) X.env = (do
      let ov ← eval o X.env
      standAt apos.atName
      let (f, first) ← holding [ov] (getMethod ov m pl)
      callWith pos f first (backTo pos (starEach (e :: es) X.env)) (backToKw pos (keywordEach [] X.env))) := by rfl) :
    PE X (.Call (.Attribute o m apos) (e :: es) [] pos) (tMeth C m sp dvs E ta t) := by
  intro pins s σ H Q I h
  refine PySem.W.methodCall_KW (pl := pl) (thn (he pins s σ H _ I h) fun u s1 ⟨x, H1, I1, rx, a, dx, fs, ex, ea, l, q⟩ => ?_) ht
  subst ex
  obtain rfl : u = Value.ref a := rx
  refine getmeth_ok I1 ea c hm l ?_
  refine PySem.W.callWith_K (first := [.ref a]) (h₀ := X.base) I.ok.mod.kin hm.kp (thn (ha pos pins s1 σ H1 _ I1 q) fun us s2 ⟨vs, H2, I2, r, q2⟩ => ⟨I2.kIn, ?_⟩) hst hpl
  exact run_fn (us := .ref a :: us) (vs := .ref a :: vs) F hr hb hd hx I2 (.cons rfl r) q2
theorem pe_meth0 {pl : Sem Bool} (he : PE X o ta) (c : Cls X.K C) (hm : Meth X.K C m f) (F : FnOk X.prog X.w X.K X.mg X.base CX k f fd ps sp) (hr : Room k X.A) (hb : Binds X.K fd ps ds) (hd : Vals dvs ds) (hx : Passes CX X E)
    (ht : eval (.Call (.Attribute o m apos) [] [] pos) X.env = (do
      let ov ← eval o X.env
      standAt apos.atName
      let (f, first) ← holding [ov] (getMethod ov m pl)
      callWith pos f first (backTo pos (starEach [] X.env)) (backToKw pos (keywordEach [] X.env))) := by rfl) :
    PE X (.Call (.Attribute o m apos) [] [] pos) (tMeth C m sp dvs E ta tNil) := by
  intro pins s σ H Q I h
  refine PySem.W.methodCall_KW (pl := pl) (thn (he pins s σ H _ I h) fun u s1 ⟨x, H1, I1, rx, a, dx, fs, ex, ea, l, q⟩ => ?_) ht
  subst ex
  obtain rfl : u = Value.ref a := rx
  refine getmeth_ok I1 ea c hm l ?_
  exact PySem.W.callWith_K0 (first := [.ref a]) I1.kIn hm.kp (run_fn (us := [.ref a]) (vs := [.ref a]) F hr hb hd hx I1 (.cons rfl .nil) q)
structure Mk (K : PySem.W.Frag) (C f : Addr) : Prop where
  makes : PySem.W.makesIn K C = true
  init : PySem.W.findIn K (.ref C) "__init__" = some (some (.ref f))
  fn : PySem.W.isFn K (.ref f) = true
  kp : PySem.W.keepIn K (.ref C) = true
theorem run_make {pins : List (Addr × Obj)} {σ : St} {H : Hp} {s : Shared} {Q : VK} {us : List Value} {vs : List V} (M : Mk X.K C f) (F : FnOk X.prog X.w X.K X.mg X.base CX k f fd ps sp) (hr : Room (k + 1) X.A) (hb : Binds X.K fd ps ds) (hd : Vals dvs ds)
    (hx : Passes CX X E) (I : Inv X pins σ H s) (r : Vals vs us)
    (h : ∀ x dx, H x = none → H dx = none → dx ≠ x → sp (.ref x :: (vs ++ dvs)) (upd (upd H dx (.own x)) x (.ins C dx [])) (fun v H2 => v = .non ∧ Q (.ref x) H2) E) :
    wpAny (model X.prog X.w) X.A (call (.ref C) us) (EP X pins σ Q) X.xe s := by
  have hq := h (s.heap.objs.size + 1) s.heap.objs.size (I.hok.fresh (Nat.le_succ _)) (I.hok.fresh (Nat.le_refl _)) (Nat.ne_of_lt (Nat.lt_succ_self _))
  have I2 := Inv.made (C := C) I
  have r2 : Vals (V.ref (s.heap.objs.size + 1) :: (vs ++ dvs)) (Value.ref (s.heap.objs.size + 1) :: (us ++ ds)) := .cons rfl (r.append hd)
  have hl : (Value.ref (s.heap.objs.size + 1) :: us ++ ds).length = ps.length := by
    have e := r2.length
    rw [F.len _ _ _ _ hq] at e
    exact e.symm
  refine wpAny_call (make_map (f := f) I.kIn M.makes M.init (beq_iff_eq.mp M.fn) (codeAny_mono (F.run _ X.stack _ _ ⟨Value.ref (s.heap.objs.size + 1) :: us, []⟩ (Value.ref (s.heap.objs.size + 1) :: (us ++ ds)) _ _ E (hr.make C us [])
    (I2.env0.make C us []) (hb _ (Value.ref (s.heap.objs.size + 1) :: us) I2.kIn hl) r2 hq) fun r s' hq' => ?_))
  cases r with
  | error e => exact hx pins σ _ _ e s' I2 hq'
  | ok fl =>
    cases fl with
    | ret u =>
      obtain ⟨v, H', I3, rv, ev, q3⟩ := I2.after hq'
      subst ev
      exact ⟨rv, ⟨V.ref (s.heap.objs.size + 1), H', I3, rfl, q3⟩⟩
    | next => exact False.elim hq'
    | brk => exact False.elim hq'
    | cont => exact False.elim hq'
theorem pe_make (M : Mk X.K C f) (F : FnOk X.prog X.w X.K X.mg X.base CX k f fd ps sp) (hr : Room (k + 1) X.A) (hg : Gl X x) (hm : X.mg x = some (.ref C)) (hb : Binds X.K fd ps ds) (hd : Vals dvs ds) (hx : Passes CX X E)
    (ha : PA X (e :: es) t) (hdb : (x == ("__debug__" : Str)) = false := by decide) (he : starEach (e :: es) X.env = (false, eval e X.env) :: starEach es X.env := by rfl) (hpl : (backTo pos (starEach es X.env)).any (·.1) = false := by rfl) :
    PE X (.Call (.Name x p) (e :: es) [] pos) (tMake C sp dvs E t) := by
  intro pins s σ H Q I h
  refine wpAny_Call_Name_kw (ld_glob I hg hm ?_ hdb)
  refine PySem.W.callWith_K (h₀ := X.base) I.ok.mod.kin M.kp (thn (ha pos pins s σ H _ I h) fun us s1 ⟨vs, H1, I1, r, q⟩ => ⟨I1.kIn, ?_⟩) he hpl
  exact run_make M F hr hb hd hx I1 r q
end
section
variable {X : Cx} {CX : CXT} {k : Nat} {f C : Addr} {fd : FuncData} {ps ks : List Str} {sp : Sp} {E : XK} {x m : Str} {p pos apos kpos : Pos} {e o : Expr} {es : List Expr} {kws : List Keyword} {te ta : TE} {t tk : TA} {nm : Option Str}
variable {g : List Value → List Value → List Value} {gV : List V → List V → List V}
end
structure FnScope (N P : List Str) (sc : Scope) : Prop where
  kind : sc.kind = .function
  co : sc.isCoroutine = false
  gen : sc.isGenerator = false
  nd : N.Nodup
  pre : N.take P.length = P
  par : ∀ x ∈ P, sc.names.lookup x = some .local ∨ sc.names.lookup x = some .cell
  nofree : ∀ y ∈ sc.names, y.2 ≠ .free
theorem bindL_out {kindOf : Str → Option NameKind} {x : Str} : ∀ {binds : List (Str × Value)} {m : Str → Option Value}, (∀ v, (x, v) ∉ binds) → bindL kindOf binds m x = m x
  | [], _, _ => rfl
  | (n, v) :: r, m, h => by
    unfold bindL
    rw [bindL_out fun w hw => h w (List.mem_cons_of_mem _ hw)]
    split
    · have : x ≠ n := by rintro rfl; exact h v List.mem_cons_self
      simp [this]
    · rfl
theorem bindC_out {kindOf : Str → Option NameKind} {x : Str} : ∀ {binds : List (Str × Value)} {m : Str → Option Value}, (∀ v, (x, v) ∉ binds) → bindC kindOf binds m x = m x
  | [], _, _ => rfl
  | (n, v) :: r, m, h => by
    unfold bindC
    rw [bindC_out fun w hw => h w (List.mem_cons_of_mem _ hw)]
    split
    · rfl
    · have : x ≠ n := by rintro rfl; exact h v List.mem_cons_self
      simp [this]
theorem bindL_get {kindOf : Str → Option NameKind} {x : Str} {v : Value} : ∀ {P : List Str} {vs : List Value} {i : Nat} {m : Str → Option Value}, P.Nodup → P[i]? = some x → vs[i]? = some v → kindOf x = some .local →
    bindL kindOf (P.zip vs) m x = some v
  | [], _, _, _, _, h, _, _ => by simp at h
  | _ :: _, [], _, _, _, _, h, _ => by simp at h
  | p :: P, w :: vs, 0, m, nd, h1, h2, hk => by
    simp at h1 h2; subst h1; subst h2
    show bindL kindOf ((p, w) :: P.zip vs) m p = _
    unfold bindL
    rw [bindL_out fun v hv => (List.nodup_cons.mp nd).1 (List.of_mem_zip hv).1, if_pos hk]
    simp
  | p :: P, w :: vs, i + 1, m, nd, h1, h2, hk => by
    show bindL kindOf ((p, w) :: P.zip vs) m x = _
    unfold bindL
    exact bindL_get (i := i) (List.nodup_cons.mp nd).2 (by simpa using h1) (by simpa using h2) hk
theorem bindC_get {kindOf : Str → Option NameKind} {x : Str} {v : Value} : ∀ {P : List Str} {vs : List Value} {i : Nat} {m : Str → Option Value}, P.Nodup → P[i]? = some x → vs[i]? = some v → kindOf x ≠ some .local →
    bindC kindOf (P.zip vs) m x = some v
  | [], _, _, _, _, h, _, _ => by simp at h
  | _ :: _, [], _, _, _, _, h, _ => by simp at h
  | p :: P, w :: vs, 0, m, nd, h1, h2, hk => by
    simp at h1 h2; subst h1; subst h2
    show bindC kindOf ((p, w) :: P.zip vs) m p = _
    unfold bindC
    rw [bindC_out fun v hv => (List.nodup_cons.mp nd).1 (List.of_mem_zip hv).1, if_neg hk]
    simp
  | p :: P, w :: vs, i + 1, m, nd, h1, h2, hk => by
    show bindC kindOf ((p, w) :: P.zip vs) m x = _
    unfold bindC
    exact bindC_get (i := i) (List.nodup_cons.mp nd).2 (by simpa using h1) (by simpa using h2) hk
def start (N : List Str) (vs : List V) : St := vs.map some ++ List.replicate (N.length - vs.length) none
def cxOf (CX : CXT) (P : Program) (w : World) (K : PySem.W.Frag) (mg : Str → Option Value) (base : Heap) (N : List Str) (qual : Str) (scope : Scope) (f : Addr) (cd : Value) (A : Around) (outer : List Env) (s : Shared) (H : Hp) (E : XK) : Cx where
  prog := P
  w := w
  K := K
  mg := mg
  base := base
  A := A.deeper (envOfC qual scope s.heap.objs.size f cd)
  N := N
  s₀ := s
  H₀ := H
  env := envOfC qual scope s.heap.objs.size f cd
  outer := outer
  stack := envOfC qual scope s.heap.objs.size f cd :: outer
  ex := []
  calm := true
  fn := fun _ => true
  pn := []
  xe := fun e s' => wpAny (model P w) (A.deeper (envOfC qual scope s.heap.objs.size f cd)) (leaving (envOfC qual scope s.heap.objs.size f cd) e) (fun _ s'' => CX outer H s E e s'') (fun e' s'' => CX outer H s E e' s'') s'
theorem cell_has {sc : Scope} {n : Nat} {x : Str} (h : sc.names.lookup x = some .cell) : ∃ c, (cellsFrom n sc.names []).lookup x = some c := by
  have q := PySem.W.cellsFrom_some sc.names n [] (.inl h)
  exact Option.isSome_iff_exists.mp q
theorem inv_start {CX : CXT} {P : Program} {w : World} {K : PySem.W.Frag} {mg : Str → Option Value} {base : Heap} {N ps : List Str} {qual : Str} {scope : Scope} {f : Addr} {cd : Value} {A : Around} {outer : List Env} {s s1 : Shared} {H : Hp} {E : XK} {us : List Value} {vs : List V}
    (S : FnScope N ps scope) (hd : A.handled = none) (e0 : Env0 P w K mg base A outer s H) (hl : vs.length = ps.length) (r : Vals vs us)
    (x : InCallC s s.heap.objs.size (bindL (envOfC qual scope s.heap.objs.size f cd).kindOf (ps.zip us) fun _ => none) (cellsFrom (s.heap.objs.size + 1) scope.names []) (bindC (envOfC qual scope s.heap.objs.size f cd).kindOf (ps.zip us) fun _ => none) s1) :
    Inv (cxOf CX P w K mg base N qual scope f cd A outer s H E) [] (start N vs) H s1 := by
  have hpl : ps.length ≤ N.length := by have := congrArg List.length S.pre; rw [List.length_take] at this; omega
  obtain ⟨h1, tk, rfl, hk⟩ := x.done
  have noA : ∀ b : Addr, b ∉ (cxOf CX P w K mg base N qual scope f cd A outer s H E).ex := fun b z => absurd (show b ∈ ([] : List Addr) from z) (by simp)
  refine ⟨⟨e0.mod, S.kind, rfl, rfl, Nat.le_refl _, fun y z c h1 h2 => ?_, fun y hy => ?_, fun y c _ h => ?_, fun _ => hd, Around.frames_deeper e0.frames, .inr ⟨rfl, rfl⟩, fun b z => absurd z (noA b), e0.bs, e0.bsz, fun b _ _ => noA b, fun b z => absurd z (noA b), e0.funs, e0.frf⟩,
    rfl, e0.bare, Un.kept hk, ⟨_, x.toInCall.ns, fun i y v h1 h2 h3 => ?_⟩, fun y c h => ⟨_, x.cell y c h⟩, e0.hok.fresh (Nat.le_refl _), fun y c h => ?_, fun p hp => absurd (show p ∈ ([] : List (Addr × Obj)) from hp) (by simp), e0.hok.kept hk, ?_⟩
  · exact name_of_addr x.apart (PySem.mem_of_lookup h1) (PySem.mem_of_lookup h2)
  · have hy : scope.names.lookup y = some .cell ∨ scope.names.lookup y = some .free := hy
    rcases hy with hy | hy
    · exact cell_has hy
    · exact absurd rfl (S.nofree _ (PySem.mem_of_lookup hy))
  · exact Nat.le_of_lt (x.above y c (PySem.mem_of_lookup h))
  · have hi : i < vs.length := by
      unfold start at h2
      by_cases hi : i < vs.length
      · exact hi
      · rw [List.getElem?_append_right (by simpa using hi)] at h2
        rw [List.getElem?_replicate] at h2
        split at h2 <;> cases h2
    have ha : vs[i]? = some v := by
      unfold start at h2
      rw [List.getElem?_append_left (by simpa using hi), List.getElem?_map] at h2
      cases e : vs[i]? with
      | none => rw [e] at h2; cases h2
      | some a => rw [e] at h2; cases h2; rfl
    obtain ⟨u, hu, rv⟩ := r.get ha
    have hp : ps[i]? = some y := by
      rw [← S.pre, List.getElem?_take_of_lt (by omega)]; exact h1
    have ndP : ps.Nodup := by rw [← S.pre]; exact S.nd.sublist (List.take_sublist _ _)
    refine ⟨u, rv, ?_⟩
    rcases S.par y (List.mem_of_getElem? hp) with k | k
    · exact .inl ⟨k, bindL_get ndP hp hu k⟩
    · obtain ⟨c, e⟩ := cell_has (n := s.heap.objs.size + 1) k
      refine .inr ⟨.inl k, c, e, ?_⟩
      have q := x.cell y c e
      rw [bindC_get ndP hp hu (by show scope.names.lookup y ≠ _; rw [k]; decide)] at q
      exact q
  · exact e0.hok.fresh (Nat.le_of_lt (x.above y c (PySem.mem_of_lookup h)))
  · unfold start
    show _ = N.length
    rw [List.length_append, List.length_map, List.length_replicate]
    omega
theorem fn_of {CX : CXT} {P : Program} {w : World} {K : PySem.W.Frag} {mg : Str → Option Value} {base : Heap} {k : Nat} {f : Addr} {name qual : Str} {params : Arguments} {body : List Stmt} {scope : Scope} {dV kV doc pm cdv ct oc : Value} {an od : Option Addr}
    {osl : Array (Option Value)} {N ps : List Str} {sp : Sp} (lk : K.lookup f = some ⟨oc, od, .func (PySem.W.fnOf name qual params body scope dV kV doc pm an cdv ct), osl⟩) (hcd : PySem.W.codeIn K cdv qual = true) (S : FnScope N ps scope)
    (len : ∀ vs H Q E, sp vs H Q E → vs.length = ps.length)
    (hbody : ∀ (A : Around) (outer : List Env) (s : Shared) (H : Hp) (vs : List V) (Q : VK) (E : XK), Room k (A.deeper (envOfC qual scope s.heap.objs.size f cdv)) → sp vs H Q E →
      ∃ t, PSs (cxOf CX P w K mg base N qual scope f cdv A outer s H E) body t ∧ t { nx := fun _ H' => Q .non H', rt := Q } (start N vs) H) :
    FnOk P w K mg base CX (k + 1) f (PySem.W.fnOf name qual params body scope dV kV doc pm an cdv ct) ps sp := by
  refine ⟨len, fun A outer s H args us vs Q E hr e0 hb r hsp => ?_⟩
  have hl := len _ _ _ _ hsp
  have KX : K.In s.heap := e0.mod.kin.keeps fun b o e => (e0.bs b o e).1
  have lim : s.heap.NoLimit := e0.mod.nolimit.keeps fun b o e => (e0.bs b o e).1
  have hkind : ∀ y ∈ ps.zip us, scope.names.lookup y.1 = some .local ∨ (scope.names.lookup y.1 = some .cell ∧ ((cellsFrom (s.heap.objs.size + 1) scope.names []).lookup y.1).isSome = true) := fun ⟨n, v⟩ hy => by
    rcases S.par n (List.of_mem_zip hy).1 with q | q
    · exact .inl q
    · exact .inr ⟨q, PySem.W.cellsFrom_some _ _ _ (.inl q)⟩
  refine codeAny_call_function hr.depth (KX _ _ lk) rfl S.co S.gen rfl (PySem.W.codeRec_of KX hcd) (hb _ _ _ _ ?_)
  refine wpAny_newFunctionEnv_cells S.kind hkind fun env he s1 x => ?_
  subst he
  refine ⟨lim.keeps x.toInCall.keep, codeAny_func ?_⟩
  obtain ⟨t, ht, hq⟩ := hbody A outer s H vs Q E (hr.deeper _) hsp
  have I : Inv (cxOf CX P w K mg base N qual scope f cdv A outer s H E) [] (start N vs) H s1 := inv_start S hr.hd e0 hl r x
  refine wpAny_mono (ht [] s1 (start N vs) H _ I hq) (fun fl s' hs => ?_) fun e s' hs => hs
  have fin : ∀ {σ' : St} {H' : Hp} {v : V} {u : Value}, Inv (cxOf CX P w K mg base N qual scope f cdv A outer s H E) [] σ' H' s' → RelV v u → Q v H' → CE outer P w H s Q u s' :=
    fun {σ' H' v u} J rv q => ⟨v, H', J.os, J.bare, J.base, J.hok, rv, q⟩
  cases fl with
  | ret u =>
    obtain ⟨v, σ', H', J, rv, q⟩ := hs
    exact fin J rv q
  | next =>
    obtain ⟨σ', H', J, q⟩ := hs
    exact fin (v := V.non) (u := Value.none) J rfl q
  | brk =>
    obtain ⟨_, _, _, q⟩ := hs
    exact False.elim q
  | cont =>
    obtain ⟨_, _, _, q⟩ := hs
    exact False.elim q
end L2
namespace L2
open PySem PySem.Spec PyProof.Rows
section
variable {X : Cx} {x : Str} {p pos : Pos} {e : Expr} {es : List Expr} {t : TA} {id T : String} {r : List V → Hp → VK → Prop}
def tCB (r : List V → Hp → VK → Prop) (t : TA) : TE := fun σ H Q => t σ H fun vs H1 => r vs H1 Q
theorem pe_callB (hc : CallR X (.builtin id) r) (hg : Gl X x) (hm : X.mg x = none) (hv : bootBuiltins x = some (.builtin id)) (ha : PA X (e :: es) t) (hn : x ≠ "__name__" := by decide) (hdb : (x == ("__debug__" : Str)) = false := by decide)
    (he : starEach (e :: es) X.env = (false, eval e X.env) :: starEach es X.env := by rfl) (hpl : (backTo pos (starEach es X.env)).any (·.1) = false := by rfl) : PE X (.Call (.Name x p) (e :: es) [] pos) (tCB r t) := by
  intro pins s σ H Q I h
  refine wpAny_Call_Name_kw (ld_blt I hg hm hv ?_ hn hdb)
  exact PyProof.Rows.callWith_builtin1 (thn (ha pos pins s σ H _ I h) fun us s1 ⟨vs, H1, I1, r1, q1⟩ => hc pins s1 σ H1 vs us Q I1 r1 q1) he hpl
theorem pe_callTy (hc : CallR X (.type T) r) (hg : Gl X x) (hm : X.mg x = none) (hv : bootBuiltins x = some (.type T)) (ha : PA X (e :: es) t) (hn : x ≠ "__name__" := by decide) (hdb : (x == ("__debug__" : Str)) = false := by decide)
    (he : starEach (e :: es) X.env = (false, eval e X.env) :: starEach es X.env := by rfl) (hpl : (backTo pos (starEach es X.env)).any (·.1) = false := by rfl) : PE X (.Call (.Name x p) (e :: es) [] pos) (tCB r t) := by
  intro pins s σ H Q I h
  refine wpAny_Call_Name_kw (ld_blt I hg hm hv ?_ hn hdb)
  exact PyProof.Rows.callWith_type1 (thn (ha pos pins s σ H _ I h) fun us s1 ⟨vs, H1, I1, r1, q1⟩ => hc pins s1 σ H1 vs us Q I1 r1 q1) he hpl
end
end L2
namespace HT
open PySem PyProof.Rows
section
open PySem.SeqAt
open PySem.AutoSeq1 (wpAny_loadPart')
open PySem.MeetsSeq PySem.MeetsSeq2 PySem.MeetsSeq3
end
section
variable {prog : Program} {w : World} {A : Around} {E : Value → Shared → Prop} {s : Shared}
def sIx (n d : Nat) : Option Int → Nat
  | none => d
  | some v => if v < 0 then (v + (n : Int)).toNat else min v.toNat n
theorem sIx_none (n d : Nat) : sIx n d none = d := rfl
theorem sIx_nat (n d k : Nat) : sIx n d (some (k : Int)) = min k n := by
  show (if (k : Int) < 0 then ((k : Int) + (n : Int)).toNat else min (k : Int).toNat n) = min k n
  rw [if_neg (by omega), Int.toNat_natCast]
theorem sIx_le (n d : Nat) (hd : d ≤ n) (o : Option Int) : sIx n d o ≤ n := by
  cases o with
  | none => exact hd
  | some v =>
    show (if v < 0 then (v + (n : Int)).toNat else min v.toNat n) ≤ n
    by_cases hv : v < 0
    · rw [if_pos hv]; omega
    · rw [if_neg hv]; exact Nat.min_le_right _ _
theorem clip_eq (v : Int) (n d : Nat) : (if v < 0 then max (v + (n : Int)) 0 else min v (n : Int)) = ((sIx n d (some v) : Nat) : Int) := by
  show (if v < 0 then max (v + (n : Int)) 0 else min v (n : Int)) = (((if v < 0 then (v + (n : Int)).toNat else min v.toNat n) : Nat) : Int)
  by_cases hv : v < 0
  · simp only [if_pos hv]; omega
  · simp only [if_neg hv]; omega
theorem adjust_gen (lo hi : Option Int) (n : Nat) : Builtin.Slice.sliceAdjust lo hi 1 (n : Int) = (((sIx n 0 lo : Nat) : Int), ((sIx n n hi : Nat) : Int)) := by
  have h1 : ¬ ((1 : Int) < 0) := by omega
  unfold Builtin.Slice.sliceAdjust
  simp only [h1, if_false]
  refine Prod.ext ?_ ?_
  · cases lo with
    | none => rfl
    | some v => exact clip_eq v n 0
  · cases hi with
    | none => rfl
    | some v => exact clip_eq v n n
theorem places_gen (i j : Nat) : Builtin.Slice.slicePlaces (i : Int) (j : Int) 1 = j - i := by
  unfold Builtin.Slice.slicePlaces
  have h1 : (1 : Int) > 0 := by omega
  simp only [h1, if_true, Int.ediv_one]
  split <;> omega
theorem slicePart_ {v : Value} {o : Option Int} {Q : Option Int → Shared → Prop} (p : IsPart v o) (h : Q o s) : wpAny (model prog w) A (Builtin.Slice.slicePartIndex v) Q E s := by
  cases p with
  | none => exact slicePart_none h
  | int i t => exact slicePart_int h
theorem sliceApplied_gen {sl : Addr} {vl vu : Value} {lo hi : Option Int} {n : Nat} {Q : Int × Int × Nat → Shared → Prop} (hs : s.heap.IsSliceOf sl vl vu .none) (pl : IsPart vl lo) (pu : IsPart vu hi)
    (h : Q (((sIx n 0 lo : Nat) : Int), 1, sIx n n hi - sIx n 0 lo) s) : wpAny (model prog w) A (Builtin.Slice.sliceApplied (.ref sl) (pure (n : Int))) Q E s := by
  obtain ⟨os, hos, hcs, hds⟩ := id hs
  unfold Builtin.Slice.sliceApplied Builtin.Slice.sliceFields
  refine wpAny_bind (wpAny_bind (wpAny_field hos hds (x := vl) rfl (wpAny_bind (wpAny_field hos hds (x := vu) rfl (wpAny_bind (wpAny_field hos hds (x := .none) rfl (wpAny_pure ?_)))))))
  refine wpAny_bind (slicePart_none ?_)
  show wpAny _ _ (if ((1 : Int) == 0) = true then _ else _) _ _ s
  rw [if_neg (by decide)]
  refine wpAny_bind (slicePart_ pl (wpAny_bind (slicePart_ pu (wpAny_bind (wpAny_pure ?_)))))
  show wpAny _ _ (match Builtin.Slice.sliceAdjust lo hi 1 (n : Int) with | (lo, hi) => pure (lo, (1 : Int), Builtin.Slice.slicePlaces lo hi 1)) _ _ s
  rw [adjust_gen lo hi n]
  show wpAny _ _ (pure (((sIx n 0 lo : Nat) : Int), (1 : Int), Builtin.Slice.slicePlaces ((sIx n 0 lo : Nat) : Int) ((sIx n n hi : Nat) : Int) 1)) _ _ s
  rw [places_gen]
  exact wpAny_pure h
theorem pick_gen (xs : Array Value) (i k : Nat) : ((List.range k).filterMap fun (m : Nat) => xs[((i : Int) + (m : Int) * 1).toNat]?).toArray = ((xs.toList.drop i).take k).toArray := by
  have e : (fun (m : Nat) => xs[((i : Int) + (m : Int) * 1).toNat]?) = fun m => xs[i + m]? := by
    funext m
    have : ((i : Int) + (m : Int) * 1).toNat = i + m := by omega
    rw [this]
  rw [e]
  have := pick_run xs i k
  rw [List.filterMap_map] at this
  have e2 : ((fun x => xs[x]?) ∘ fun x => i + x) = fun m => xs[i + m]? := rfl
  rw [e2] at this
  rw [this]
theorem getItem_tuple_cut {t sl : Addr} {items : Array Value} {vl vu : Value} {lo hi : Option Int} {Q : Value → Shared → Prop} (ht : IsTup s.heap t items) (hs : s.heap.IsSliceOf sl vl vu .none) (pl : IsPart vl lo) (pu : IsPart vu hi)
    (hw : ¬ (sIx items.size 0 lo = 0 ∧ sIx items.size items.size hi = items.size))
    (h : Q (.ref s.heap.objs.size) { s with heap := s.heap.push { cls := .type "tuple", data := .seq ((items.toList.drop (sIx items.size 0 lo)).take (sIx items.size items.size hi - sIx items.size 0 lo)).toArray } })
    (hsz : items.size ≤ sizeLine) : wpAny (model prog w) A (getItem (.ref t) (.ref sl)) Q E s := by
  have htake : sizeOk (.seq ((items.toList.drop (sIx items.size 0 lo)).take (sIx items.size items.size hi - sIx items.size 0 lo)).toArray) := by
    show ((items.toList.drop (sIx items.size 0 lo)).take (sIx items.size items.size hi - sIx items.size 0 lo)).toArray.size ≤ sizeLine
    rw [List.size_toArray, List.length_take, List.length_drop, Array.length_toList]
    omega
  have hj : sIx items.size items.size hi ≤ items.size := sIx_le _ _ (Nat.le_refl _) hi
  obtain ⟨os, hos, hcs, hds⟩ := id hs
  have hTs : s.TypeIs (.ref sl) "slice" := ⟨os, hos, hcs⟩
  unfold getItem
  try with_reducible refine wpAny_holding ?_
  first | refine wpAny_bind (wpAny_pure ?_) | skip
  refine wpAny_bind (wpAny_sequenceKey ht.typeIs (by decide) ?_)
  refine wpAny_bind (wpAny_callSpecial?_slot (name := Str.ofString "__getitem__") ht.typeIs PyProof.Rows.slot_tuple_getitem
    (wpAny_call_entry PyProof.Rows.slot_tuple_getitem ht.typeIs entry_tuple_getitem ?_ (args_tuple_getitem _ _)))
  show wpAny _ _ (Builtin.Tuple.tupleItemsOf (.ref t) >>= _) _ _ s
  refine wpAny_bind (tupleItemsOf_ ht ?_)
  refine wpAny_bind (wpAny_typeOf hTs ?_)
  rw [if_pos (by decide)]
  refine wpAny_bind (sliceApplied_gen hs pl pu ?_)
  have hno : ¬ ((((sIx items.size 0 lo : Nat) : Int) == 0 && (1 : Int) == 1 && (sIx items.size items.size hi - sIx items.size 0 lo) == items.size) = true) := by
    intro q
    rw [Bool.and_eq_true, Bool.and_eq_true] at q
    have q1 : ((sIx items.size 0 lo : Nat) : Int) = 0 := eq_of_beq q.1.1
    have q2 : sIx items.size items.size hi - sIx items.size 0 lo = items.size := eq_of_beq q.2
    exact hw ⟨by omega, by omega⟩
  show wpAny _ _ (if (((sIx items.size 0 lo : Nat) : Int) == 0 && (1 : Int) == 1 && (sIx items.size items.size hi - sIx items.size 0 lo) == items.size) = true then _ else _) _ _ s
  rw [if_neg hno, pick_gen]
  first
    | exact wpAny_bind (m := Builtin.Tuple.tupleExact _) (wpAny_newObj_type (wpAny_pure ⟨_, rfl, wpAny_pure h⟩) htake)
    | exact wpAny_bind (m := Builtin.Tuple.tupleExact _) (wpAny_newObj_type (wpAny_bind (wpAny_pure (wpAny_pure ⟨_, rfl, wpAny_pure h⟩))) htake)
    | exact wpAny_bind (wpAny_bind (m := Builtin.Tuple.tupleExact _) (wpAny_newObj_type (wpAny_pure (wpAny_pure ⟨_, rfl, wpAny_pure h⟩)) htake))
    | exact wpAny_bind (wpAny_bind (m := Builtin.Tuple.tupleExact _) (wpAny_newObj_type (wpAny_pure ⟨_, rfl, wpAny_pure h⟩) htake))
end
end HT
namespace L2
open PySem PySem.Spec PyProof.Rows
abbrev TO := St → Hp → (Option Int → Hp → Prop) → Prop
def PO (X : Cx) (e : Option Expr) (t : TO) : Prop :=
  ∀ (pins : List (Addr × Obj)) (s : Shared) (σ : St) (H : Hp) (Q : Option Int → Hp → Prop), Inv X pins σ H s → t σ H Q →
    wpAny (model X.prog X.w) X.A (evalPart e X.env) (fun u s' => ∃ o H', Inv X pins σ H' s' ∧ IsPart u o ∧ Q o H') X.xe s
def tNoPart : TO := fun _ H Q => Q none H
def tPart (t : TE) : TO := fun σ H Q => t σ H fun x H1 => ∃ i, x = .int i ∧ Q (some i) H1
section
variable {X : Cx} {e : Expr} {te : TE} {lo hi : Option Expr} {tl th : TO} {pos p2 : Pos}
theorem po_none : PO X none tNoPart := by
  intro pins s σ H Q I h
  rw [evalPart_none]
  exact wpAny_pure ⟨none, H, I, .none, h⟩
theorem po_some (h : PE X e te) : PO X (some e) (tPart te) := by
  intro pins s σ H Q I hw
  rw [evalPart_some]
  refine thn (h pins s σ H _ I hw) fun u s1 ⟨x, H1, I1, r1, q1⟩ => ?_
  obtain ⟨i, rfl, q⟩ := q1
  obtain ⟨t, rfl⟩ := r1
  exact ⟨some i, H1, I1, .int i t, q⟩
def SlR (X : Cx) (r : V → Option Int → Option Int → Hp → VK → Prop) : Prop :=
  ∀ (pins : List (Addr × Obj)) (s : Shared) (σ : St) (H : Hp) (x : V) (v vl vu : Value) (lo hi : Option Int) (sl : Addr) (Q : VK), Inv X pins σ H s → RelV x v → s.heap.IsSliceOf sl vl vu .none → IsPart vl lo → IsPart vu hi → r x lo hi H Q →
    ∃ T id, typeLookup (.type T) "__getitem__" = pure (some (.builtin id)) ∧ s.TypeIs v T ∧ wpAny (model X.prog X.w) X.A (getItem v (.ref sl)) (EP X pins σ Q) X.xe s
def tSl (r : V → Option Int → Option Int → Hp → VK → Prop) (te : TE) (tl th : TO) : TE := fun σ H Q => te σ H fun x H1 => tl σ H1 fun l H2 => th σ H2 fun u H3 => r x l u H3 Q
theorem pe_slice {r : V → Option Int → Option Int → Hp → VK → Prop} (hr : SlR X r) (he : PE X e te) (hl : PO X lo tl) (hu : PO X hi th) : PE X (.Subscript e (.Slice lo hi none p2) pos) (tSl r te tl th) := by
  intro pins s σ H Q I h
  refine Subscript_ (thn (he pins s σ H _ I h) fun v s1 ⟨x, H1, I1, r1, q1⟩ => ?_)
  refine wpAny_Slice (thn (hl pins s1 σ H1 _ I1 q1) fun vl s2 ⟨l, H2, I2, pl, q2⟩ => thn (hu pins s2 σ H2 _ I2 q2) fun vu s3 ⟨u, H3, I3, pu, q3⟩ => ?_)
  rw [evalPart_none]
  refine wpAny_pure ?_
  have I4 : Inv X pins σ H3 { s3 with heap := s3.heap.push { cls := .type "slice", data := .fields #[vl, vu, .none] } } := I3.kept (t' := s3.toks) fun b ob q => Heap.get?_push_of_some _ q
  obtain ⟨T, id, hT, ht, hg⟩ := hr pins { s3 with heap := s3.heap.push { cls := .type "slice", data := .fields #[vl, vu, .none] } } σ H3 x v vl vu l u s3.heap.objs.size Q I4 r1 (Heap.IsSliceOf.new ..) pl pu q3
  show wpAny (model X.prog X.w) X.A (subscriptTail e (.Slice lo hi none p2) v (.ref s3.heap.objs.size)) (EP X pins σ Q) X.xe { s3 with heap := s3.heap.push { cls := .type "slice", data := .fields #[vl, vu, .none] } }
  exact tail_any (ops := [.ref s3.heap.objs.size, v]) ht hT hg (by with_unfolding_all rfl)
def cutV (xs : List V) (lo hi : Option Int) : List V := (xs.drop (HT.sIx xs.length 0 lo)).take (HT.sIx xs.length xs.length hi - HT.sIx xs.length 0 lo)
theorem cutV_length (xs : List V) (lo hi : Option Int) : (cutV xs lo hi).length ≤ xs.length := by
  unfold cutV
  rw [List.length_take, List.length_drop]
  omega
def rSlT (K : PySem.W.Frag) : V → Option Int → Option Int → Hp → VK → Prop := fun x lo hi H Q => ∃ a xs, x = .ref a ∧ SqT K H a xs ∧
  ¬ (HT.sIx xs.length 0 lo = 0 ∧ HT.sIx xs.length xs.length hi = xs.length) ∧ ∀ p, H p = none → Q (.ref p) (upd H p (.tup (cutV xs lo hi)))
theorem sl_tup : SlR X (rSlT X.K) := by
  intro pins s σ H x v vl vu lo hi sl Q I rx hs pl pu h
  obtain ⟨a, xs, rfl, hx, hw, q⟩ := h
  cases rx
  obtain ⟨its, r, ht, hz⟩ := I.tuple hx
  have hlen : its.toArray.size = xs.length := by rw [List.size_toArray]; exact r.length.symm
  refine ⟨"tuple", _, PyProof.Rows.slot_tuple_getitem.lookup, ht.typeIs, ?_⟩
  refine HT.getItem_tuple_cut ht hs pl pu (by rw [hlen]; exact hw) ?_ (by rw [hlen]; exact hz)
  rw [hlen]
  refine ⟨.ref s.heap.objs.size, _, I.laid (t' := s.toks) (o := .tup (cutV xs lo hi)) (fun b ob q => Heap.get?_push_of_some _ q) (Nat.le_refl _) ?_, rfl, q _ (I.hok.fresh (Nat.le_refl _))⟩
  exact ⟨Nat.le_trans (cutV_length xs lo hi) hz, _, (r.drop (HT.sIx xs.length 0 lo)).take (HT.sIx xs.length xs.length hi - HT.sIx xs.length 0 lo), IsTup.new _ _⟩
end
end L2
namespace L2
open PySem PySem.Spec PyProof.Rows
def ixN (n : Nat) (i : Int) : Option Nat := if 0 ≤ i then (if i < n then some i.toNat else none) else if -(n : Int) ≤ i then some (i + n).toNat else none
def atI {α : Type} (xs : List α) (i : Int) : Option α := (ixN xs.length i).bind fun j => xs[j]?
theorem ixN_seq {n : Nat} {i : Int} {j : Nat} (h : ixN n i = some j) : seqIndex? i n = some j ∧ j < n ∧ -(n : Int) ≤ i ∧ i < n := by
  unfold ixN at h
  by_cases h0 : 0 ≤ i
  · rw [if_pos h0] at h
    by_cases h1 : i < n
    · rw [if_pos h1] at h
      have e : i.toNat = j := Option.some.inj h
      exact ⟨by rw [seqIndex_of h0 h1, e], by omega, by omega, h1⟩
    · rw [if_neg h1] at h; cases h
  · rw [if_neg h0] at h
    by_cases h1 : -(n : Int) ≤ i
    · rw [if_pos h1] at h
      have e : (i + n).toNat = j := Option.some.inj h
      exact ⟨by rw [seqIndex_neg (by omega) h1, e], by omega, h1, by omega⟩
    · rw [if_neg h1] at h; cases h
theorem atI_get {α : Type} {xs : List α} {i : Int} {v : α} (h : atI xs i = some v) : ∃ j, seqIndex? i xs.length = some j ∧ xs[j]? = some v ∧ j < xs.length ∧ -(xs.length : Int) ≤ i ∧ i < xs.length := by
  unfold atI at h
  cases e : ixN xs.length i with
  | none => rw [e] at h; cases h
  | some j =>
    rw [e] at h
    obtain ⟨h1, h2, h3, h4⟩ := ixN_seq e
    exact ⟨j, h1, h, h2, h3, h4⟩
theorem atI_nat {α : Type} {xs : List α} {j : Nat} {v : α} (h : xs[j]? = some v) : atI xs (j : Int) = some v := by
  have hj : j < xs.length := (List.getElem?_eq_some_iff.mp h).1
  have e : ixN xs.length (j : Int) = some j := by
    unfold ixN
    rw [if_pos (by omega), if_pos (by omega)]; simp
  unfold atI; rw [e]; exact h
def PlainIx (b : Expr) : Prop := ∀ o i, subscripted b false o i = operate [o, i] (getItem o i)
def IxR (X : Cx) (r : R2) : Prop :=
  ∀ (value slice : Expr) (pins : List (Addr × Obj)) (s : Shared) (σ : St) (H : Hp) (x y : V) (v u : Value) (Q : VK), Inv X pins σ H s → RelV x v → RelV y u → r x y H Q →
    subscripted slice false v u = operate [v, u] (getItem v u) → wpAny (model X.prog X.w) X.A (subscriptTail value slice v u) (EP X pins σ Q) X.xe s
def MtR (X : Cx) (id : String) (r : V → List V → Hp → VK → Prop) : Prop :=
  ∀ (pins : List (Addr × Obj)) (s : Shared) (σ : St) (H : Hp) (x : V) (xs : List V) (v : Value) (us : List Value) (Q : VK), Inv X pins σ H s → RelV x v → Vals xs us → r x xs H Q →
    wpAny (model X.prog X.w) X.A (call (.builtin id) (v :: us)) (EP X pins σ Q) X.xe s
section
variable {X : Cx} {a b : Expr} {ta tb : TE} {pos : Pos}
theorem pe_ix {r : R2} (hr : IxR X r) (ha : PE X a ta) (hb : PE X b tb) (hs : PlainIx b) : PE X (.Subscript a b pos) (tOp r ta tb) := by
  intro pins s σ H Q I h
  exact Subscript_ (binT ha hb I h fun v u s2 x y H2 I2 rx ry q => hr a b pins s2 σ H2 x y v u Q I2 rx ry q (hs _ _))
def rIxL (K : PySem.W.Frag) : R2 := fun x y H Q => ∃ p xs i v, x = .ref p ∧ y = .int i ∧ SqL K H p xs ∧ atI xs i = some v ∧ Q v H
def rIxT (K : PySem.W.Frag) : R2 := fun x y H Q => ∃ p xs i v, x = .ref p ∧ y = .int i ∧ SqT K H p xs ∧ atI xs i = some v ∧ Q v H
def rIxS : R2 := fun x y H Q => ∃ z i c, x = .str z ∧ y = .int i ∧ z.length ≤ sizeLine ∧ atI z.cps.toList i = some c ∧ Q (.str ⟨#[c]⟩) H
theorem ix_list : IxR X (rIxL X.K) := by
  intro value slice pins s σ H x y v u Q I rx ry h hs
  obtain ⟨p, xs, i, z, rfl, rfl, hq, he, q⟩ := h
  cases rx
  obtain ⟨t, rfl⟩ := ry
  obtain ⟨its, r, pl, hz⟩ := I.list hq
  obtain ⟨j, h1, h2, h3, h4, h5⟩ := atI_get he
  obtain ⟨w, ew, rw'⟩ := r.get h2
  have hl := r.length
  have hn := line63
  have fin : EP X pins σ Q w s := ⟨z, H, I, rw', q⟩
  by_cases h0 : 0 ≤ i
  · have hj : i.toNat = j := by
      rw [seqIndex_of h0 h5] at h1
      exact Option.some.inj h1
    exact item_listR pl.isList h0 (by omega) (by rw [hj]; simpa using ew) fin hs
  · have hj : (i + (its.toArray.size : Int)).toNat = j := by
      rw [seqIndex_neg (by omega) h4] at h1
      rw [List.size_toArray, ← hl]
      exact Option.some.inj h1
    exact subscriptTail_builtinR (x := w) pl.isList.typeIs slot_list_getitem.lookup
      (wpAny_getItem_list_neg (Q := fun r s' => r = w ∧ EP X pins σ Q r s') pl.isList (by omega) (by rw [List.size_toArray] <;> omega) (by omega) (by rw [hj]; simpa using ew) ⟨rfl, fin⟩) hs
theorem ix_tup : IxR X (rIxT X.K) := by
  intro value slice pins s σ H x y v u Q I rx ry h hs
  obtain ⟨p, xs, i, z, rfl, rfl, hq, he, q⟩ := h
  cases rx
  obtain ⟨t, rfl⟩ := ry
  obtain ⟨its, r, pl, hz⟩ := I.tuple hq
  obtain ⟨j, h1, h2, h3, h4, h5⟩ := atI_get he
  obtain ⟨w, ew, rw'⟩ := r.get h2
  have hl := r.length
  have hn := line63
  have fin : EP X pins σ Q w s := ⟨z, H, I, rw', q⟩
  exact subscriptTail_builtinR (x := w) pl.typeIs slot_tuple_getitem.lookup
    (getItem_tuple (j := j) (Q := fun r s' => r = w ∧ EP X pins σ Q r s') pl (by omega) (by omega) (by rw [List.size_toArray, ← hl]; exact h1) (by simpa using ew) ⟨rfl, fin⟩) hs
theorem ix_str : IxR X rIxS := by
  intro value slice pins s σ H x y v u Q I rx ry h hs
  obtain ⟨z, i, c, rfl, rfl, hz, he, q⟩ := h
  obtain ⟨t, rfl⟩ := rx
  obtain ⟨t', rfl⟩ := ry
  obtain ⟨j, h1, h2, h3, h4, h5⟩ := atI_get he
  have hl : z.cps.toList.length = z.length := by simp [Str.length]
  rw [hl] at h1 h4 h5
  have hn := line63
  exact tail_any (typeIs_str s z t) slot_str_getitem.lookup (getItem_str (c := c) (by
    have e1 : decide (i < -(2 ^ 63 : Int)) = false := decide_eq_false (by omega)
    have e2 : decide (i ≥ 2 ^ 63) = false := decide_eq_false (by omega)
    rw [e1, e2, Bool.or_false]) (by rw [h1]; simpa using h2) ⟨.str ⟨#[c]⟩, H, I.tok _, ⟨_, rfl⟩, q⟩) hs
theorem slice_bounds (lo hi : Option Int) (n : Nat) : (sliceBounds lo hi none n).1 = ((HT.sIx n 0 lo : Nat) : Int) ∧ (sliceBounds lo hi none n).2.1 = ((HT.sIx n n hi : Nat) : Int) ∧ (sliceBounds lo hi none n).2.2 = 1 := by
  refine ⟨?_, ?_, rfl⟩
  · cases lo with
    | none => simp [sliceBounds, HT.sIx]
    | some i =>
      simp only [sliceBounds, HT.sIx, Option.getD_none, show (1 : Int) > 0 by decide, if_true]
      by_cases h : i < 0
      · simp only [h, if_true] <;> omega
      · simp only [h, if_false] <;> omega
  · cases hi with
    | none => simp [sliceBounds, HT.sIx]
    | some i =>
      simp only [sliceBounds, HT.sIx, Option.getD_none, show (1 : Int) > 0 by decide, if_true]
      by_cases h : i < 0
      · simp only [h, if_true] <;> omega
      · simp only [h, if_false] <;> omega
theorem slicePick_cut (its : List Value) (lo hi : Option Int) : slicePick its.toArray lo hi none = ((its.drop (HT.sIx its.length 0 lo)).take (HT.sIx its.length its.length hi - HT.sIx its.length 0 lo)).toArray := by
  obtain ⟨h1, h2, h3⟩ := slice_bounds lo hi its.toArray.size
  unfold slicePick
  rw [h1, h2, h3]
  simp only [sliceRange_one, pick_run, List.size_toArray] <;> rfl
def rSlL (K : PySem.W.Frag) : V → Option Int → Option Int → Hp → VK → Prop := fun x lo hi H Q => ∃ a xs, x = .ref a ∧ SqL K H a xs ∧ ∀ p, H p = none → Q (.ref p) (upd H p (.lst (cutV xs lo hi)))
theorem sl_list : SlR X (rSlL X.K) := by
  intro pins s σ H x v vl vu lo hi sl Q I rx hs pl pu h
  obtain ⟨a, xs, rfl, hx, q⟩ := h
  cases rx
  obtain ⟨its, r, ht, hz⟩ := I.list hx
  have hlen := r.length
  refine ⟨"list", _, slot_list_getitem.lookup, ht.isList.typeIs, ?_⟩
  refine wpAny_getItem_list_slice ht.isList hs pl pu .none (by simp) ?_ (by rw [List.size_toArray] <;> omega)
  rw [slicePick_cut, ← hlen]
  refine ⟨.ref s.heap.objs.size, _, I.laid (t' := s.toks) (o := .lst (cutV xs lo hi)) (fun b ob q => Heap.get?_push_of_some _ q) (Nat.le_refl _) ?_, rfl, q _ (I.hok.fresh (Nat.le_refl _))⟩
  exact ⟨Nat.le_trans (cutV_length xs lo hi) hz, _, 0, (r.drop (HT.sIx xs.length 0 lo)).take (HT.sIx xs.length xs.length hi - HT.sIx xs.length 0 lo), Heap.get?_push_size _ rfl⟩
theorem call_len_seq : CallR X (.builtin "len") (fun xs H Q => ∃ p ys, xs = [.ref p] ∧ (SqL X.K H p ys ∨ SqT X.K H p ys) ∧ Q (.int ys.length) H) := by
  intro pins s σ H xs us Q I r h
  obtain ⟨p, ys, rfl, hq, q⟩ := h
  obtain ⟨u, rfl, rx⟩ := vals1 r
  cases rx
  have hn := line63
  rcases hq with hq | hq
  · obtain ⟨its, r', pl, hz⟩ := I.list hq
    have hlen := r'.length
    exact Calls.call_len_list pl.isList (by simp only [List.size_toArray] <;> omega) ⟨.int ys.length, H, I.tok _, ⟨s.toks + 1, by rw [List.size_toArray, hlen]⟩, q⟩
  · obtain ⟨its, r', pl, hz⟩ := I.tuple hq
    have hlen := r'.length
    exact len_tuple pl (by simp only [List.size_toArray] <;> omega) ⟨.int ys.length, H, I.tok _, ⟨s.toks + 1, by rw [List.size_toArray, hlen]⟩, q⟩
theorem call_len_str : CallR X (.builtin "len") (fun xs H Q => ∃ z, xs = [.str z] ∧ z.length ≤ sizeLine ∧ Q (.int z.length) H) := by
  intro pins s σ H xs us Q I r h
  obtain ⟨z, rfl, hz, q⟩ := h
  obtain ⟨u, rfl, t, rfl⟩ := vals1 r
  have hn := line63
  exact len_str (by omega) ⟨.int z.length, H, I.tok _, ⟨_, rfl⟩, q⟩
theorem call_list_of : CallR X (.type "list") (fun xs H Q => ∃ p ys, xs = [.ref p] ∧ (SqL X.K H p ys ∨ SqT X.K H p ys) ∧ ∀ l, H l = none → Q (.ref l) (upd H l (.lst ys))) := by
  intro pins s σ H xs us Q I r h
  obtain ⟨p, ys, rfl, hq, q⟩ := h
  obtain ⟨u, rfl, rx⟩ := vals1 r
  cases rx
  have fin : ∀ (its : List Value), Vals ys its → ys.length ≤ sizeLine → ∀ (h' : Heap) (c' : Nat), (∀ b o', s.heap.get? b = some o' → h'.get? b = some o') →
      h'.get? s.heap.objs.size = some { cls := .type "list", dict := none, data := .seq its.toArray c', slots := #[] } → EP X pins σ Q (.ref s.heap.objs.size) { s with heap := h' } := fun its r' hz h' c' kp e =>
    ⟨.ref s.heap.objs.size, _, I.laid (t' := s.toks) kp (Nat.le_refl _) (show ObjOk X.prog X.w _ h' _ (.lst ys) from ⟨hz, its, c', r', e⟩), rfl, q _ (I.hok.fresh (Nat.le_refl _))⟩
  rcases hq with hq | hq
  · obtain ⟨its, r', pl, hz⟩ := I.list hq
    have hlen := r'.length
    obtain ⟨o, ho, hc, n, hd⟩ := pl.isList
    exact call_list_seq p (.inl rfl) ho hc hd (fun h' c' kp e => fin its r' hz h' c' kp e) (by simp only [List.size_toArray] <;> omega)
  · obtain ⟨its, r', pl, hz⟩ := I.tuple hq
    have hlen := r'.length
    obtain ⟨o, ho, hc, n, hd⟩ := pl
    exact call_list_seq p (.inr rfl) ho hc hd (fun h' c' kp e => fin its r' hz h' c' kp e) (by simp only [List.size_toArray] <;> omega)
theorem call_tuple_of : CallR X (.type "tuple") (fun xs H Q => ∃ p ys, xs = [.ref p] ∧ ((SqL X.K H p ys ∧ ∀ l, H l = none → Q (.ref l) (upd H l (.tup ys))) ∨ (SqT X.K H p ys ∧ Q (.ref p) H))) := by
  intro pins s σ H xs us Q I r h
  obtain ⟨p, ys, rfl, h⟩ := h
  obtain ⟨u, rfl, rx⟩ := vals1 r
  cases rx
  rcases h with ⟨hq, q⟩ | ⟨hq, q⟩
  · obtain ⟨its, r', pl, hz⟩ := I.list hq
    have hlen := r'.length
    refine call_tuple_list pl.isList (fun h' kp => ?_) (by simp only [List.size_toArray] <;> omega)
    have I1 : Inv X pins σ H { s with heap := h' } := I.kept (t' := s.toks) kp
    have I2 : Inv X pins σ (upd H h'.objs.size (.tup ys)) { s with heap := h'.push { cls := .type "tuple", data := .seq its.toArray } } :=
      I1.laid (t' := s.toks) (fun b o e => Heap.get?_push_of_some _ e) (Nat.le_refl _) (show ObjOk X.prog X.w _ _ _ (.tup ys) from ⟨hz, its, r', IsTup.new _ _⟩)
    exact ⟨.ref h'.objs.size, _, I2, rfl, q _ (I1.hok.fresh (Nat.le_refl _))⟩
  · obtain ⟨its, r', pl, hz⟩ := I.tuple hq
    exact call_tuple_same pl ⟨.ref p, H, I, rfl, q⟩
def tyV (K : PySem.W.Frag) (T : String) (x : V) (H : Hp) : Prop := match x with
  | .str _ => T = "str"
  | .int _ => T = "int"
  | .ref p => (T = "list" ∧ ∃ xs, SqL K H p xs) ∨ (T = "tuple" ∧ ∃ o, K.lookup p = some o ∧ o.cls = .type "tuple" ∧ o.dict = none) ∨
      (T = "dict" ∧ ((∃ kvs, H p = some (.dK kvs)) ∨ ∃ kvs, H p = some (.dT kvs))) ∨ (T = "set" ∧ ∃ S n, H p = some (.set S n))
  | _ => False
theorem tyV_is {pins : List (Addr × Obj)} {σ : St} {H : Hp} {s : Shared} {T : String} {x : V} {v : Value} (I : Inv X pins σ H s) (r : RelV x v) (ty : tyV X.K T x H) :
    s.TypeIs v T ∧ ∀ a, v = .ref a → ∃ ob, s.heap.get? a = some ob ∧ ob.dict = none := by
  cases x with
  | str z =>
    obtain ⟨t, rfl⟩ := r
    cases (show T = "str" from ty)
    exact ⟨typeIs_str s z t, fun _ e => nomatch e⟩
  | int i =>
    obtain ⟨t, rfl⟩ := r
    cases (show T = "int" from ty)
    exact ⟨typeIs_int s i t, fun _ e => nomatch e⟩
  | ref p =>
    cases r
    rcases ty with ⟨rfl, xs, hq⟩ | ⟨rfl, o, hk, hc, hd⟩ | ⟨rfl, hk⟩ | ⟨rfl, S, n, hk⟩
    · obtain ⟨its, _, pl, _⟩ := I.list hq
      refine ⟨pl.isList.typeIs, fun a e => ?_⟩
      cases e
      obtain ⟨o, n, e, c, hd, _⟩ := pl
      exact ⟨o, e, hd⟩
    · refine ⟨⟨o, I.kIn p o hk, hc⟩, fun a e => ?_⟩
      cases e
      exact ⟨o, I.kIn _ o hk, hd⟩
    · have z : ∃ o, s.heap.get? p = some o ∧ o.ExactDict := by
        rcases hk with ⟨kvs, hk⟩ | ⟨kvs, hk⟩
        · obtain ⟨_, _, _, _, o, _, _, e, ex, _⟩ := I.hok p _ hk
          exact ⟨o, e, ex⟩
        · obtain ⟨_, _, _, _, o, _, _, e, ex, _⟩ := I.hok p _ hk
          exact ⟨o, e, ex⟩
      obtain ⟨o, e, ex⟩ := z
      refine ⟨⟨o, e, ex.1⟩, fun a e2 => ?_⟩
      cases e2
      exact ⟨o, e, ex.2.1⟩
    · obtain ⟨o, _, _, _, e, ex, _⟩ := I.hok p _ hk
      refine ⟨⟨o, e, ex.1⟩, fun a e2 => ?_⟩
      cases e2
      exact ⟨o, e, ex.2.1⟩
  | _ => exact False.elim ty
def tBM0 (K : PySem.W.Frag) (T : String) (r : V → List V → Hp → VK → Prop) (to : TE) : TE := fun σ H Q => to σ H fun x H1 => tyV K T x H1 ∧ r x [] H1 Q
def tBM (K : PySem.W.Frag) (T : String) (r : V → List V → Hp → VK → Prop) (to : TE) (t : TA) : TE := fun σ H Q => to σ H fun x H1 => tyV K T x H1 ∧ t σ H1 fun xs H2 => r x xs H2 Q
variable {o e : Expr} {es : List Expr} {to : TE} {t : TA} {name : Str} {apos cpos : Pos} {T id : String} {r : V → List V → Hp → VK → Prop}
theorem pe_bm0 (pa : PlainAttrs T) (slot : Slot T name id) (hty : typeOf (.builtin id) = pure (.type "method_descriptor")) (hm : MtR X id r) (ho : PE X o to)
    (hbase : attributeBase o name X.env (eval o X.env) = eval o X.env := by rfl) (hline : (apos.endLine == cpos.line) = true := by rfl) : PE X (.Call (.Attribute o name apos) [] [] cpos) (tBM0 X.K T r to) := by
  intro pins s σ H Q I h
  refine wpAny_Call_method0_late hbase hline (thn (ho pins s σ H _ I h) fun v s1 ⟨x, H1, I1, r1, ty, q1⟩ => ?_)
  obtain ⟨h1, h2⟩ := tyV_is I1 r1 ty
  exact ⟨T, id, pa, slot, hty, h1, h2, Calls.callWith_builtin rfl (PySem.evalArgs_none (hm pins s1 σ H1 x [] v [] Q I1 r1 .nil q1))⟩
theorem pe_bm (pa : PlainAttrs T) (slot : Slot T name id) (hty : typeOf (.builtin id) = pure (.type "method_descriptor")) (hm : MtR X id r) (ho : PE X o to) (ha : PA X (e :: es) t)
    (hbase : attributeBase o name X.env (eval o X.env) = eval o X.env := by rfl)
    (hfew : ((backTo cpos (starEach (e :: es) X.env)).all (fun x => !x.1) && (backToKw cpos (keywordEach [] X.env)).all (fun x => x.1.isSome)
      && decide ((e :: es).length + ([] : List Keyword).length + (if ([] : List Keyword).isEmpty then 0 else 1) < 30)) = true := by rfl)
    (hline : (apos.endLine == cpos.line) = true := by rfl) (hs : starEach (e :: es) X.env = (false, eval e X.env) :: starEach es X.env := by rfl) (hplain : (backTo cpos (starEach es X.env)).any (·.1) = false := by rfl) :
    PE X (.Call (.Attribute o name apos) (e :: es) [] cpos) (tBM X.K T r to t) := by
  intro pins s σ H Q I h
  refine wpAny_Call_method_late hbase hfew hline rfl (thn (ho pins s σ H _ I h) fun v s1 ⟨x, H1, I1, r1, ty, q1⟩ => ?_)
  obtain ⟨h1, h2⟩ := tyV_is I1 r1 ty
  refine ⟨T, id, pa, slot, hty, h1, h2, ?_⟩
  have hA := ha cpos pins s1 σ H1 _ I1 q1
  rw [hs] at hA ⊢
  refine Calls.callWith_builtin (by show (false || (backTo cpos (starEach es X.env)).any (·.1)) = false; rw [hplain] <;> rfl) (Calls.evalArgs_plain ?_)
  exact thn hA fun us s2 ⟨vs, H2, I2, r2, q2⟩ => hm pins s2 σ H2 x vs v us Q I2 r1 r2 q2
end
end L2
namespace L2
open PySem PySem.Spec PyProof.Rows
section
variable {X : Cx} {pins : List (Addr × Obj)} {σ : St} {H : Hp} {s : Shared} {l b : Addr} {xs ys zs : List V}
theorem Inv.lnew {its : List Value} {t' : Nat} (I : Inv X pins σ H s) (hv : Vals ys its) (hz : ys.length ≤ sizeLine) :
    Inv X pins σ (upd H s.heap.objs.size (.lst ys)) { s with heap := s.heap.push { cls := .type "list", data := .seq its.toArray }, toks := t' } :=
  I.laid (fun _ _ q => Heap.get?_push_of_some _ q) (Nat.le_refl _) ⟨hz, its, 0, hv, Heap.get?_push_size _ rfl⟩
theorem Inv.fresh (I : Inv X pins σ H s) : H s.heap.objs.size = none := I.hok.fresh (Nat.le_refl _)
theorem Inv.lstM (I : Inv X pins σ H s) (hH : H l = some (.lst xs)) : xs.length ≤ sizeLine ∧ ∃ (its : List Value) (n : Nat), Vals xs its ∧ xs.length = its.length ∧ s.heap.get? l = some { cls := .type "list", data := .seq its.toArray n } := by
  obtain ⟨z, its, n, r, e⟩ := I.hok l _ hH
  exact ⟨z, its, n, r, r.length, e⟩
end
section
variable {X : Cx}
def rCat : R2 := fun x y H Q => ∃ l b xs zs, x = .ref l ∧ y = .ref b ∧ H l = some (.lst xs) ∧ H b = some (.lst zs) ∧ xs.length + zs.length ≤ sizeLine ∧ ∀ p, H p = none → Q (.ref p) (upd H p (.lst (xs ++ zs)))
theorem op_cat : OpR X (binaryOp .Add) rCat := by
  intro pins s σ H x y v u Q I rx ry h
  obtain ⟨l, b, xs, zs, rfl, rfl, hH, hB, hz, q⟩ := h
  cases rx
  cases ry
  obtain ⟨z, its, n, r, hl, e⟩ := I.lstM hH
  obtain ⟨z2, its2, n2, r2, hl2, e2⟩ := I.lstM hB
  refine PySem.P.add_list e e2 ?_ (by rw [List.size_toArray, List.size_toArray]; omega)
  have ea : its.toArray ++ its2.toArray = (its ++ its2).toArray := by simp
  rw [ea]
  exact ⟨.ref _, _, I.lnew (t' := s.toks) (r.append r2) (by rw [List.length_append]; omega), rfl, q _ I.fresh⟩
end
section
variable {prog : Program} {w : World} {A : Around} {E : Value → Shared → Prop} {s : Shared}
end
section
variable {X : Cx}
end
end L2
namespace Att
open PySem PySem.W PySem.Calls PyProof.Rows
theorem ints_of_wellAll {P : Params} {h : Heap} : ∀ (ns : List Int) (vs : List Value), WellAll P h vs (ns.map WData.int) → IntsAre vs ns := by
  intro ns
  induction ns with
  | nil =>
    intro vs w
    rw [List.map_nil] at w
    cases w
    exact .nil
  | cons n ns ih =>
    intro vs w
    rw [List.map_cons] at w
    cases w with
    | cons a b =>
      cases a
      exact .cons _ _ (ih _ b)
theorem script_of {l : OpenLaw} {n : Nat} (hn : l.most = some n) {P : Params} {h : Heap} {args : List WData} {vals : List Value}
    (hpre : l.row.toRowW.claim.pre args = true) (hwl : WellAll P h vals args) :
    ∃ a vs ns, vals = [Value.ref a] ∧ args = [WData.list (ns.map WData.int)] ∧ h.get? a = some { cls := .type "list", data := .seq vs.toArray } ∧ IntsAre vs ns ∧ ns.length ≤ n := by
  have hsh : WShape.hasAll [] args [.list .int] = true := (pre_splitW hpre).1
  have hc : l.pre.holds [] { args := args } = true := (pre_splitW hpre).2
  obtain ⟨d, r, rfl, h1, h2⟩ := hasAllW_cons hsh
  obtain rfl := hasAllW_nil h2
  obtain ⟨xs, rfl, h3⟩ := hasW_list h1
  obtain ⟨ns, rfl⟩ := items_int h3
  have hlen : ns.length ≤ n := by
    unfold OpenLaw.pre at hc
    have h4 : (WTm.not (.lt (.lit (.int (n : Int))) (.len (.arg 0)))).holds [] { args := [.list (ns.map .int)] } = true := by
      have h4 := (holds_andW hc).1
      rw [hn] at h4
      exact h4
    have h5 := condW_of h4 (w_not (w_lt w_lit (w_len_list (w_arg rfl))))
    rw [List.length_map] at h5
    refine Nat.le_of_not_lt fun q => ?_
    have q' : (n : Int) < ((ns.length : Nat) : Int) := by omega
    first
      | (rw [decide_eq_true q'] at h5; exact absurd h5 (by decide))
      | (simp at h5; omega)
  cases hwl with
  | cons w1 w2 =>
    cases w2
    cases w1 with
    | list ho hall => exact ⟨_, _, ns, rfl, rfl, ho, ints_of_wellAll ns _ hall, hlen⟩
theorem post_true (l : OpenLaw) (args : List WData) : l.row.toRowW.claim.post args (.bool true) args = true :=
  postW_of (r := l.row.toRowW) (X := (true == true))
    (show WShape.has [] (.bool true) .bool = true by first | rfl | decide | simp [WShape.has, WShape.arms, WShape.armsAll])
    (show (WTm.eq .res (.lit (.bool true))).value [] { args := args, res := some (.bool true), after := args } = some (.bool (true == true)) from w_eq_bool (w_res rfl) w_lit) rfl
theorem attach_call {l : OpenLaw} {n : Nat} {q : Program} {loose : List Str} {XP : (Str → Option Value) → Heap → Prop} {YP : World → Heap → Prop} {d : DefRec}
    (hn : l.most = some n) (hdf : d.params.defaults = [])
    (call : ∀ (w : World) (s₀ s₁ : Shared) (mg mb : Str → Option Value) (fa : Addr) (o : Obj) (pm cd doc : Value) (a : Addr) (vs : List Value) (ns : List Int),
      Ground q loose [] XP w s₀ mg mb s₁.heap → YP w s₁.heap →
      s₁.heap.get? fa = some o → o.data = .func (docDef d.name d.params d.body d.scope pm cd doc) → s₁.heap.CodeRec cd d.name → mg d.name = some (.ref fa) →
      s₁.heap.get? a = some { cls := .type "list", data := .seq vs.toArray } → IntsAre vs ns → ns.length ≤ n → s₁.gens = #[] →
      codeAny (model l.prog w) callerA (.call (.ref fa) ⟨[.ref a], []⟩) (fun r s' => r = .ok (.ret (.bool true)) ∧ OldK s₁.heap s'.heap ∧ s'.os = s₁.os ∧ AllBare s'.gens) s₁) :
    WalkO q loose XP YP l.row.toRowW d [] (fun f vs => PySem.call f vs) := by
  intro w s₀ s₁ mg mb G Y fa o pm cd doc dV kV ho hd hcd hD hmg hg args vals as hpre hlay hrd hwl hlo
  obtain rfl : dV = .none := Dflts.none hD hdf
  obtain rfl : kV = .none := Dflts.noKw hD
  obtain ⟨a, vs, ns, rfl, rfl, hobj, hints, hlen⟩ := script_of hn hpre hwl
  refine enter_call (codeAny_mono (call w s₀ s₁ mg mb fa o pm cd doc a vs ns G Y ho (fd_plain hd) hcd hmg hobj hints hlen hg) fun r s' hq => ?_)
  obtain ⟨rfl, h2, h3, h4⟩ := hq
  exact ⟨.inl ⟨.bool true, .bool true, [], rfl, fun _ => rfl, .bool true, post_true l _, fun _ => ⟨List.Pairwise.nil, fun _ hm => (nomatch hm)⟩⟩, h2, h3, h4⟩
section
variable {prog : Program} {w : World} {A : Around} {E : Value → Shared → Prop} {s : Shared} {K : Frag}
end
end Att
namespace L2
open PySem PySem.Spec PyProof.Rows
theorem vals_ints : ∀ {vs : List Value} {ns : List Int}, IntsAre vs ns → Vals (ns.map V.int) vs
  | _, _, .nil => .nil
  | _, _, .cons n t h => .cons ⟨t, rfl⟩ (vals_ints h)
def Only (H : Hp) : Prop := ∀ b, H b = none ∨ ∃ o xs, H b = some (.frz o (.lst xs))
theorem law_call {P : Program} {w : World} {K : PySem.W.Frag} {mg mb : Str → Option Value} {CX : CXT} {k : Nat} {fa a : Addr} {fd : FuncData} {x : Str} {sp : Sp} {s₁ : Shared} {vs : List Value} {ns : List Int}
    (KX : K.In s₁.heap) (hns : s₁.heap.Ns mainGlobals mg) (hb : s₁.heap.Ns builtinsNs mb) (hbb : ∀ x : Str, x ≠ "__name__" → mb x = bootBuiltins x) (hlim : s₁.heap.NoLimit) (hg : s₁.gens = #[])
    (ha : s₁.heap.get? a = some { cls := .type "list", data := .seq vs.toArray }) (hi : IntsAre vs ns) (hl : ns.length ≤ sizeLine) (hr : Room k callerA)
    (F : ∀ base : Heap, K.In base → base.Ns mainGlobals mg → FnOk P w K mg base CX k fa fd [x] sp) (hbind : ∀ (s : Shared) (u : Value), BindsTo s fd ⟨[u], []⟩ [(x, u)])
    (hsp : ∀ H : Hp, Only H → SqL K H a (ns.map V.int) → sp [.ref a] H (fun v _ => v = .bl true) fun _ _ _ => False)
    (hCX : ∀ H e s', CX [] H s₁ (fun _ _ _ => False) e s' → False) :
    codeAny (model P w) callerA (.call (.ref fa) ⟨[.ref a], []⟩) (fun r s' => r = .ok (.ret (.bool true)) ∧ OldK s₁.heap s'.heap ∧ s'.os = s₁.os ∧ AllBare s'.gens) s₁ := by
  have rv := vals_ints hi
  have lenV := hi.length
  have core : ∀ H : Hp, Only H → SqL K H a (ns.map V.int) → HOk P w H s₁.heap → (∀ b, H b ≠ none → b = a) → (H a ≠ none → K.lookup a = none) →
      codeAny (model P w) callerA (.call (.ref fa) ⟨[.ref a], []⟩) (fun r s' => r = .ok (.ret (.bool true)) ∧ OldK s₁.heap s'.heap ∧ s'.os = s₁.os ∧ AllBare s'.gens) s₁ := by
    intro H hO hS hok hA hK
    have base_of : ∀ {b : Addr} {o : Obj}, s₁.heap.get? b = some o → H b = none → (hidT s₁.heap H).get? b = some o := fun e n => hidT_get e n
    have noA : ∀ {b : Addr} {o : Obj} {es : Array DictEntry} {ep : Nat}, s₁.heap.get? b = some o → o.data = .dict es ep → H b = none := fun {b o es ep} e d => by
      cases q : H b with
      | none => rfl
      | some u =>
        have e' : b = a := hA b (by rw [q]; simp)
        subst e'
        rw [ha] at e; cases e
        have d' : Data.seq vs.toArray _ = Data.dict es ep := d
        cases d'
    have nsK : ∀ {b : Addr} {m : Str → Option Value}, s₁.heap.Ns b m → (hidT s₁.heap H).Ns b m := fun {b m} ⟨o, es, ep, e, d, r⟩ => ⟨o, es, ep, base_of e (noA e d), d, r⟩
    have hKb : K.In (hidT s₁.heap H) := fun b o e => base_of (KX b o e) (by
      cases q : H b with
      | none => rfl
      | some u =>
        have e' : b = a := hA b (by rw [q]; simp)
        subst e'
        rw [hK (by rw [q]; simp)] at e; cases e)
    have hM : Mod K mg (hidT s₁.heap H) := ⟨hKb, nsK hns, ⟨mb, nsK hb, hbb⟩, let ⟨mc, h1, h2⟩ := hlim; ⟨mc, nsK h1, h2⟩⟩
    have e0 : Env0 P w K mg (hidT s₁.heap H) callerA [] s₁ H := ⟨rfl, hM, fun b o e => of_hidT e, Nat.le_of_eq (hidT_size _ _), trivial, fun b hb => absurd (show b ∈ ([] : List Addr) from hb) (by simp), hok, .of_eq hg⟩
    refine codeAny_mono ((F _ hKb (nsK hns)).run callerA [] s₁ H ⟨[.ref a], []⟩ [.ref a] [.ref a] _ _ hr e0 (hbind s₁ (.ref a)) (.cons rfl .nil) (hsp H hO hS)) fun r s' h => ?_
    cases r with
    | error e => exact (hCX H e s' h).elim
    | ok fl =>
      cases fl with
      | next => exact False.elim h
      | brk => exact False.elim h
      | cont => exact False.elim h
      | ret u =>
        obtain ⟨v, H', os, bare, un, hok', r', q⟩ := h
        have q' : v = .bl true := q
        subst q'
        obtain rfl : u = Value.bool true := r'
        refine ⟨rfl, OldK.of_keep fun b o e => ?_, os, bare⟩
        cases q : H b with
        | none => exact un.keep b o e q (by intro z; exact absurd (show b ∈ ([] : List Addr) from z) (by simp)) (by simp)
        | some u =>
          rcases hO b with z | ⟨ob, xs, z⟩
          · rw [q] at z; cases z
          · have z2 := un.frzs b ob _ z
            obtain ⟨e1, _⟩ := hok b _ z
            obtain ⟨e2, _⟩ := hok' b _ z2
            rw [e] at e1; cases e1
            exact e2
  cases hk : K.lookup a with
  | some o =>
    have e := KX a o hk
    rw [ha] at e
    cases e
    refine core (fun _ => none) (fun _ => .inl rfl) (.inr ⟨_, vs.toArray, _, hk, rfl, rfl, rfl, by rw [List.size_toArray, lenV]; exact hl, by simpa using rv⟩) (fun b u z => by have z' : (none : Option HO) = some u := z; cases z') (fun b z => absurd rfl z) fun z => absurd rfl z
  | none =>
    refine core (fun b => if b = a then some (.frz { cls := .type "list", data := .seq vs.toArray } (.lst (ns.map V.int))) else none) (fun b => ?_) (.inl (.inr ⟨{ cls := .type "list", data := .seq vs.toArray }, if_pos rfl⟩)) (fun b u z => ?_) (fun b z => ?_) fun _ => hk
    · by_cases hb : b = a
      · exact .inr ⟨_, _, if_pos hb⟩
      · exact .inl (if_neg hb)
    · by_cases hb : b = a
      · have z' := (if_pos hb).symm.trans z
        cases z'
        subst hb
        exact ⟨ha, by rw [List.length_map]; exact hl, vs, _, rv, ha⟩
      · have z' := (if_neg hb).symm.trans z
        cases z'
    · by_cases hb : b = a
      · exact hb
      · exact absurd (if_neg hb) z
end L2
namespace L2
open PySem PySem.Spec PyProof.Rows
theorem walk_of {l : PySem.W.OpenLaw} {n k : Nat} {q : Program} {loose : List Str} {XP : (Str → Option Value) → Heap → Prop} {YP : World → Heap → Prop} {d : DefRec} {K : Params → PySem.W.Frag} {CX : World → CXT} {sp : World → Sp} {x : Str}
    (hn : l.most = some n) (hn2 : n ≤ sizeLine) (hdf : d.params.defaults = []) (hr : Room k callerA)
    (hY : ∀ (w : World) (h : Heap), YP w h → (K w.params).In h)
    (F : ∀ (w : World) (mg : Str → Option Value) (fa : Addr) (h : Heap), (K w.params).In h → h.Ns mainGlobals mg → mg d.name = some (.ref fa) →
      ∃ fd : FuncData, (∀ (s : Shared) (u : Value), BindsTo s fd ⟨[u], []⟩ [(x, u)]) ∧
        ∀ base : Heap, (K w.params).In base → base.Ns mainGlobals mg → FnOk l.prog w (K w.params) mg base (CX w) k fa fd [x] (sp w))
    (hsp : ∀ (w : World) (H : Hp) (a : Addr) (ns : List Int), ns.length ≤ n → Only H → SqL (K w.params) H a (ns.map V.int) → sp w [.ref a] H (fun v _ => v = .bl true) fun _ _ _ => False)
    (hCX : ∀ (w : World) (H : Hp) (s : Shared) (e : Value) (s' : Shared), CX w [] H s (fun _ _ _ => False) e s' → False) :
    PySem.W.WalkO q loose XP YP l.row.toRowW d [] (fun f vs => PySem.call f vs) := by
  refine Att.attach_call hn hdf fun w s₀ s₁ mg mb fa o pm cd doc a vs ns G Y ho hd hcd hmg hobj hints hlen hg => ?_
  have KX := hY w _ Y
  obtain ⟨fd, hb, hF⟩ := F w mg fa _ KX G.T.g hmg
  exact law_call KX G.T.g G.T.b G.T.builtins G.T.nolimit hg hobj hints (Nat.le_trans hlen hn2) hr hF hb (fun H hO hS => hsp w H a ns hlen hO hS) fun H e s' => hCX w H s₁ e s'
end L2
namespace L2
open PySem PySem.Spec PyProof.Rows
def inClass (s : Stmt) (j : Nat) : Stmt := match s with
  | .ClassDef _ _ _ body _ _ _ _ _ _ _ => body.getD j (.Pass ⟨0, 0, 0, 0⟩)
  | _ => .Pass ⟨0, 0, 0, 0⟩
def defArgs (s : Stmt) : Arguments := match s with
  | .FunctionDef _ a _ _ _ _ _ _ _ _ => a
  | _ => { posonlyargs := [], args := [], vararg := none, kwonlyargs := [], kw_defaults := [], kwarg := none, defaults := [] }
def defBody (s : Stmt) : List Stmt := match s with
  | .FunctionDef _ _ b _ _ _ _ _ _ _ => b
  | _ => []
def defScope (s : Stmt) : Scope := match s with
  | .FunctionDef _ _ _ _ _ _ sc _ _ _ => sc
  | _ => { kind := .function, names := [], isGenerator := false, isCoroutine := false }
abbrev CX0 : CXT := fun _ _ _ _ _ _ => False
abbrev E0 : XK := fun _ _ _ => False
theorem pass0 {X : Cx} : Passes CX0 X E0 := fun _ _ _ _ _ _ _ h => h.elim
structure Fun (K : PySem.W.Frag) (x qual : Str) (st : Stmt) (f : Addr) (fd : FuncData) : Prop where
  ex : ∃ (oc : Value) (od : Option Addr) (kV doc pm : Value) (an : Option Addr) (cdv ct : Value) (osl : Array (Option Value)),
    fd = PySem.W.fnOf x qual (defArgs st) (defBody st) (defScope st) .none kV doc pm an cdv ct ∧ K.lookup f = some ⟨oc, od, .func fd, osl⟩ ∧ PySem.W.codeIn K cdv qual = true
  kp : PySem.W.keepIn K (.ref f) = true
section
variable {P : Program} {w : World} {K : PySem.W.Frag} {mg : Str → Option Value} {base : Heap}
theorem Fun.ok {x qual : Str} {st : Stmt} {f : Addr} {fd : FuncData} {N ps : List Str} {k : Nat} {sp : Sp} (F : Fun K x qual st f fd) (S : FnScope N ps (defScope st)) (len : ∀ vs H Q E, sp vs H Q E → vs.length = ps.length)
    (hbody : ∀ (cdv : Value) (A : Around) (outer : List Env) (s : Shared) (H : Hp) (vs : List V) (Q : VK) (E : XK), Room k (A.deeper (envOfC qual (defScope st) s.heap.objs.size f cdv)) → sp vs H Q E →
      ∃ t, PSs (cxOf CX0 P w K mg base N qual (defScope st) f cdv A outer s H E).nox (defBody st) t ∧ t { nx := fun _ H' => Q .non H', rt := Q } (start N vs) H) : FnOk P w K mg base CX0 (k + 1) f fd ps sp := by
  obtain ⟨oc, od, kV, doc, pm, an, cdv, ct, osl, rfl, lk, hcd⟩ := F.ex
  refine fn_of lk hcd S len fun A outer s H vs Q E hr hsp => ?_
  obtain ⟨t, h, q⟩ := hbody cdv A outer s H vs Q E hr hsp
  exact ⟨t, h.nox, q⟩
theorem Fun.binds {x qual : Str} {st : Stmt} {f : Addr} {fd : FuncData} {ps : List Str} (F : Fun K x qual st f fd)
    (h : ∀ (kV doc pm : Value) (an : Option Addr) (cdv ct : Value) (us : List Value), us.length = ps.length → bindArgs (PySem.W.fnOf x qual (defArgs st) (defBody st) (defScope st) .none kV doc pm an cdv ct) ⟨us, []⟩ = pure (ps.zip us)) : Binds K fd ps [] := by
  obtain ⟨oc, od, kV, doc, pm, an, cdv, ct, osl, rfl, lk, hcd⟩ := F.ex
  exact .all (h kV doc pm an cdv ct)
theorem fun_mk {x qual : Str} {st : Stmt} {f : Addr} {oc : Value} {od an : Option Addr} {osl : Array (Option Value)} {kV doc pm cdv ct : Value} (l : K.lookup f = some ⟨oc, od, .func (PySem.W.fnOf x qual (defArgs st) (defBody st) (defScope st) .none kV doc pm an cdv ct), osl⟩)
    (c : PySem.W.codeIn K cdv qual = true) (k : PySem.W.keepIn K (.ref f) = true) : Fun K x qual st f (PySem.W.fnOf x qual (defArgs st) (defBody st) (defScope st) .none kV doc pm an cdv ct) := ⟨⟨oc, od, kV, doc, pm, an, cdv, ct, osl, rfl, l, c⟩, k⟩
end
section
variable {X : Cx}
theorem pv (i : Nat) {x : Str} {pos : Pos} (hN : X.N[i]? = some x := by rfl) (hv : Vis X.env.scope x := by first | exact Or.inl rfl | exact Or.inr (Or.inl rfl) | exact Or.inr (Or.inr rfl)) (hd : (x == ("__debug__" : Str)) = false := by decide)
    (hcd : (x == ("__classdict__" : Str)) = false := by decide) : PE X (.Name x pos) (tVar i) := pe_var hN hv hd hcd
end
theorem iteF {A B : Prop} (h : B) : if false = true then A else B := by
  rw [if_neg Bool.false_ne_true]
  exact h
theorem iteT {A B : Prop} (h : A) : if true = true then A else B := by
  rw [if_pos rfl]
  exact h
theorem ite2 {c A B : Prop} [Decidable c] (h1 : c → A) (h2 : ¬ c → B) : if c then A else B := by
  by_cases h : c
  · rw [if_pos h]
    exact h1 h
  · rw [if_neg h]
    exact h2 h
theorem iteNS {c A B : Prop} [Decidable c] (hc : c) (h : B) : if (!decide c) = true then A else B := by
  rw [decide_eq_true hc]
  exact iteF h
def Same (H H' : Hp) : Prop := ∀ b o, H b = some o → H' b = some o
theorem Same.refl (H : Hp) : Same H H := fun _ _ h => h
theorem Same.trans {H H1 H2 : Hp} (a : Same H H1) (b : Same H1 H2) : Same H H2 := fun c o h => b c o (a c o h)
theorem Same.seq {K : PySem.W.Frag} {H H' : Hp} {a : Addr} {xs : List V} (e : Same H H') (h : SqL K H a xs) : SqL K H' a xs := by
  rcases h with (h | ⟨o, h⟩) | h
  · exact .inl (.inl (e _ _ h))
  · exact .inl (.inr ⟨o, e _ _ h⟩)
  · exact .inr h
end L2
namespace L2
open PySem PySem.Spec PyProof.Rows
section
variable {X : Cx}
theorem call_isinst : CallR X (.builtin "isinstance") (fun xs H Q => ∃ x t n b, xs = [x, .ty n] ∧ TyOf X.K H x t ∧ PySem.W.kitOne X.K t (.type n) = some b ∧ Q (.bl b) H) := by
  intro pins s σ H xs us Q I r h
  obtain ⟨x, t, n, b, rfl, ty, e, q⟩ := h
  obtain ⟨u, u2, rfl, rx, r2⟩ := vals2 r
  cases (show u2 = Value.type n from r2)
  exact isinst_ok I rx ty e fun tk => ⟨.bl b, H, I.tok _, rfl, q⟩
theorem call_isinstC : CallR X (.builtin "isinstance") (fun xs H Q => ∃ x t C b, xs = [x, .ref C] ∧ TyOf X.K H x t ∧ PySem.W.kitOne X.K t (.ref C) = some b ∧ Q (.bl b) H) := by
  intro pins s σ H xs us Q I r h
  obtain ⟨x, t, C, b, rfl, ty, e, q⟩ := h
  obtain ⟨u, u2, rfl, rx, r2⟩ := vals2 r
  cases (show u2 = Value.ref C from r2)
  exact isinst_ok I rx ty e fun tk => ⟨.bl b, H, I.tok _, rfl, q⟩
theorem mt_startswith3 : MtR X "str.startswith" (fun x vs H Q => ∃ z y i, x = .str z ∧ vs = [.str y, .int i] ∧ Q (.bl (Txt.startswith3 z y i)) H) := by
  intro pins s σ H x xs v us Q I rx r h
  obtain ⟨z, y, i, rfl, rfl, q⟩ := h
  obtain ⟨t, rfl⟩ := rx
  obtain ⟨u, u2, rfl, ⟨t1, rfl⟩, ⟨t2, rfl⟩⟩ := vals2 r
  exact SC.startswith3 ⟨.bl _, H, I, rfl, q⟩
theorem mt_startswith : MtR X "str.startswith" (fun x vs H Q => ∃ z y, x = .str z ∧ vs = [.str y] ∧ Q (.bl (Txt.startswith z y)) H) := by
  intro pins s σ H x xs v us Q I rx r h
  obtain ⟨z, y, rfl, rfl, q⟩ := h
  obtain ⟨t, rfl⟩ := rx
  obtain ⟨u, rfl, ⟨t1, rfl⟩⟩ := vals1 r
  exact SC.startswith ⟨.bl _, H, I, rfl, q⟩
theorem mt_isdigit : MtR X "str.isdigit" (fun x vs H Q => ∃ z, x = .str z ∧ vs = [] ∧ Q (.bl (Txt.isdigit z)) H) := by
  intro pins s σ H x xs v us Q I rx r h
  obtain ⟨z, rfl, rfl, q⟩ := h
  obtain ⟨t, rfl⟩ := rx
  cases r
  exact SC.isdigit ⟨.bl _, H, I, rfl, q⟩
theorem call_int_text : CallR X (.type "int") (fun xs H Q => ∃ z n, xs = [.str z] ∧ PySem.intText? z = some n ∧ z.length ≤ 640 ∧ Q (.int n) H) := by
  intro pins s σ H xs us Q I r h
  obtain ⟨z, n, rfl, e, hl, q⟩ := h
  obtain ⟨u, rfl, ⟨t, rfl⟩⟩ := vals1 r
  exact PySem.W.KIN.call_text e hl ⟨.int n, H, I.tok _, ⟨_, rfl⟩, q⟩
theorem sl_str : SlR X (fun x lo hi H Q => ∃ z, x = .str z ∧ z.length ≤ sizeLine ∧ Q (.str (Txt.slice z lo hi)) H) := by
  intro pins s σ H x v vl vu lo hi sl Q I rx hs pl pu h
  obtain ⟨z, rfl, hz, q⟩ := h
  obtain ⟨t, rfl⟩ := rx
  refine ⟨"str", _, F.slot_str_getitem.lookup, typeIs_str _ _ _, ?_⟩
  cases pl <;> cases pu
  · exact wpAny_getItem_str_slice (l := none) (u := none) (st := none) hs rfl (post_val_or_str ⟨Nat.le_trans (Txt.slice_le z _ _) hz, fun t' k => ⟨.str _, H, I.tok _, ⟨_, rfl⟩, q⟩⟩)
  · exact wpAny_getItem_str_slice (l := none) (u := some (_, _)) (st := none) hs rfl (post_val_or_str ⟨Nat.le_trans (Txt.slice_le z _ _) hz, fun t' k => ⟨.str _, H, I.tok _, ⟨_, rfl⟩, q⟩⟩)
  · exact wpAny_getItem_str_slice (l := some (_, _)) (u := none) (st := none) hs rfl (post_val_or_str ⟨Nat.le_trans (Txt.slice_le z _ _) hz, fun t' k => ⟨.str _, H, I.tok _, ⟨_, rfl⟩, q⟩⟩)
  · exact wpAny_getItem_str_slice (l := some (_, _)) (u := some (_, _)) (st := none) hs rfl (post_val_or_str ⟨Nat.le_trans (Txt.slice_le z _ _) hz, fun t' k => ⟨.str _, H, I.tok _, ⟨_, rfl⟩, q⟩⟩)
theorem call_all_bl (hc : X.calm = true) : CallR X (.builtin "all") (fun xs H Q => ∃ (p : Addr) (bs : List Bool), xs = [.ref p] ∧ SqL X.K H p (bs.map V.bl) ∧ Q (.bl (bs.all id)) H) := by
  intro pins s σ H xs us Q I r h
  obtain ⟨p, bs, rfl, hq, q⟩ := h
  obtain ⟨u, rfl, rx⟩ := vals1 r
  cases (show u = Value.ref p from rx)
  obtain ⟨its, rv, pl, hz⟩ := I.list hq
  have hl := pl.isList
  have hlt : p < s.heap.objs.size := by obtain ⟨_, e, _⟩ := hl; exact Heap.lt_size e
  have hh : X.A.handled = none := I.ok.hd hc
  have hlen : bs.length = its.length := by have := rv.length; rw [List.length_map] at this; exact this
  refine call_all_walk (wpAny_pyIter_list hl ?_)
  refine ⟨s.heap.objs.size, [s.heap.objs.size, p], [s.heap.objs.size], its.toArray.size, _, _, fun i => (bs[i]?).getD true, rfl, Walks.list (A := X.A.in1) hh _ p (Nat.ne_of_lt hlt) its.toArray,
    ⟨⟨_, Heap.get?_push_size _ rfl, rfl, rfl⟩, hl.push _⟩, fun i v s' Q' E' hP hQ => ?_, fun h' tk hk => ?_⟩
  · have hP' : its[i]? = some v := by simpa using hP
    have hi : i < its.length := (List.getElem?_eq_some_iff.mp hP').1
    have hb : (bs.map V.bl)[i]? = some (V.bl (bs[i]'(by omega))) := by rw [List.getElem?_map, List.getElem?_eq_getElem (by omega)]; rfl
    obtain ⟨u', e1, e2⟩ := rv.get hb
    rw [hP'] at e1
    cases e1
    cases (show v = Value.bool _ from e2)
    have hQ' : Q' ((bs[i]?).getD true) s' := hQ
    rw [List.getElem?_eq_getElem (by omega)] at hQ'
    exact wpAny_truthy_bool hQ'
  · have e : ((List.range its.toArray.size).all fun i => (bs[i]?).getD true) = bs.all id := by
      rw [List.size_toArray, ← hlen]; exact LSm.range_all bs
    rw [e]
    exact ⟨.bl _, H, I.kept (LSm.kept_iter hk), rfl, q⟩
end
end L2
namespace L2
open PySem PySem.Spec PyProof.Rows
def cloOf (env : Env) : List (Str × NameKind) → List (Str × Addr) → List (Str × Addr)
  | [], cs => cs
  | (n, k) :: r, cs => cloOf env r (if k == .free then match env.cells.lookup n with | some a => (n, a) :: cs | none => cs else cs)
theorem closureFor_free {scope : Scope} {env : Env} (h : ∀ y ∈ scope.names, y.2 = .free → ∃ c, env.cells.lookup y.1 = some c) : closureFor scope env = pure (cloOf env scope.names []) := by
  have key : ∀ (l : List (Str × NameKind)) (cs : List (Str × Addr)), (∀ y ∈ l, y.2 = .free → ∃ c, env.cells.lookup y.1 = some c) →
      (forIn l cs (fun (x : Str × NameKind) (r : List (Str × Addr)) => (if (x.2 == NameKind.free) = true then (do let a ← cellOf env x.1; pure (ForInStep.yield ((x.1, a) :: r))) else pure (ForInStep.yield r) : Sem (ForInStep (List (Str × Addr)))))) = (pure (cloOf env l cs) : Sem _) := by
    intro l
    induction l with
    | nil => intro cs _; rfl
    | cons y r ih =>
      intro cs hy
      obtain ⟨n, k⟩ := y
      have hr : ∀ z ∈ r, z.2 = .free → ∃ c, env.cells.lookup z.1 = some c := fun z hz => hy z (List.mem_cons_of_mem _ hz)
      rw [List.forIn_cons]
      by_cases hk : (k == NameKind.free) = true
      · obtain ⟨c, hc⟩ := hy (n, k) List.mem_cons_self (by simpa using hk)
        have e : cellOf env n = pure c := by unfold cellOf; rw [hc]
        simp only [hk, if_true, e, pure_bind, cloOf, hc]
        exact ih _ hr
      · have hk' : (k == NameKind.free) = false := by simpa using hk
        simp only [hk', Bool.false_eq_true, if_false, pure_bind, cloOf]
        exact ih _ hr
  have e : closureFor scope env = (forIn scope.names ([] : List (Str × Addr)) (fun (x : Str × NameKind) (r : List (Str × Addr)) => (if (x.2 == NameKind.free) = true then (do let a ← cellOf env x.1; pure (ForInStep.yield ((x.1, a) :: r))) else pure (ForInStep.yield r) : Sem (ForInStep (List (Str × Addr))))) >>= fun cs => pure cs) := by
    unfold closureFor
    rfl
  rw [e, key scope.names [] h]
  all_goals rfl
theorem cloOf_sub {env : Env} : ∀ (l : List (Str × NameKind)) (cs : List (Str × Addr)), (∀ p ∈ cs, env.cells.lookup p.1 = some p.2) → ∀ p ∈ cloOf env l cs, env.cells.lookup p.1 = some p.2
  | [], cs, h, p, hp => h p hp
  | (n, k) :: r, cs, h, p, hp => by
    unfold cloOf at hp
    refine cloOf_sub r _ ?_ p hp
    split
    · split
      · rename_i a ea
        intro q hq
        rcases List.mem_cons.mp hq with e | hq
        · rw [e]; exact ea
        · exact h q hq
      · exact h
    · exact h
theorem cloOf_keeps {env : Env} : ∀ (l : List (Str × NameKind)) (cs : List (Str × Addr)) {y : Str}, (∃ p ∈ cs, p.1 = y) → ∃ p ∈ cloOf env l cs, p.1 = y
  | [], cs, y, h => h
  | (n, k) :: r, cs, y, ⟨p, hp, e⟩ => by
    unfold cloOf
    refine cloOf_keeps r _ ?_
    split
    · split
      · exact ⟨p, List.mem_cons_of_mem _ hp, e⟩
      · exact ⟨p, hp, e⟩
    · exact ⟨p, hp, e⟩
theorem cloOf_has {env : Env} : ∀ (l : List (Str × NameKind)) (cs : List (Str × Addr)) {y : Str} {c : Addr}, (y, NameKind.free) ∈ l → env.cells.lookup y = some c → ∃ p ∈ cloOf env l cs, p.1 = y
  | (n, k) :: r, cs, y, c, hm, hc => by
    unfold cloOf
    rcases List.mem_cons.mp hm with e | hm
    · cases e
      refine cloOf_keeps r _ ?_
      rw [if_pos (by rfl), hc]
      exact ⟨_, List.mem_cons_self, rfl⟩
    · exact cloOf_has r _ hm hc
theorem lookup_of_mem {α : Type} : ∀ {l : List (Str × α)} {p : Str × α}, p ∈ l → ∃ c, l.lookup p.1 = some c
  | q :: l, p, h => by
    obtain ⟨n, a⟩ := q
    rw [List.lookup_cons]
    split
    · exact ⟨_, rfl⟩
    · rename_i hne
      rcases List.mem_cons.mp h with e | h
      · subst e; simp at hne
      · exact lookup_of_mem h
theorem cloOf_lookup {env : Env} {l : List (Str × NameKind)} {y : Str} {c : Addr} (hm : (y, NameKind.free) ∈ l) (hc : env.cells.lookup y = some c) : (cloOf env l []).lookup y = some c := by
  obtain ⟨p, hp, e⟩ := cloOf_has l [] hm hc
  obtain ⟨c', e'⟩ := lookup_of_mem hp
  rw [e] at e'
  have q := cloOf_sub l [] (fun _ z => nomatch z) _ (PySem.mem_of_lookup e')
  rw [hc] at q
  rw [e']
  exact q.symm
theorem cloOf_lookup_sub {env : Env} {l : List (Str × NameKind)} {y : Str} {c : Addr} (h : (cloOf env l []).lookup y = some c) : env.cells.lookup y = some c :=
  cloOf_sub l [] (fun _ z => nomatch z) _ (PySem.mem_of_lookup h)
theorem relabel_free {env : Env} : ∀ {names : List (Str × NameKind)} {x : Str} {k : NameKind}, (names.map fun (n, k) => if (k == NameKind.free && env.scope.kind == .function && env.kindOf n == some .cell) then (n, NameKind.cell) else (n, k)).lookup x = some k →
    ∃ k', names.lookup x = some k' ∧ (k' = k ∨ k' = .free)
  | [], _, _, h => by simp at h
  | (n, k0) :: r, x, k, h => by
    have ih := @relabel_free env r x k
    have h : List.lookup x ((if (k0 == NameKind.free && env.scope.kind == .function && env.kindOf n == some .cell) = true then (n, NameKind.cell) else (n, k0)) :: _) = some k := h
    cases hx : x == n with
    | true =>
      refine ⟨k0, by simp only [List.lookup_cons, hx], ?_⟩
      by_cases hc : (k0 == NameKind.free && env.scope.kind == .function && env.kindOf n == some .cell) = true
      · refine .inr ?_
        simp only [Bool.and_eq_true] at hc
        exact beq_iff_eq.mp hc.1.1
      · rw [if_neg hc] at h
        simp only [List.lookup_cons, hx] at h
        exact .inl (Option.some.inj h)
    | false =>
      have h2 : List.lookup x (r.map fun (n, k) => if (k == NameKind.free && env.scope.kind == .function && env.kindOf n == some .cell) then (n, NameKind.cell) else (n, k)) = some k := by
        by_cases hc : (k0 == NameKind.free && env.scope.kind == .function && env.kindOf n == some .cell) = true
        · rw [if_pos hc] at h; simp only [List.lookup_cons, hx] at h; exact h
        · rw [if_neg hc] at h; simp only [List.lookup_cons, hx] at h; exact h
      obtain ⟨k', e1, e2⟩ := ih h2
      exact ⟨k', by simp only [List.lookup_cons, hx]; exact e1, e2⟩
theorem relabel_of_free {env : Env} : ∀ {names : List (Str × NameKind)} {x : Str}, names.lookup x = some .free →
    (names.map fun (n, k) => if (k == NameKind.free && env.scope.kind == .function && env.kindOf n == some .cell) then (n, NameKind.cell) else (n, k)).lookup x = some .cell ∨
    (names.map fun (n, k) => if (k == NameKind.free && env.scope.kind == .function && env.kindOf n == some .cell) then (n, NameKind.cell) else (n, k)).lookup x = some .free
  | [], _, h => by simp at h
  | (n, k0) :: r, x, h => by
    have ih := @relabel_of_free env r x
    show List.lookup x ((if (k0 == NameKind.free && env.scope.kind == .function && env.kindOf n == some .cell) = true then (n, NameKind.cell) else (n, k0)) :: _) = some .cell ∨ List.lookup x ((if (k0 == NameKind.free && env.scope.kind == .function && env.kindOf n == some .cell) = true then (n, NameKind.cell) else (n, k0)) :: _) = some .free
    cases hx : x == n with
    | true =>
      simp only [List.lookup_cons, hx] at h
      by_cases hc : (k0 == NameKind.free && env.scope.kind == .function && env.kindOf n == some .cell) = true
      · rw [if_pos hc]; simp only [List.lookup_cons, hx]; simp
      · rw [if_neg hc]; simp only [List.lookup_cons, hx]; exact .inr (by rw [Option.some.inj h])
    | false =>
      simp only [List.lookup_cons, hx] at h
      by_cases hc : (k0 == NameKind.free && env.scope.kind == .function && env.kindOf n == some .cell) = true
      · rw [if_pos hc]; simp only [List.lookup_cons, hx]; exact ih h
      · rw [if_neg hc]; simp only [List.lookup_cons, hx]; exact ih h
def Its (z : Str) : It := ⟨fun i _ => i < z.length, fun i H x H' => H' = H ∧ ∃ c, z.cps.toList[i]? = some c ∧ x = .str ⟨#[c]⟩, fun i _ => z.length ≤ i⟩
structure StrIt (P : Program) (w : World) (it : Addr) (ty : String) (z : Str) (t : Tok) : Prop where
  W : ∀ A' : Around, A'.handled = none → Walks P w A' it [it] [it] z.cps.size (SignAt z) (fun i h => h.IsStrIter it ty z t i)
  en : ∀ (A : Around) (i : Nat) (s : Shared) (Q : Option Value → Shared → Prop) (E : Value → Shared → Prop), A.handled = none → s.heap.IsStrIter it ty z t i → z.cps[i]? = none →
    (∀ h', Heap.ExtBut it s.heap h' → Q none { s with heap := h' }) → wpAny (model P w) A (pyNext (.ref it)) Q E s
  me : ∀ (A : Around) (i : Nat) (s : Shared) (Q : Value → Shared → Prop) (E : Value → Shared → Prop), s.heap.IsStrIter it ty z t i → Q (.ref it) s → wpAny (model P w) A (pyIter (.ref it)) Q E s
  ne : ["enumerate", "zip", "dict_itemiterator", "dict_reverseitemiterator", "odict_iterator", "itertools.zip_longest", "itertools.pairwise"].contains ty = false
theorem StrIt.ascii {P : Program} {w : World} (it : Addr) (z : Str) (t : Tok) : StrIt P w it "str_ascii_iterator" z t :=
  ⟨fun _ hA => Walks.strAscii hA it z t, fun _ _ _ _ _ hA st hx hQ => wpAny_pyNext_ascii_end hA st hx hQ, fun _ _ _ _ _ st h => wpAny_pyIter_striter_ascii st h, by decide⟩
theorem StrIt.wide {P : Program} {w : World} (it : Addr) (z : Str) (t : Tok) : StrIt P w it "str_iterator" z t :=
  ⟨fun _ hA => Walks.strWide hA it z t, fun _ _ _ _ _ hA st hx hQ => wpAny_pyNext_wide_end hA st hx hQ, fun _ _ _ _ _ st h => wpAny_pyIter_striter_wide st h, by decide⟩
theorem turn_str {P : Program} {w : World} {K : PySem.W.Frag} {tg : Expr} {z : Str} {t : Tok} {it : Addr} {ty : String} (S : StrIt P w it ty z t) :
    Turn P w K tg (Its z) [it] it (fun i h => h.IsStrIter it ty z t i) where
  mem := by simp
  obj := fun i h st b hb => by
    have e : b = it := by simpa using hb
    subst e
    obtain ⟨o, e, c, d⟩ := st
    exact ⟨o, e, fun v q => by rw [d] at q; cases q⟩
  keep := fun i h h' st k => by
    obtain ⟨o, e, r⟩ := st
    exact ⟨o, k it (by simp) o e, r⟩
  item := by
    intro X hP hw hK hc i pins s σ H E I hf st hg
    subst hP hw hK
    obtain ⟨f0, f1, f2, f3, f4, f5⟩ := hf it (by simp)
    refine (S.W X.A (I.ok.hd hc)).item i s _ _ hg st fun v h' tk hv st' kk => ?_
    obtain ⟨c, u, hc', rfl⟩ := hv
    have I1 : Inv X pins σ H { s with heap := h', toks := tk } := I.turned (fun b o hb e => kk b o (by simpa using hb) e) f0 f1 f3 f4 f5
    obtain ⟨o, e, c1, d1⟩ := id st'
    exact ⟨_, rfl, go_of (s := { s with heap := h', toks := tk }) e c1 d1 S.ne ⟨.str ⟨#[c]⟩, H, I1, ⟨u, rfl⟩, ⟨rfl, c, by rw [Array.getElem?_toList]; exact hc', rfl⟩, st', fun b hb => (hf b hb).1⟩⟩
  done := by
    intro X hP hw hK hc i pins s σ H E I hf st hg
    subst hP hw hK
    obtain ⟨f0, f1, f2, f3, f4, f5⟩ := hf it (by simp)
    refine S.en X.A i s _ _ (I.ok.hd hc) st ?_ fun h' eb => ⟨rfl, I.turned (t' := s.toks) (fun b o hb e => eb b o hb e) f0 f1 f3 f4 f5⟩
    exact Array.getElem?_eq_none hg
  self := fun A i s Q E st h => S.me A i s Q E st h
def iStr (tl : TE) : TI := fun σ H R => tl σ H fun x H1 => ∃ z, x = .str z ∧ R (Its z) H1
theorem pi_str {X : Cx} {tg l : Expr} {tl : TE} (hl : PE X l tl) : PI X tg l (iStr tl) := by
  intro pins s σ H R I h
  refine thn (hl pins s σ H _ I h) fun v s1 ⟨x, H1, I1, r1, q1⟩ => ?_
  obtain ⟨z, rfl, q⟩ := q1
  obtain ⟨t, rfl⟩ := r1
  have fin : ∀ (o : Obj) (ty : String), StrIt X.prog X.w s1.heap.objs.size ty z t → (s1.heap.push o).IsStrIter s1.heap.objs.size ty z t 0 → PIE X pins σ tg R (.ref s1.heap.objs.size) { s1 with heap := s1.heap.push o } := fun o ty S st => by
    refine ⟨s1.heap.objs.size, [s1.heap.objs.size], _, Its z, H1, rfl, I1.kept (t' := s1.toks) fun b o e => Heap.get?_push_of_some _ e, turn_str S, st, fun b hb => ?_, q⟩
    have e : b = s1.heap.objs.size := by simpa using hb
    subst e
    exact I1.fpOk (Nat.le_refl _) (I1.hok.fresh (Nat.le_refl _))
  cases ha : z.cps.all (· < 128)
  · exact wpAny_pyIter_wide ha (fin _ _ (.wide _ z t) ⟨_, Heap.get?_push_size _ rfl, rfl, rfl⟩)
  · exact wpAny_pyIter_ascii ha (fin _ _ (.ascii _ z t) ⟨_, Heap.get?_push_size _ rfl, rfl, rfl⟩)
def Cx.blk (X : Cx) (N' : List Str) (scope : Scope) (C : Addr) (fp : List Addr) (s : Shared) (H : Hp) : Cx :=
  { X with N := N', s₀ := s, H₀ := H, env := compEnvC scope (cloOf X.env scope.names []) C X.env, outer := X.stack, ex := fp, fn := fun _ => false, pn := [], xe := fun _ _ => False }
structure BlkScope (N : List Str) (sc scope : Scope) (x : Str) (N' : List Str) (fv : List Nat) : Prop where
  nocell : ∀ y ∈ scope.names, y.2 ≠ .cell
  kind : scope.kind = .function
  names : ∀ y ∈ scope.names, y.2 = .local → scope.names.lookup y.1 = some .local
  loc : scope.names.lookup x = some .local
  free : ∀ y ∈ scope.names, y.2 = .free → sc.names.lookup y.1 = some .cell ∨ sc.names.lookup y.1 = some .free
  nd : N'.Nodup
  hd : N'[0]? = some x
  len : N'.length = fv.length + 1
  at_ : ∀ j, j < fv.length → (N'[j + 1]?).isSome = true ∧ N'[j + 1]? = (fv[j]?).bind (fun i => N[i]?) ∧ (N'[j + 1]?).bind (fun y => scope.names.lookup y) = some .free
def blkVals (fv : List Nat) (σ : St) : St := fv.map fun k => (σ[k]?).join
abbrev testsOf (ifs : List Expr) (env : Env) : Sem Bool := forIn ifs true fun c r => if r = true then do let ok ← isTrue c env (eval c env); pure (ForInStep.yield ok) else pure (ForInStep.yield r)
def PTs (X : Cx) (ifs : List Expr) (t : TT) : Prop :=
  ∀ (pins : List (Addr × Obj)) (s : Shared) (σ : St) (H : Hp) (Q : Bool → Hp → Prop), Inv X pins σ H s → t σ H Q → wpAny (model X.prog X.w) X.A (testsOf ifs X.env) (TP X pins σ Q) X.xe s
def tAll : TT := fun _ H Q => Q true H
theorem pts_nil {X : Cx} : PTs X [] tAll := fun pins s σ H Q I h => wpAny_pure ⟨H, I, h⟩
def tLC (wi : TI) (fv : List Nat) (tt : TT) (te : TE) : TE := fun σ H Q => wi σ H fun J H1 => ∃ (W : Nat → List V → Hp → Prop) (n : Nat), W 0 [] H1 ∧ n ≤ sizeLine ∧ ∀ i ys H, W i ys H →
  (J.stop i H ∧ ∀ p, H p = none → Q (.ref p) (upd H p (.lst ys))) ∨
  (J.go i H ∧ i < n ∧ ∀ x H', J.yld i H x H' → tt (some x :: blkVals fv σ) H' fun c H2 => if c = true then te (some x :: blkVals fv σ) H2 fun y H3 => W (i + 1) (ys ++ [y]) H3 else W (i + 1) ys H2)
section
variable {X : Cx} {N' : List Str} {scope : Scope} {x : Str} {fv : List Nat}
theorem blk_inv {pins : List (Addr × Obj)} {σ : St} {H : Hp} {s : Shared} {fp : List Addr} {C : Addr} {h1 : Heap} {m : Str → Option Value} {tk : Nat} {pl : List (Addr × Obj)} (S : BlkScope X.N X.env.scope scope x N' fv) (I : Inv X pins σ H s)
    (hf : ∀ b ∈ fp, FpOk X pins H b) (hfo : ∀ b ∈ fp, b < s.heap.objs.size) (hC : s.heap.objs.size ≤ C) (kp : ∀ b o, s.heap.get? b = some o → h1.get? b = some o) (hn : h1.Ns C m)
    (hpl : ∀ p ∈ pl, h1.get? p.1 = some p.2 ∧ s.heap.objs.size ≤ p.1 ∧ p.1 ≠ C ∧ ∀ v, p.2.data ≠ .cell v) :
    Inv (X.blk N' scope C fp s H) pl (none :: blkVals fv σ) H { s with heap := h1, toks := tk } := by
  have clo : ∀ y c, (cloOf X.env scope.names []).lookup y = some c → X.env.cells.lookup y = some c := fun y c e => cloOf_lookup_sub e
  have cell : ∀ y c, (cloOf X.env scope.names []).lookup y = some c → ∃ v, s.heap.IsCell c v := fun y c e => I.cell y c (clo y c e)
  have lt : ∀ y c, (cloOf X.env scope.names []).lookup y = some c → c < s.heap.objs.size := fun y c e => by obtain ⟨v, q⟩ := cell y c e; exact q.lt
  have kc : ∀ c v, s.heap.IsCell c v → h1.IsCell c v := fun c v q => by obtain ⟨o, e, d⟩ := q; exact ⟨o, kp _ _ e, d⟩
  refine ⟨⟨I.ok.mod, S.kind, I.ok.glob, I.ok.blt, hC, fun y z c e1 e2 => I.ok.inj y z c (clo y c e1) (clo z c e2), fun y hy => ?_, fun y c e => ?_, I.ok.hd, I.ok.frames, .inl rfl, fun b hb => ⟨?_, fun y c e z => (hf b hb).2.2.2.2.1 y c (clo y c e) z⟩, fun b o e => I.bs b o e, Nat.le_trans I.ok.bsz I.sz, fun b o e hb => ?_, fun b hb hb2 => ?_, I.stack, I.stkFree⟩,
    rfl, I.bare, Un.kept kp, ⟨m, hn, fun i y v h1' h2 h3 => ?_⟩, fun y c e => ?_, I.hok.fresh hC, fun y c e => I.freeC y c (clo y c e), fun p hp => ?_, I.hok.kept kp, ?_⟩
  · have hy' : ∃ k, scope.names.lookup y = some k ∧ k = .free := by
      rcases hy with hy | hy
      · obtain ⟨k', e1, e2⟩ := relabel_free (env := X.env) (names := scope.names) (x := y) (k := .cell) hy
        rcases e2 with e2 | e2
        · exact absurd e2 (S.nocell _ (PySem.mem_of_lookup e1))
        · exact ⟨k', e1, e2⟩
      · obtain ⟨k', e1, e2⟩ := relabel_free (env := X.env) (names := scope.names) (x := y) (k := .free) hy
        rcases e2 with e2 | e2
        · exact ⟨k', e1, e2⟩
        · exact ⟨k', e1, e2⟩
    obtain ⟨k, e, rfl⟩ := hy'
    have hm := PySem.mem_of_lookup e
    obtain ⟨c, hc⟩ := I.ok.has y (S.free _ hm rfl)
    exact ⟨c, cloOf_lookup hm hc⟩
  · exact (Bool.false_ne_true (show false = true from e)).elim
  · exact Nat.ne_of_lt (Nat.lt_of_lt_of_le (hfo b hb) hC)
  · have e' := e
    rcases (hf b hb).2.2.2.1 with z | z
    · exact I.ok.noex b o e z
    · exact absurd (Nat.lt_of_lt_of_le (Heap.lt_size e) (Nat.le_trans I.ok.bsz z)) (Nat.lt_irrefl _)
  · have q := I.stkSub b hb2
    rcases List.mem_cons.mp q with z | z
    · exact (hf b hb).2.1 z
    · exact (hf b hb).2.2.1 z
  · cases i with
    | zero =>
      have z : (none : Option V) = some v := Option.some.inj h2
      cases z
    | succ j =>
      have h2' : (blkVals fv σ)[j]? = some (some v) := h2
      unfold blkVals at h2'
      rw [List.getElem?_map] at h2'
      cases ej : fv[j]? with
      | none => rw [ej] at h2'; cases h2'
      | some k =>
        rw [ej] at h2'
        have h4 : (σ[k]?).join = some v := Option.some.inj h2'
        have h5 : σ[k]? = some (some v) := by
          cases es : σ[k]? with
          | none => rw [es] at h4; cases h4
          | some w' => rw [es] at h4; rw [show w' = some v from h4]
        have hj : j < fv.length := (List.getElem?_eq_some_iff.mp ej).1
        obtain ⟨_, a1, a2⟩ := S.at_ j hj
        have h1'' : N'[j + 1]? = some y := h1'
        rw [h1''] at a1 a2
        rw [ej] at a1
        have a3 : X.N[k]? = some y := a1.symm
        have a4 : scope.names.lookup y = some .free := a2
        have hm := PySem.mem_of_lookup a4
        have kd : X.env.kindOf y = some .cell ∨ X.env.kindOf y = some .free := S.free _ hm rfl
        obtain ⟨mX, _, hlX⟩ := I.loc
        obtain ⟨u, ru, lk⟩ := hlX k y v a3 h5 (kd.elim (fun z => .inr (.inl z)) fun z => .inr (.inr z))
        refine ⟨u, ru, .inr ?_⟩
        rcases lk with ⟨z, _⟩ | ⟨_, c, hc, hcell⟩
        · rcases kd with z' | z' <;> rw [z'] at z <;> cases z
        · exact ⟨relabel_of_free (env := X.env) a4, c, cloOf_lookup hm hc, kc _ _ hcell⟩
  · obtain ⟨v, q⟩ := cell y c e
    exact ⟨v, kc _ _ q⟩
  · have hp' : p ∈ pl := hp
    obtain ⟨e, l1, l2, d⟩ := hpl p hp'
    exact ⟨e, I.hok.fresh l1, l2, fun z => absurd (I.stkSub _ z) (fun q => by
      rcases List.mem_cons.mp q with q | q
      · exact absurd I.lt (by rw [← q]; exact Nat.not_lt.mpr l1)
      · exact I.nofs l1 q), d⟩
  · show (none :: blkVals fv σ).length = N'.length
    rw [S.len]
    unfold blkVals
    simp
end
end L2
namespace L2
open PySem PySem.Spec PyProof.Rows
theorem nox {α : Type} {t : Sem α} {Q Q' : α → Shared → Prop} {M : Model} {A : Around} {E : Value → Shared → Prop} {s : Shared} (h : wpAny M A t Q (fun _ _ => False) s) (hQ : ∀ a s, Q a s → Q' a s) : wpAny M A t Q' E s := wpAny_mono h hQ fun _ _ f => f.elim
set_option maxHeartbeats 1600000 in
theorem pe_lc {X : Cx} {elt iter : Expr} {x : Str} {px : Pos} {ifs : List Expr} {scope : Scope} {pos : Pos} {N' : List Str} {fv : List Nat} {wi : TI} {tt : TT} {te : TE}
    (S : BlkScope X.N X.env.scope scope x N' fv) (hc : X.calm = true) (hi : PI X (.Name x px) iter wi)
    (ht : ∀ C fp s H, PTs (X.blk N' scope C fp s H) ifs tt) (he : ∀ C fp s H, PE (X.blk N' scope C fp s H) elt te)
    (hs : ∀ x, foldedSetIterable iter X.env x = pure x := by intro _; rfl) :
    PE X (.ListComp elt [⟨.Name x px, iter, ifs, 0⟩] scope pos) (tLC wi fv tt te) := by
  intro pins s σ H Q I h
  rw [eval_ListComp]
  refine wpAny_comprehension_free (use := none) rfl hs (closureFor_free fun y hy hk => I.ok.has y.1 (S.free y hy hk)) S.kind S.names
    (wpAny_mono (hi pins s σ H _ I h) (fun xv s1 h1 => wpAny_mono h1 (fun itv s2 h2 => ?_) fun _ _ e => e) fun _ _ e => e)
  obtain ⟨it, fp, tn, J, H2, rfl, I2, T, st2, f2, W, n, w0, hn, turn⟩ := h2
  refine wpAny_newObj_type (wpAny_newFunctionEnv S.nocell (by intro y hy; simp at hy) (fun h1 hns hsb => ?_) S.kind)
  dsimp only at hns hsb ⊢
  generalize hH : s2.heap.push { cls := .type "list", dict := none, data := .seq ([] : List Value).toArray } = G at hns hsb ⊢
  have hG : G.objs.size = s2.heap.objs.size + 1 := by rw [← hH, Heap.size_push]
  have kpG : ∀ b o, s2.heap.get? b = some o → G.get? b = some o := fun b o e => hH ▸ Heap.get?_push_of_some _ e
  have kp1 : ∀ b o, b < G.objs.size → G.get? b = some o → h1.get? b = some o := fun b o lt e => hsb.extBut b o (Nat.ne_of_lt lt) (Heap.get?_push_of_some _ e)
  have kp : ∀ b o, s2.heap.get? b = some o → h1.get? b = some o := fun b o e => kp1 b o (by rw [hG]; exact Nat.lt_succ_of_lt (Heap.lt_size e)) (kpG b o e)
  have hD : h1.PlainList s2.heap.objs.size #[] := ⟨_, kp1 _ _ (by rw [hG]; exact Nat.lt_succ_self _) (hH ▸ Heap.get?_push_size _ rfl)⟩
  have hDC : s2.heap.objs.size ≠ G.objs.size := by rw [hG]; exact Nat.ne_of_lt (Nat.lt_succ_self _)
  have hC : s2.heap.objs.size ≤ G.objs.size := by rw [hG]; exact Nat.le_succ _
  have hfo : ∀ b ∈ fp, b < s2.heap.objs.size := fun b hb => by obtain ⟨o, e, _⟩ := T.obj 0 _ st2 b hb; exact Heap.lt_size e
  have stat : ∀ {H' : Hp} {pl : List (Addr × Obj)}, (∀ b ∈ fp, H' b = none) → (∀ p ∈ pl, p.1 ∉ fp) → ∀ b ∈ fp, FpOk (X.blk N' scope G.objs.size fp s2 H2) pl H' b := fun {H' pl} hn hpl b hb => by
    obtain ⟨_, g1, g2, g3, g4, g5⟩ := f2 b hb
    refine ⟨hn b hb, Nat.ne_of_lt (Nat.lt_of_lt_of_le (hfo b hb) hC), fun z => ?_, .inl hb, fun y c e => g4 y c (cloOf_lookup_sub e), fun p hp e => ?_⟩
    · rcases List.mem_cons.mp (I2.stkSub b z) with q | q
      · exact g1 q
      · exact g2 q
    · exact hpl p hp (e ▸ hb)
  have hDf : s2.heap.objs.size ∉ fp := fun z => absurd (hfo _ z) (Nat.lt_irrefl _)
  have hlc : (X.blk N' scope G.objs.size fp s2 H2).env.scope.names.lookup x = some .local := lookup_relabel_local S.loc
  have hcl : ∀ y c, (X.blk N' scope G.objs.size fp s2 H2).env.cells.lookup y = some c → c ≠ s2.heap.objs.size := fun y c e z => by
    obtain ⟨v, q⟩ := I2.cell y c (cloOf_lookup_sub e)
    exact absurd q.lt (by rw [z]; exact Nat.lt_irrefl _)
  have pin1 : ∀ {s' : Shared} {H' : Hp} {ob : Obj} {i : Nat} {ys : List V}, Inv (X.blk N' scope G.objs.size fp s2 H2) [] (none :: blkVals fv σ) H' s' → s'.heap.get? s2.heap.objs.size = some ob → (∀ v, ob.data ≠ .cell v) → H' s2.heap.objs.size = none →
      Inv (X.blk N' scope G.objs.size fp s2 H2) [(s2.heap.objs.size, ob)] (none :: blkVals fv σ) H' s' := fun {s' H' ob i ys} J1 e d f => J1.pins_of fun p hp => by
    have z : p = (s2.heap.objs.size, ob) := by simpa using hp
    subst z
    refine ⟨e, f, hDC, fun z => ?_, d⟩
    rcases List.mem_cons.mp (I2.stkSub _ z) with q | q
    · exact absurd I2.lt (by rw [← q]; exact Nat.lt_irrefl _)
    · exact I2.nofs (Nat.le_refl _) q
  have loop : ∀ s3 : Shared, s3 = { s2 with heap := h1, toks := s2.toks + ([] : List (Str × Value)).length } →
      codeAny (model X.prog X.w) X.A (.compLoop (.ListComp elt [⟨.Name x px, iter, ifs, 0⟩] scope pos) 0 (.ref it) (.ref s2.heap.objs.size) (X.blk N' scope G.objs.size fp s2 H2).env)
        (compPost (model X.prog X.w) X.A X.xe none (EP X pins σ Q) (.ref s2.heap.objs.size) G.objs.size) s3 := by
    rintro s3 rfl
    refine codeAny_compLoop_tests (fun k s' => ∃ i ys H' its, k = n + 1 - i ∧ i ≤ n ∧ ys.length ≤ i ∧ Vals ys its ∧ s'.heap.PlainList s2.heap.objs.size its.toArray ∧
      Inv (X.blk N' scope G.objs.size fp s2 H2) [] (none :: blkVals fv σ) H' s' ∧ H' s2.heap.objs.size = none ∧ tn i s'.heap ∧ (∀ b ∈ fp, H' b = none) ∧ W i ys H') ?_ (n + 1)
      ⟨0, [], H2, [], rfl, Nat.zero_le _, Nat.le_refl _, .nil, hD, blk_inv S I2 f2 hfo hC kp hns (fun p hp => nomatch hp), I2.hok.fresh (Nat.le_refl _), T.keep _ _ _ st2 fun b _ o e => kp b o e, fun b hb => (f2 b hb).1, w0⟩
    rintro k s4 ⟨i, ys, H4, its, rfl, hin, hyi, rv, pl4, I4, fD4, st4, ff4, w4⟩
    obtain ⟨cnt, eD⟩ := id pl4
    have I4p := pin1 (i := i) (ys := ys) I4 eD (fun v z => by cases z) fD4
    have np : ∀ p ∈ [(s2.heap.objs.size, ({ cls := .type "list", data := .seq its.toArray cnt } : Obj))], p.1 ∉ fp := fun p hp => by
      have z : p = (s2.heap.objs.size, ({ cls := .type "list", data := .seq its.toArray cnt } : Obj)) := by simpa using hp
      subst z; exact hDf
    rcases turn i ys H4 w4 with ⟨stop, fin⟩ | ⟨go, hi2, step⟩
    · refine wpAny_mono (T.done (X.blk N' scope G.objs.size fp s2 H2) rfl rfl rfl hc i _ s4 _ H4 _ I4p (stat ff4 np) st4 stop) (fun r s5 ⟨hr, I5⟩ => ?_) fun _ _ e => e
      subst hr
      obtain ⟨m5, hm5, _⟩ := I5.loc
      have eD5 : s5.heap.get? s2.heap.objs.size = some { cls := .type "list", data := .seq its.toArray cnt } := (I5.pin _ (List.mem_append_right _ List.mem_cons_self)).1
      refine ⟨m5, hm5, fun h' sb => ⟨.ref s2.heap.objs.size, upd H4 s2.heap.objs.size (.lst ys), ?_, rfl, fin _ fD4⟩⟩
      have ltC : ∀ {b : Addr} {o : Obj}, s2.heap.get? b = some o → b ≠ G.objs.size := fun {b o} e => Nat.ne_of_lt (Nat.lt_of_lt_of_le (Heap.lt_size e) hC)
      have fD2 : H2 s2.heap.objs.size = none := I2.hok.fresh (Nat.le_refl _)
      have ltD : ∀ {b : Addr} {o : Obj}, s2.heap.get? b = some o → b ≠ s2.heap.objs.size := fun {b o} e => Nat.ne_of_lt (Heap.lt_size e)
      have B := I5.base
      refine I2.call' (s' := { s5 with heap := h' }) (ch := fp) I5.os ⟨fun b o e nb hb hx => ?_, fun b o e nb hb hx => ?_, fun b o e nb hx => ?_, fun b o e hx => ?_, fun b xs e => ?_, fun b o u e => ?_, fun b ps e => ?_⟩ ?_ I5.bare fun b hb => ?_
      · exact sb.extBut b o (ltC e) (B.keep b o e nb hb hx)
      · obtain ⟨sl, q⟩ := B.slot b o e nb hb hx
        exact ⟨sl, sb.extBut b _ (ltC e) q⟩
      · rw [upd_ne (ltD e)]; exact B.free b o e nb hx
      · obtain ⟨o', q⟩ := B.there b o e hx
        exact ⟨o', sb.extBut b o' (ltC e) q⟩
      · have e' : H2 b = some (.tup xs) := e
        rw [upd_ne (ne_of_none e' fD2)]; exact B.tups b xs e
      · have e' : H2 b = some (.frz o u) := e
        rw [upd_ne (ne_of_none e' fD2)]; exact B.frzs b o u e
      · have e' : H2 b = some (.tbl ps) := e
        rw [upd_ne (ne_of_none e' fD2)]; exact B.tbls b ps e
      · intro b u e
        by_cases hb : b = s2.heap.objs.size
        · subst hb
          rw [upd_same] at e
          cases e
          exact ⟨Nat.le_trans hyi (Nat.le_trans hin hn), its, cnt, rv, sb.extBut _ _ hDC eD5⟩
        · rw [upd_ne hb] at e
          have fC : H4 G.objs.size = none := I5.free
          refine (I5.hok b u e).stay (fun c v hc' q => sb.extBut c v ?_ q) (fun c q => by rw [upd_ne (ne_of_none q fD4)]; exact q) fun c xs q => by rw [upd_ne (ne_of_none q fD4)]; exact q
          rcases hc' with z | z
          · subst z; exact ne_of_none e fC
          · exact ne_of_none z fC
      · obtain ⟨_, g1, g2, g3, g4, g5⟩ := f2 b hb
        exact ⟨g3, g1, g4, g5⟩
    · refine wpAny_mono (T.item (X.blk N' scope G.objs.size fp s2 H2) rfl rfl rfl hc i _ s4 _ H4 _ I4p (stat ff4 np) st4 go) (fun r s5 ⟨u, hr, h5⟩ => ?_) fun _ _ e => e
      subst hr
      show wpAny _ _ (letOwnedTupleGo (.Name x px) (.ref it) u >>= fun _ => assign (.Name x px) (X.blk N' scope G.objs.size fp s2 H2).env u) _ _ s5
      refine wpAny_bind (wpAny_mono h5 (fun _ s6 ⟨xv, H6, I6, r6, y6, st6, ff6⟩ => ?_) fun _ _ e => e)
      have I6' := I6.pinned (stat ff6 np) (T.obj _ _ st6)
      have out : ∀ {σ' : St} {H' : Hp} {s' : Shared}, Inv (X.blk N' scope G.objs.size fp s2 H2) ([(s2.heap.objs.size, ({ cls := .type "list", data := .seq its.toArray cnt } : Obj))] ++ pinsAt fp s6.heap) σ' H' s' →
          s'.heap.PlainList s2.heap.objs.size its.toArray ∧ H' s2.heap.objs.size = none ∧ (∀ b ∈ fp, H' b = none) ∧ (∀ b ∈ fp, ∀ o, s6.heap.get? b = some o → s'.heap.get? b = some o) := fun {σ' H' s'} J1 => by
        have q := J1.pin (s2.heap.objs.size, ({ cls := .type "list", data := .seq its.toArray cnt } : Obj)) (List.mem_append_right _ (List.mem_append_left _ List.mem_cons_self))
        refine ⟨⟨cnt, q.1⟩, q.2.1, fun b hb => ?_, fun b hb o e => (J1.pin (b, o) (List.mem_append_right _ (List.mem_append_right _ (mem_pinsAt hb e)))).1⟩
        obtain ⟨o, e, d⟩ := T.obj _ _ st6 b hb
        exact (J1.pin (b, o) (List.mem_append_right _ (List.mem_append_right _ (mem_pinsAt hb e)))).2.1
      refine nox ((pg_name (X := X.blk N' scope G.objs.size fp s2 H2) (i := 0) S.nd S.hd (.inl hlc) (.inr hlc)) _ s6 _ H6 xv u (fun σ' H' => σ' = some xv :: blkVals fv σ ∧ H' = H6) I6' r6 ⟨rfl, rfl⟩) fun _ s7 ⟨σ7, H7, I7, e7, e7'⟩ => ?_
      subst e7 e7'
      refine nox (ht _ _ _ _ _ s7 _ H7 _ I7 (step xv H7 y6)) fun ok s8 ⟨H8, I8, q8⟩ => ?_
      cases ok with
      | false =>
        obtain ⟨o1, o2, o3, o4⟩ := out I8
        exact ⟨n + 1 - (i + 1), by omega, i + 1, ys, H8, its, rfl, hi2, Nat.le_succ_of_le hyi, rv, o1, (I8.pins_of (pins' := []) fun p hp => nomatch hp).weak (σ' := none :: blkVals fv σ) rfl (fun j v e => by
          cases j with
          | zero => cases (show (none : Option V) = some v from Option.some.inj e)
          | succ j => exact e), o2, T.keep _ _ _ st6 o4, o3, q8⟩
      | true =>
        refine nox (he _ _ _ _ _ s8 _ H8 _ I8 q8) fun yv s9 ⟨y, H9, I9, r9, q9⟩ => ?_
        obtain ⟨o1, o2, o3, o4⟩ := out I9
        have hlen := rv.length
        refine wpAny_list_append_plain (hsz := by rw [List.size_toArray, ← hlen]; exact Nat.le_trans hyi (Nat.le_trans hin hn)) o1 fun h' pl' sb' => ?_
        have I9' : Inv (X.blk N' scope G.objs.size fp s2 H2) [] (some xv :: blkVals fv σ) H9 { s9 with heap := h' } :=
          (I9.pins_of (pins' := []) fun p hp => nomatch hp).turned (t' := s9.toks) (it := s2.heap.objs.size) (fun b o hb e => sb'.extBut b o hb e) o2 hDC (.inr (Nat.le_refl _)) hcl (fun p hp => nomatch hp)
        refine ⟨n + 1 - (i + 1), by omega, i + 1, ys ++ [y], H9, its ++ [yv], rfl, hi2, by rw [List.length_append]; exact Nat.succ_le_succ hyi, rv.append (.cons r9 .nil), ?_, I9'.weak (σ' := none :: blkVals fv σ) rfl (fun j v e => by
          cases j with
          | zero => cases (show (none : Option V) = some v from Option.some.inj e)
          | succ j => exact e), o2, T.keep _ _ _ st6 fun b hb o e => sb'.extBut b o (fun z => hDf (z ▸ hb)) (o4 b hb o e), o3, q9⟩
        have e9 : (its ++ [yv]).toArray = its.toArray.push yv := by simp
        rw [e9]
        exact pl'
  exact codeAny_compStart_list (loop _ rfl) (T.self _ 0 _ _ _ (T.keep _ _ _ st2 fun b _ o e => kp b o e) (loop _ rfl))
end L2
namespace L2
open PySem PySem.Spec PyProof.Rows
theorem strsAre_of {ys : List Str} : ∀ {us : List Value}, Vals (ys.map V.str) us → StrsAre us ys := by
  induction ys with
  | nil => intro us r; rw [List.map_nil] at r; cases r; exact .nil
  | cons y ys ih =>
    intro us r
    rw [List.map_cons] at r
    cases r with
    | cons r1 r2 =>
      obtain ⟨t, e⟩ := r1
      subst e
      exact .cons y t (ih r2)
theorem mt_join {X : Cx} : MtR X "str.join" (fun x vs H Q => ∃ (sep : Str) (p : Addr) (ys : List Str), x = .str sep ∧ vs = [.ref p] ∧ SqL X.K H p (ys.map V.str) ∧ (ys.map (·.length)).sum + ys.length * sep.length ≤ 16777216 ∧ Q (.str (Str.join sep ys)) H) := by
  intro pins s σ H x xs v us Q I rx r h
  obtain ⟨sep, p, ys, rfl, rfl, hq, hok, q⟩ := h
  obtain ⟨t, rfl⟩ := rx
  obtain ⟨u, rfl, rp⟩ := vals1 r
  cases (show u = Value.ref p from rp)
  obtain ⟨its, rv, pl, hz⟩ := I.list hq
  refine join_list pl.isList (by simpa using strsAre_of rv) hok fun t' k => ⟨.str _, H, I.tok _, ⟨_, rfl⟩, ?_⟩
  rw [eq_of_beq (join_closes (sep := sep) (sep' := sep) (ys := ys) rfl)]
  exact q
end L2
namespace L2
open PySem PySem.Spec PyProof.Rows
end L2
namespace L2
open PySem PySem.Spec PyProof.Rows
open Builtin Builtin.Str
theorem join_many (c : Nat) : ∀ ys : List Str, ys.length ≤ (Str.join ⟨#[c]⟩ ys).length + 1
  | [] => Nat.zero_le _
  | [y] => by simp
  | y :: u :: ys => by
    have ih := join_many c (u :: ys)
    rw [join_cons_cons]
    have e : (y ++ (⟨#[c]⟩ : Str) ++ Str.join ⟨#[c]⟩ (u :: ys)).length = y.length + 1 + (Str.join ⟨#[c]⟩ (u :: ys)).length := by
      show ((y.cps ++ #[c]) ++ (Str.join ⟨#[c]⟩ (u :: ys)).cps).size = _
      rw [Array.size_append, Array.size_append]
      rfl
    rw [e, List.length_cons]
    omega
theorem vals_strs : ∀ (l : List (Str × Tok)), Vals ((l.map (·.1)).map V.str) (strValues l)
  | [] => .nil
  | p :: l => .cons ⟨p.2, rfl⟩ (vals_strs l)
section
variable {X : Cx}
theorem mt_split1 : MtR X "str.split" (fun x vs H Q => ∃ (z : Str) (c : Nat), x = .str z ∧ vs = [.str ⟨#[c]⟩] ∧ z.length ≤ 1000000 ∧ ∀ p, H p = none → Q (.ref p) (upd H p (.lst ((Txt.split z ⟨#[c]⟩).map V.str)))) := by
  intro pins s σ H x xs v us Q I rx r h
  obtain ⟨z, c, rfl, rfl, hz, q⟩ := h
  obtain ⟨t, rfl⟩ := rx
  obtain ⟨u, rfl, ⟨t1, rfl⟩⟩ := vals1 r
  have hs : (1000002 : Nat) ≤ sizeLine := by decide
  have many : (Txt.split z ⟨#[c]⟩).length ≤ sizeLine := by
    have := join_many c (Txt.split z ⟨#[c]⟩)
    rw [StrLaws.join_split] at this
    omega
  have fin : ∀ (l : List (Str × Tok)) (k : Nat), l.map (·.1) = Txt.split z ⟨#[c]⟩ → EP X pins σ Q (.ref s.heap.objs.size) { s with toks := k, heap := s.heap.push { cls := .type "list", data := .seq (strValues l).toArray } } := fun l k el =>
    ⟨.ref s.heap.objs.size, _, I.laid (t' := k) (o := .lst ((Txt.split z ⟨#[c]⟩).map V.str)) (fun b o e => Heap.get?_push_of_some _ e) (Nat.le_refl _)
      (show ObjOk X.prog X.w _ _ _ (.lst ((Txt.split z ⟨#[c]⟩).map V.str)) from ⟨by rw [List.length_map]; exact many, strValues l, 0, el ▸ vals_strs l, Heap.get?_push_size _ rfl⟩), rfl, q _ (I.hok.fresh (Nat.le_refl _))⟩
  have hy : ((⟨#[c]⟩ : Str).length == 0) = false := rfl
  cases h1 : (decide (z.length < (⟨#[c]⟩ : Str).length) || decide (strKind z < strKind ⟨#[c]⟩)) with
  | true =>
    have es : Txt.split z ⟨#[c]⟩ = [z] := by unfold Txt.split; rw [if_pos h1]
    exact call_meets F.slot_str_split (typeIs_str _ _ _) F.entry_str_split (F.args_str_split_2 _ _) (meets_str_split_cannot_occur z ⟨#[c]⟩ t t1 h1) (fin [(z, t)] s.toks es.symm)
  | false =>
    cases hf : (occurrences z ⟨#[c]⟩ 0 z.length (z.length + 1)).isEmpty with
    | true =>
      have es : Txt.split z ⟨#[c]⟩ = [z] := by unfold Txt.split; rw [if_neg (by rw [h1]; decide), if_pos hf]
      exact call_meets F.slot_str_split (typeIs_str _ _ _) F.entry_str_split (F.args_str_split_2 _ _) (meets_str_split_not_found z ⟨#[c]⟩ t t1 h1 hy hf) (fin [(z, t)] s.toks es.symm)
    | false =>
      have es : Txt.split z ⟨#[c]⟩ = partsBetween z (occurrences z ⟨#[c]⟩ 0 z.length (z.length + 1)) (⟨#[c]⟩ : Str).length := by unfold Txt.split; rw [if_neg (by rw [h1]; decide), if_neg (by rw [hf]; decide)]
      refine call_meets F.slot_str_split (typeIs_str _ _ _) F.entry_str_split (F.args_str_split_2 _ _) (meets_str_split_sep z ⟨#[c]⟩ t t1 h1 hy hf (by omega) (by rw [← es]; exact many)) ?_
      rw [strsFrom_eq]
      exact fin _ _ ((numbered_texts _ _).trans es.symm)
theorem ps_try0 {body : List Stmt} {h₀ : ExceptHandler} {hs : List ExceptHandler} {pos : Pos} {t : TS} (hb : PSs X.nox body t) : PS X (.Try body (h₀ :: hs) [] [] pos) t := by
  intro pins s σ H D I h
  refine wpAny_Try_except (wpAny_mono (hb pins s σ H D (I.wish _) h) (fun f s1 q => ?_) fun _ _ e => e.elim)
  cases f with
  | next => exact wpAny_execs_nil (SP.unwish (f := .next) q)
  | brk => exact SP.unwish (f := .brk) q
  | cont => exact SP.unwish (f := .cont) q
  | ret v => exact SP.unwish (f := .ret v) q
end
end L2
namespace L2
open PySem PySem.Spec PyProof.Rows
section
variable {X : Cx}
end
end L2
namespace L2
open PySem PySem.Spec PyProof.Rows
section
variable {X : Cx}
end
end L2
namespace L2
open PySem PySem.Spec PyProof.Rows
def Cov (l : List Env) (h0 : Heap) (H : Hp) (B h : Heap) : Prop := ∀ b o, h.get? b = some o → b ∉ frs l → (H b ≠ none ∨ ∃ o0, h0.get? b = some o0) → B.get? b = some o
def Fly (l : List Env) (h0 : Heap) (H : Hp) (ea C : Addr) (h : Heap) : Prop := ∃ B a0, Heap.FlyingW B l ea (.ref C) a0 h ∧ Cov l h0 H B h
theorem ObjOk.there {P : Program} {w : World} {H : Hp} {h : Heap} {a : Addr} {o : HO} (x : ObjOk P w H h a o) : ∃ ob, h.get? a = some ob := by
  cases o with
  | lst xs => obtain ⟨_, _, _, _, e⟩ := x; exact ⟨_, e⟩
  | tup xs => obtain ⟨_, _, _, o, e, _⟩ := x; exact ⟨_, e⟩
  | dK kvs => obtain ⟨_, _, _, _, o, _, _, e, _⟩ := x; exact ⟨_, e⟩
  | dT kvs => obtain ⟨_, _, _, _, o, _, _, e, _⟩ := x; exact ⟨_, e⟩
  | set S n => obtain ⟨o, _, _, _, e, _⟩ := x; exact ⟨_, e⟩
  | ins C dx fs => obtain ⟨_, _, _, e, _⟩ := x; exact ⟨_, e⟩
  | own y => obtain ⟨_, e⟩ := x; exact ⟨_, e⟩
  | xd fs => obtain ⟨_, ⟨_, _, _, e, _⟩, _⟩ := x; exact ⟨_, e⟩
  | rng lo hi => obtain ⟨_, _, _, e⟩ := x; exact ⟨_, e⟩
  | frz ob u => obtain ⟨e, _⟩ := x; exact ⟨_, e⟩
  | tbl ps => exact ⟨_, (show h.get? a = some _ from x)⟩
  | met f y => exact ⟨_, (show h.get? a = some _ from x)⟩
  | ext φ => obtain ⟨_, ⟨_, e⟩, _⟩ := x; exact ⟨_, e⟩
section
variable {l : List Env} {H : Hp} {B h h' hc : Heap} {P : Program} {w : World}
theorem Cov.stay (c : Cov l hc H B h) (st : B.StaysIn h') : ∀ b o, h.get? b = some o → b ∉ frs l → (H b ≠ none ∨ ∃ o0, hc.get? b = some o0) → h'.get? b = some o := fun b o e nb hb => st b o (c b o e nb hb)
theorem HOk.moved (x : HOk P w H h) (c : Cov l hc H B h) (st : B.StaysIn h') (fr : ∀ b ∈ frs l, H b = none) : HOk P w H h' := fun a o e => by
  refine (x a o e).stay (fun b u hb q => ?_) (fun b q => q) fun b xs q => q
  have tr : H b ≠ none := by
    rcases hb with rfl | hb
    · rw [e]; intro z; cases z
    · rw [hb]; intro z; cases z
  exact c.stay st b u q (fun z => tr (fr b z)) (.inl tr)
theorem Un.moved {fs : List Addr} {H0 : Hp} {h0 : Heap} (u : Un fs [] H0 H h0 h) (c : Cov l hc H B h) (st : B.StaysIn h') (sm : h.UpToSlots h') (ff : h.FunFrames B l) (hn : ∀ b o, h0.get? b = some o → ∃ o', hc.get? b = some o')
    (hf : ∀ b ∈ fs, b ∈ frs l) (hl : ∀ b o, h0.get? b = some o → b ∈ frs l → b ∈ fs) : Un fs [] H0 H h0 h' := by
  have kp : ∀ b o0 o, h0.get? b = some o0 → b ∉ fs → h.get? b = some o → h'.get? b = some o := fun b o0 o e0 nb e => c.stay st b o e (fun z => nb (hl b o0 e0 z)) (.inr (hn b o0 e0))
  have sl : ∀ b o, b ∈ fs → h.get? b = some o → ∃ sl, h'.get? b = some { o with slots := sl } := fun b o hb e => by
    obtain ⟨_, o', e', d⟩ := ff.mem (show b ∈ l.filterMap (·.frame) from hf b hb)
    rw [e] at e'
    cases e'
    exact sm b o e d
  refine ⟨fun b o e z nb hx => kp b o o e nb (u.keep b o e z nb hx), fun b o e z hb hx => ?_, u.free, fun b o e hx => ?_, u.tups, u.frzs, u.tbls⟩
  · obtain ⟨s1, q⟩ := u.slot b o e z hb hx
    obtain ⟨s2, q2⟩ := sl b _ hb q
    exact ⟨s2, q2⟩
  · obtain ⟨o1, q⟩ := u.there b o e hx
    by_cases hb : b ∈ fs
    · obtain ⟨s2, q2⟩ := sl b _ hb q
      exact ⟨_, q2⟩
    · exact ⟨o1, kp b o o1 e hb q⟩
theorem Cov.moved {h0 : Heap} {l' : List Env} {fs : List Addr} {H0 : Hp} (c : Cov l hc H B h) (st : B.StaysIn h') (x : HOk P w H h) (u : Un fs [] H0 H h0 h) (hn : ∀ b o, h0.get? b = some o → ∃ o', hc.get? b = some o')
    (hl : ∀ b, b ∉ frs l' → (H b ≠ none ∨ ∃ o0, h0.get? b = some o0) → b ∉ frs l) : Cov l' h0 H B h' := fun b o e nb hb => by
  have nl := hl b nb hb
  have hb' : H b ≠ none ∨ ∃ o0, hc.get? b = some o0 := hb.imp id fun ⟨o0, z⟩ => hn b o0 z
  have ex : ∃ o1, h.get? b = some o1 := by
    rcases hb with z | ⟨o0, z⟩
    · cases q : H b with
      | none => exact absurd q z
      | some u1 => exact (x b u1 q).there
    · exact u.there b o0 z (by simp)
  obtain ⟨o1, q⟩ := ex
  have q2 := c b o1 q nl hb'
  have q3 := st b o1 q2
  rw [e] at q3
  cases q3
  exact q2
end
section
variable {X : Cx} {E : XK} {pins : List (Addr × Obj)} {σ : St} {H H' : Hp} {s s' : Shared}
theorem frs_cons (D : X.stack = X.env :: X.outer) (fr : X.env.frame = some X.env.locals) : frs X.stack = X.env.locals :: frs X.outer := by
  rw [D]
  show List.filterMap _ (X.env :: X.outer) = _
  rw [List.filterMap_cons, fr]
  rfl
end
section
variable {P : Program} {w : World} {K : PySem.W.Frag} {mg : Str → Option Value} {base : Heap}
end
end L2
namespace L2
open PySem PySem.Spec PyProof.Rows
theorem own_in {K : PySem.W.Frag} {h : Heap} {mg : Str → Option Value} {x : Str} {C : Addr} {bm : List Value} {new : String} (kin : K.In h) (hm : mg x = some (.ref C)) (q : PySem.W.excIn K C bm new = true) : OwnCls x C bm new mg h := by
  have key : ∀ o, K.lookup C = some o → ∃ tl N nm qn bs hdct sn sub ab col dd k0 k1 k2 k3 k5 mN, h.get? C = some (excClassObj nm qn C N bs tl hdct sn sub ab col dd k0 k1 k2 k3 k5 new) ∧ h.Ns N mN ∧ mN "__init__" = none ∧ OwnTail h bm tl := fun o lk => by
    unfold PySem.W.excIn at q
    rw [lk] at q
    obtain ⟨oc, od, odt, osl⟩ := o
    split at q
    · rename_i dd cd sl e0
      cases (Option.some.inj e0)
      obtain ⟨nm, bs, mro, ns, qn, hd, sn, sub, ab, col, del⟩ := cd
      split at q
      · rename_i C2 tl k0 k1 k2 k3 n2 k5 em es
        dsimp only at em q
        simp only [Bool.and_eq_true, beq_iff_eq, Bool.not_eq_true'] at q
        obtain ⟨⟨⟨⟨⟨q1, q2⟩, q3⟩, q4⟩, q5⟩, q6⟩ := q
        subst q1 q2 q3 em
        have esl : osl = #[k0, k1, k2, k3, some (.builtin n2), k5] := Array.toList_inj.mp es
        subst esl
        exact ⟨tl, ns, nm, qn, bs, hd, sn, sub, ab, col, od, k0, k1, k2, k3, k5, _, kin _ _ lk, .of_isNs (PySem.W.isNs_of_in kin q5), PySem.W.nsMap_none_of_in kin q5 q6, PySem.W.tail_of_in kin q4⟩
      · cases q
    · cases q
  refine ⟨hm, ?_⟩
  cases lk : K.lookup C with
  | none => unfold PySem.W.excIn at q; rw [lk] at q; cases q
  | some o => exact key o lk
section
variable {X : Cx} {E : XK}
end
end L2
namespace L2
open PySem PySem.Spec PyProof.Rows
def ExcO (ea C : Addr) : HO := .ext fun h => ∃ o, h.get? ea = some o ∧ o.cls = .ref C
abbrev Cx.hnd (X : Cx) (ev : Value) : Cx := { X with A := X.A.mark (some ev), calm := false, xe := fun _ _ => False }
section
variable {X : Cx} {pins : List (Addr × Obj)} {σ : St} {H H1 : Hp} {s s1 : Shared} {ev : Value}
theorem Cx.Ok.hnd (ok : X.Ok) (ev : Value) : (X.hnd ev).Ok :=
  ⟨ok.mod, ok.kind, ok.glob, ok.blt, ok.above, ok.inj, ok.has, ok.cab, fun h => (by cases h), ok.frames, ok.stk, ok.exf, ok.bs, ok.bsz, ok.noex, ok.exfs, ok.funs, ok.frf⟩
theorem Inv.hnd (I : Inv X pins σ H s) (ev : Value) : Inv (X.hnd ev) pins σ H s := ⟨I.ok.hnd ev, I.os, I.bare, I.base, I.loc, I.cell, I.free, I.freeC, I.pin, I.hok, I.len⟩
theorem Inv.unhnd (ok : X.Ok) (I : Inv (X.hnd ev) pins σ H s) : Inv X pins σ H s := ⟨ok, I.os, I.bare, I.base, I.loc, I.cell, I.free, I.freeC, I.pin, I.hok, I.len⟩
theorem SP.unhnd {D : Ends} {f : Flow} {s' : Shared} (ok : X.Ok) (h : SP (X.hnd ev) pins D f s') : SP X pins D f s' := by
  cases f with
  | next => obtain ⟨σ', H', I', q⟩ := h; exact ⟨σ', H', I'.unhnd ok, q⟩
  | brk => obtain ⟨σ', H', I', q⟩ := h; exact ⟨σ', H', I'.unhnd ok, q⟩
  | cont => obtain ⟨σ', H', I', q⟩ := h; exact ⟨σ', H', I'.unhnd ok, q⟩
  | ret v => obtain ⟨x, σ', H', I', r, q⟩ := h; exact ⟨x, σ', H', I'.unhnd ok, r, q⟩
theorem UpToSlots.isCell {h h' : Heap} {c : Addr} {v : Option Value} (sm : h.UpToSlots h') (x : h.IsCell c v) : h'.IsCell c v := by
  obtain ⟨o, e, d⟩ := x
  obtain ⟨sl, e2⟩ := sm c o e fun vs q => by rw [d] at q; cases q
  exact ⟨_, e2, d⟩
theorem Inv.moved {B h2 : Heap} (I1 : Inv X pins σ H1 s1) (I : Inv X pins σ H s) (hst : X.stack = X.env :: X.outer) (fr : X.env.frame = some X.env.locals) (hex : X.ex = []) (c : Cov X.stack s1.heap H B s.heap) (st : B.StaysIn h2) (sm : s.heap.UpToSlots h2)
    (ff : s.heap.FunFrames B X.stack) : Inv X pins σ H { s with heap := h2 } := by
  have fc := frs_cons hst fr
  have b0 : Un X.fs [] X.H₀ H X.s₀.heap s.heap := by have := I.base; rw [hex] at this; exact this
  have sub : ∀ b o, X.s₀.heap.get? b = some o → ∃ o', s1.heap.get? b = some o' := fun b o e => I1.base.there b o e (by rw [hex]; simp)
  have nL : ∀ b o, X.s₀.heap.get? b = some o → b ≠ X.env.locals := fun b o e z => absurd (Heap.lt_size e) (by rw [z]; exact Nat.not_lt.mpr I.ok.above)
  refine ⟨I.ok, I.os, I.bare, ?_, ?_, fun x cc e => ?_, I.free, I.freeC, fun p hp => ?_, I.hok.moved c st I.stkFree, I.len⟩
  · rw [hex]
    refine b0.moved c st sm ff sub (fun b hb => by rw [fc]; exact List.mem_cons_of_mem _ hb) fun b o e hb => ?_
    rw [fc] at hb
    rcases List.mem_cons.mp hb with z | z
    · exact absurd z (nL b o e)
    · exact z
  · obtain ⟨m, hn, hl⟩ := I.loc
    refine ⟨m, sm.ns hn, fun i x v a b cc => ?_⟩
    obtain ⟨u, r, lk⟩ := hl i x v a b cc
    refine ⟨u, r, ?_⟩
    rcases lk with z | ⟨z, cl, e, ic⟩
    · exact .inl z
    · exact .inr ⟨z, cl, e, UpToSlots.isCell sm ic⟩
  · obtain ⟨v, q⟩ := I.cell x cc e
    exact ⟨v, UpToSlots.isCell sm q⟩
  · obtain ⟨e, f, nl, nf, d⟩ := I.pin p hp
    refine ⟨c.stay st p.1 p.2 e (fun z => ?_) (.inr ⟨_, (I1.pin p hp).1⟩), f, nl, nf, d⟩
    rw [fc] at z
    rcases List.mem_cons.mp z with z | z
    · exact nl z
    · exact nf z
theorem Inv.exc {ea C : Addr} {oe : Obj} (I : Inv X pins σ H s) (hx : H ea = none) (ho : s.heap.get? ea = some oe) (hc : oe.cls = .ref C) (h0 : X.s₀.heap.get? ea = none) (hL : ea ≠ X.env.locals) (hcl : ∀ y c, X.env.cells.lookup y = some c → c ≠ ea)
    (hp : ∀ p ∈ X.pn ++ pins, p.1 ≠ ea) : Inv X pins σ (upd H ea (ExcO ea C)) s := by
  refine ⟨I.ok, I.os, I.bare, ⟨I.base.keep, I.base.slot, fun b o e z nx => ?_, I.base.there, fun b xs e => ?_, fun b o u e => ?_, fun b ps e => ?_⟩, I.loc, I.cell, ?_, fun y c e => ?_, fun p hp' => ?_, fun b u e => ?_, I.len⟩
  · rw [upd_ne (fun z2 => by rw [z2, h0] at e; cases e)]; exact I.base.free b o e z nx
  · have q := I.base.tups b xs e
    rw [upd_ne (ne_of_none q hx)]; exact q
  · have q := I.base.frzs b o u e
    rw [upd_ne (ne_of_none q hx)]; exact q
  · obtain ⟨more, q⟩ := I.base.tbls b ps e
    exact ⟨more, by rw [upd_ne (ne_of_none q hx)]; exact q⟩
  · rw [upd_ne hL.symm]; exact I.free
  · rw [upd_ne (hcl y c e)]; exact I.freeC y c e
  · obtain ⟨e, f, r⟩ := I.pin p hp'
    exact ⟨e, by rw [upd_ne (hp p hp')]; exact f, r⟩
  · by_cases hb : b = ea
    · subst hb
      rw [upd_same] at e
      cases e
      exact ⟨⟨oe, ho, hc⟩, ⟨oe, ho⟩, fun h1 h2 ⟨o, e, c⟩ k => ⟨o, k o e, c⟩⟩
    · rw [upd_ne hb] at e
      exact (I.hok b u e).stay (fun c v _ q => q) (fun c q => by rw [upd_ne (ne_of_none q hx)]; exact q) fun c xs q => by rw [upd_ne (ne_of_none q hx)]; exact q
def Takes (X : Cx) (C CB : Addr) : Prop := ∀ (A : Around) (s : Shared) (ea : Addr) (ob : Obj) (Q : Bool → Shared → Prop) (E : Value → Shared → Prop), X.K.In s.heap → s.heap.get? ea = some ob → ob.cls = .ref C → Q true s → wpAny (model X.prog X.w) A (excMatches (.ref ea) (.ref CB)) Q E s
theorem takes_self {x : Str} {C : Addr} {bm : List Value} {new : String} (hm : X.mg x = some (.ref C)) (qx : PySem.W.excIn X.K C bm new = true) (hb : bm.contains (.type "BaseException") = true) : Takes X C C := by
  intro A s ea ob Q E k ho hc q
  obtain ⟨tl, N, nm, q', bs, hdct, sn, sub, ab, col, dd, k0, k1, k2, k3, k5, mN, hC, hN, hni, T⟩ := (own_in k hm qx).obj
  obtain ⟨h, g, d, t, os⟩ := s
  exact wpAny_excMatches_sub_self hC ho hc (T.hasType hb) q
theorem lands {ea C CB : Addr} {cx : Str} {np hpos : Pos} {b₀ : Stmt} {suite : List Stmt} {rest : List ExceptHandler} {D : Ends} {th : TS} {E : Value → Shared → Prop} (I1 : Inv X pins σ H1 s1) (I : Inv X pins σ H s) (hst : X.stack = X.env :: X.outer) (fr : X.env.frame = some X.env.locals) (hex : X.ex = [])
    (fly : Fly X.stack s1.heap H ea C s.heap) (hg : Gl X cx) (hm : X.mg cx = some (.ref CB)) (tk : Takes X C CB) (hs : ∀ ev, PSs (X.hnd ev) (b₀ :: suite) th) (q : H ea = none → th D σ (upd H ea (ExcO ea C))) (hd : (cx == ("__debug__" : Str)) = false) :
    wpAny (model X.prog X.w) X.A (noteFrame (.ref ea) X.env) (fun _ s₂ => wpAny (model X.prog X.w) X.A (setFlight (.ref ea) none) (fun _ s₃ =>
      wpAny (model X.prog X.w) X.A (handleBy (.ref ea) X.env (.ExceptHandler (some (.Name cx np)) none (b₀ :: suite) hpos :: rest)) (SP X pins D) E s₃) E s₂) E s := by
  obtain ⟨B, a0, fl, c⟩ := fly
  have hfr : X.A.frames = some (X.env :: X.outer) := by rw [I.ok.frames, hst]
  have ff := fl.2.2.1
  have fl' : Heap.FlyingW B (X.env :: X.outer) ea (.ref C) a0 s.heap := by rw [← hst]; exact fl
  refine wpAny_looks_onW hfr fr fl' fun h₄ held₄ sm₄ => ?_
  refine wpAny_landsW held₄ fun h₅ fl₅ sm₅ => ?_
  have I5 := Inv.moved I1 I hst fr hex c fl₅.1 (sm₄.trans sm₅) ff
  obtain ⟨ob, hob, hobc⟩ := fl₅.there
  refine wpAny_handleBy_cons (codeAny_handlers_test (ld_glob (X := X.hnd (.ref ea)) (I5.hnd (.ref ea)) hg hm ?_ hd)) (by intro z; cases z)
  refine tk _ _ ea ob _ _ I5.kIn hob hobc (codeAny_handlers_suite ?_)
  refine lands_againW (s := { s with heap := h₅ }) fl₅ fun h₆ fl₆ sm₆ => ?_
  have I6 := Inv.moved I1 I hst fr hex c fl₆.1 ((sm₄.trans sm₅).trans sm₆) ff
  obtain ⟨oe, ws, hoe, hoec, hoed, hoe0⟩ := fl₆.first
  have nfr : ea ∉ frs X.stack := fun z => by
    have ff6 := fl₆.2.2.1
    rw [← hst] at ff6
    obtain ⟨_, o', e', d'⟩ := ff6.mem (show ea ∈ X.stack.filterMap (·.frame) from z)
    rw [hoe] at e'
    cases e'
    exact d' ws hoed
  obtain ⟨o1, e1, _⟩ := fl.there
  have hB := fl.2.1
  have hHe : H ea = none := by
    cases z : H ea with
    | none => rfl
    | some u =>
      have := c ea o1 e1 nfr (.inl (by rw [z]; intro y; cases y))
      rw [hB] at this; cases this
  have h1e : s1.heap.get? ea = none := by
    cases z : s1.heap.get? ea with
    | none => rfl
    | some u =>
      have := c ea o1 e1 nfr (.inr ⟨u, z⟩)
      rw [hB] at this; cases this
  have h0e : X.s₀.heap.get? ea = none := by
    cases z : X.s₀.heap.get? ea with
    | none => rfl
    | some u =>
      obtain ⟨o', e'⟩ := I1.base.there ea u z (by rw [hex]; simp)
      rw [h1e] at e'; cases e'
  have I6x := I6.exc hHe hoe hoec h0e (fun z => nfr (by rw [frs_cons hst fr, z]; exact List.mem_cons_self)) (fun y cc e z => by
    obtain ⟨v, o, e', _⟩ := I1.cell y cc e
    rw [z, h1e] at e'; cases e') fun p hp z => by
      have := (I1.pin p hp).1
      rw [z, h1e] at this; cases this
  exact wpAny_mono (hs (.ref ea) pins _ σ _ D (I6x.hnd _) (q hHe)) (fun f s7 h7 => SP.unhnd I.ok h7) fun _ _ z => z.elim
abbrev TX := St → Hp → VK → XK → Prop
def XP (X : Cx) (pins : List (Addr × Obj)) (σ : St) (E : XK) (ev : Value) (s' : Shared) : Prop := ∃ s1 H1 ea C H', Inv X pins σ H1 s1 ∧ ev = .ref ea ∧ Inv X pins σ H' s' ∧ Fly X.stack s1.heap H' ea C s'.heap ∧ E ev (some C) H'
def PEX (X : Cx) (e : Expr) (t : TX) : Prop :=
  ∀ (pins : List (Addr × Obj)) (s : Shared) (σ : St) (H : Hp) (Q : VK) (E : XK), Inv X pins σ H s → t σ H Q E → wpAny (model X.prog X.w) X.A (eval e X.env) (EP X pins σ Q) (XP X pins σ E) s
def xCall (sp : Sp) (dvs : List V) (t : TA) : TX := fun σ H Q E => t σ H fun vs H1 => sp (vs ++ dvs) H1 Q E
end
section
variable {X : Cx} {k : Nat} {f C : Addr} {fd : FuncData} {ps : List Str} {sp : Sp} {dvs : List V} {ds : List Value} {x : Str} {p pos : Pos} {e : Expr} {es : List Expr} {t : TA}
end
section
variable {X : Cx} {e : Expr} {t : TX} {C CB : Addr} {cx y : Str} {np hpos pos py apos : Pos} {b₀ : Stmt} {suite : List Stmt} {th : TS} {j : Nat}
def tTrySet (j : Nat) (C : Addr) (t : TX) (th : TS) : TS := fun D σ H => t σ H (fun v H1 => D.nx (σ.set j (some v)) H1) fun ev c H1 => ∃ ea, ev = .ref ea ∧ c = some C ∧ (H1 ea = none → th D σ (upd H1 ea (ExcO ea C)))
theorem ps_trySet (hst : X.stack = X.env :: X.outer) (fr : X.env.frame = some X.env.locals) (hex : X.ex = []) (hN : X.N.Nodup) (hj : X.N[j]? = some y) (hy : Loc X.env.scope y) (he : PEX X e t) (hg : Gl X cx) (hm : X.mg cx = some (.ref CB)) (tk : Takes X C CB)
    (hs : ∀ ev, PSs (X.hnd ev) (b₀ :: suite) th) (hd : (cx == ("__debug__" : Str)) = false := by decide) (hsw : swapsWith e (some (.Name y py)) apos.line X.env = pure false := by rfl)
    (hf : X.fn y = true ∨ X.env.scope.names.lookup y = some .local := by first | exact .inl rfl | exact .inr rfl | assumption) :
    PS X (.Try [.Assign [.Name y py] e apos] [.ExceptHandler (some (.Name cx np)) none (b₀ :: suite) hpos] [] [] pos) (tTrySet j C t th) := by
  intro pins s σ H D I h
  refine wpAny_Try_except (wpAny_execs_cons (wpAny_mono (wpAny_Assign_Name (Q := fun f s1 => f = .next ∧ SP X pins D .next s1) (wpAny_mono (he pins s σ H _ _ I h) (fun v s1 ⟨y1, H1, I1, r1, q1⟩ => ?_) fun ev s1 hx => ?_) hsw) (fun f s1 hq => ?_) fun _ _ z => z))
  · exact store_ok I1 hN hj hy r1 (fun s2 I2 => ⟨rfl, _, H1, I2, q1⟩) hf
  · obtain ⟨s0, H0, ea, C', H', I0, rfl, I', fl, ea2, e2, rfl', q⟩ := hx
    cases e2
    obtain rfl : C' = C := Option.some.inj rfl'
    exact lands I0 I' hst fr hex fl hg hm tk hs q hd
  · obtain ⟨rfl, hq⟩ := hq
    exact wpAny_execs_nil (wpAny_execs_nil hq)
end
end L2
namespace L2
open PySem PySem.Spec PyProof.Rows PySem.Builtin PySem.Builtin.ObjectAttr PySem.Builtin.Getset_descriptor
section
variable {prog : Program} {w : World} {A : Around} {E : Value → Shared → Prop} {s : Shared} {K : PySem.W.Frag} {x D : Addr} {ox : Obj}
structure ExcK (K : PySem.W.Frag) (D : Addr) : Prop where
  ga : PySem.W.findIn K (.ref D) "__getattribute__" = some (some (.builtin "BaseException.__getattribute__"))
  gh : PySem.W.findIn K (.ref D) "__getattr__" = some none
  ha : PySem.W.findIn K (.ref D) "__class__" = some (some (.builtin "object.__class__"))
  hn : PySem.W.specialIn K (.builtin "object.__class__") "__get__" = some (some (.builtin "getset_descriptor.__get__"))
  htk : PySem.W.takesIn K (.builtin "object.__class__") = some true
  hm : PySem.W.mroIn K D (.type "object") = some true
  hb : PySem.W.mroIn K D (.type "BaseException") = some true
theorem find_data (Y : ExcK K D) (X : K.In s.heap) {M : Model} : PySem.W.Looks M s.heap (find (.ref x) (.ref D) "__class__") (.bind (.builtin "getset_descriptor.__get__") (.builtin "object.__class__")) := by
  have L1 := PySem.W.looks_findIn (M := M) X Y.ha
  have L2 : PySem.W.Looks M s.heap (getOf (some (.builtin "object.__class__"))) (some (.builtin "getset_descriptor.__get__")) := PySem.W.looks_specialIn X Y.hn
  refine L1.andThen (L2.andThen ?_)
  have L3 := PySem.W.looks_takesIn (M := M) X Y.htk
  exact (show PySem.W.Looks M s.heap (dataDescriptor? (some (.builtin "object.__class__")) (some (.builtin "getset_descriptor.__get__"))) (some (.builtin "getset_descriptor.__get__", .builtin "object.__class__")) from L3.andThen .now).andThen (PySem.W.Looks.tag .now)
theorem exc_type (hx : s.heap.get? x = some ox) (hc : ox.cls = .ref D) {M : Model} : PySem.W.Looks M s.heap (typeOf (.ref x)) (.ref D) := hc ▸ (PySem.W.Looks.ld hx).andThen .now
theorem exc_class_get (Y : ExcK K D) {R : Result → Shared → Prop} {tp : Value} (X : K.In s.heap) (hx : s.heap.get? x = some ox) (hc : ox.cls = .ref D)
    (h : R (.ok (.ret (.ref D))) s) : codeAny (model prog w) A (.call (.builtin "getset_descriptor.__get__") ⟨[.builtin "object.__class__", .ref x, tp], []⟩) R s := by
  have L0 := exc_type (M := model prog w) hx hc
  obtain ⟨hh, g, dr, t, os⟩ := s
  have L1 := PySem.W.looks_mroIn (M := model prog w) X Y.hm
  refine codeAny_call_builtin PySem.W.KF.slot_gs.plain PySem.W.KF.entry_gs (PySem.W.KF.slot_gs.check _ _ _ _ _ _ _ _ PySem.W.KF.type_class (PySem.W.KF.args_gs _ _ _) ?_)
  unfold Builtin.«getset_descriptor.__get__» descrGet
  rw [PySem.W.dga_obj]
  refine wpAny_bind (wpAny_pure ?_)
  unfold descrGetter descrCheckInstance descrNameAndClass isInstance
  simp only [PySem.W.KF.owner_class]
  repeat lk
  refine ⟨Code.quiet_builtin _ (by decide +kernel), codeAny_builtin PySem.W.KF.entry_class ?_⟩
  unfold Builtin.«object.__class__» shownTypeOf
  repeat lk
  exact h
theorem exc_ga_entry (Y : ExcK K D) {tk : Tok} {Q : Fin → Shared → Prop} (X : K.In s.heap) (hx : s.heap.get? x = some ox) (hc : ox.cls = .ref D)
    (h : Q (.done (.ret (.ref D))) s) :
    wpAny (model prog w) A (Builtin.«object.__getattribute__» ⟨[.ref x, .str "__class__" tk], []⟩) Q E s := by
  have L0 := exc_type (M := model prog w) hx hc
  have L1 := find_data (x := x) (M := model prog w) Y X
  obtain ⟨hh, g, dr, t, os⟩ := s
  unfold Builtin.«object.__getattribute__»
  repeat (first | with_reducible refine PySem.W.Looks.at (by assumption) ?_ | with_reducible refine wpAny_bind ?_ | with_reducible refine wpAny_holding ?_ | with_reducible refine wpAny_call ?_ | with_reducible refine wpAny_runValue ?_ | lk)
  refine exc_class_get (s := ⟨hh, g, dr, t, os⟩) Y X hx hc ?_
  repeat (any_goals (first | assumption | wp_step))
theorem exc_ga_check (Y : ExcK K D) {M : Model} {nameV : Value} {Q : Unit → Shared → Prop} (X : K.In s.heap) (hx : s.heap.get? x = some ox) (hc : ox.cls = .ref D) (hq : Q () s) : wpAny M A (checkBuiltinCall "BaseException.__getattribute__" ⟨[.ref x, nameV], []⟩) Q E s := by
  have hk : builtinKind "BaseException.__getattribute__" = some .slot := by decide +kernel
  have hsplit : splitId "BaseException.__getattribute__" = some ("BaseException", "__getattribute__") := by decide +kernel
  have ha := F.args_bexc_ga (.ref x) nameV
  have L0 := exc_type (M := M) hx hc
  have L1 := PySem.W.looks_mroIn (M := M) X Y.hb
  obtain ⟨hh, g, dr, t, os⟩ := s
  simp only [checkBuiltinCall, hk, hsplit]
  refine wpAny_bind ?_
  · unfold isInstance
    refine wpAny_bind (L0.at (L1.at ?_))
    repeat (first | exact hq | wp_step)
theorem exc_class (Y : ExcK K D) {Q : Option Value → Shared → Prop} (X : K.In s.heap) (hx : s.heap.get? x = some ox) (hc : ox.cls = .ref D) (h : Q (some (.ref D)) { s with toks := s.toks + 1 }) : wpAny (model prog w) A (getAttr? (.ref x) "__class__") Q E s := by
  have L0 := exc_type (M := model prog w) hx hc
  have L1 := PySem.W.looks_findIn (M := model prog w) X Y.ga
  have L2 := PySem.W.looks_findIn (M := model prog w) X Y.gh
  obtain ⟨hh, g, d, t, os⟩ := s
  have f3 := F.excAttr_ValueError.ga.bind (.ref x)
  have hx2 : (Value.builtin "BaseException.__getattribute__" == Value.builtin "object.__getattribute__") = false := by decide +kernel
  have hx1 : (onTheHeap (Value.ref D) && Value.builtin "BaseException.__getattribute__" == Value.builtin "object.__getattribute__") = false := by rw [hx2]; rfl
  unfold getAttr? getAttrBy? getAttrBy
  refine wpAny_bind (wpAny_mkText (wpAny_bind (wpAny_attempt (wpAny_holding (wpAny_bind (L0.at (wpAny_bind (L1.at ?_))))))))
  dsimp only
  rw [if_neg (by rw [hx1]; decide)]
  unfold getAttrByItsOwn hookBefore
  refine wpAny_bind ?_
  rw [if_pos (show onTheHeap (Value.ref D) = true from rfl)]
  refine L2.at (wpAny_bind (wpAny_attempt ?_))
  refine wpAny_holding ?_
  unfold callGetattribute boundAndCalled
  rw [if_neg (by decide), f3]
  refine wpAny_bind (wpAny_pure (wpAny_call (codeAny_call_builtin F.excAttr_ValueError.ga.plain F.entry_bexc_ga (exc_ga_check (s := ⟨hh, g, d, t + 1, os⟩) Y X hx hc (exc_ga_entry (s := ⟨hh, g, d, t + 1, os⟩) Y X hx hc ?_)))))
  repeat (any_goals (first | exact h | wp_step))
end
end L2
namespace L2
open PySem PySem.Spec PyProof.Rows
section
variable {K : PySem.W.Frag} {x D : Addr}
theorem kitx_exc (Y : ExcK K D) : PySem.W.KitX K (.ref x) (.ref D) (fun h => ∃ o, h.get? x = some o ∧ o.cls = .ref D) where
  ty := fun _ h _ ⟨o, h1, h2⟩ => h2 ▸ (PySem.W.Looks.ld h1).andThen .now
  it := fun _ _ X _ => by
    obtain ⟨cdD, hcD, _⟩ := Option.bind_eq_some_iff.mp Y.hm
    unfold PySem.W.clsIn at hcD
    split at hcD
    · rename_i c' d' cd' sl' ho
      intro A' Q' E' s' k q
      unfold isType loadHead
      exact wpAny_bind (wpAny_loadPart (k _ _ (X _ _ ho)) (wpAny_pure q))
    · cases hcD
  ne := fun h tp dd its n sl X htp => by
    obtain ⟨cdD, hcD, _⟩ := Option.bind_eq_some_iff.mp Y.hm
    refine Bool.eq_false_iff.mpr fun q => ?_
    have e : D = tp := Value.ref.inj (beq_iff_eq.mp q)
    subst e
    unfold PySem.W.clsIn at hcD
    split at hcD
    · rename_i c' d' cd' sl' ho
      have z := (X _ _ ho).symm.trans htp
      cases z
    · cases hcD
  ca := fun X ⟨o, h1, h2⟩ k => exc_class Y X h1 h2 k
end
section
variable {X : Cx}
end
section
variable {X : Cx} {pins : List (Addr × Obj)} {σ : St} {H H1 : Hp} {s s1 : Shared} {ev : Value}
theorem goes_ok {M : Model} {A : Around} {E : Value → Shared → Prop} {i : Nat} {x : Str} {pos : Pos} {Q : Unit → Shared → Prop} (I : Inv X pins σ H s) (hN : X.N.Nodup) (hi : X.N[i]? = some x) (hk : X.env.scope.names.lookup x = some .local)
    (h : ∀ s', Inv X pins (σ.set i none) H s' → Q () s') : wpAny M A (do bindName X.env x .none; unbindBehindTheSuite X.env x pos) Q E s := by
  obtain ⟨m, hn, hl⟩ := id I.loc
  have hcls : (X.env.scope.kind == .class || (X.env.scope.kind == .module && X.env.locals != X.env.globals)) = false := by rw [I.ok.kind]; rfl
  have hiσ : i < σ.length := by rw [I.len]; exact (List.getElem?_eq_some_iff.mp hi).1
  have cne := I.cne
  have tracked : ∀ {a : Addr} {h' : Heap}, (∃ o, s.heap.get? a = some o ∧ H a = none) → Heap.SameBut a s.heap h' → HOk X.prog X.w H h' := fun {a h'} ha hs b ob e => by
    obtain ⟨_, _, hfree⟩ := ha
    refine (I.hok b ob e).stay (fun c w' hc q => (hs.2 c ?_).trans q) (fun _ q => q) fun _ _ q => q
    rintro rfl
    rcases hc with rfl | hc
    · rw [hfree] at e; cases e
    · rw [hfree] at hc; cases hc
  refine wpAny_nameGoes_keeps hk hn hcls fun h' v0 hn' hs => ?_
  obtain ⟨oL, _, _, hoL, _⟩ := id hn
  refine h _ ⟨I.ok, I.os, I.bare, ⟨fun b o e n hb hx => ?_, fun b o e n hb hx => ?_, I.base.free, fun b o e hx => ?_, I.base.tups, I.base.frzs, I.base.tbls⟩, ⟨_, hn', fun j y v' e1 e2 e3 => ?_⟩, fun y c e => ?_, I.free, I.freeC, fun p hp => ?_, tracked ⟨oL, hoL, I.free⟩ hs, by simpa using I.len⟩
  · exact (hs.2 b (Nat.ne_of_lt (Nat.lt_of_lt_of_le (Heap.lt_size e) I.ok.above))).trans (I.base.keep b o e n hb hx)
  · obtain ⟨sl, e1⟩ := I.base.slot b o e n hb hx
    exact ⟨sl, (hs.2 b (Nat.ne_of_lt (Nat.lt_of_lt_of_le (Heap.lt_size e) I.ok.above))).trans e1⟩
  · obtain ⟨o', e1⟩ := I.base.there b o e hx
    exact ⟨o', (hs.2 b (Nat.ne_of_lt (Nat.lt_of_lt_of_le (Heap.lt_size e) I.ok.above))).trans e1⟩
  · by_cases hj : j = i
    · subst hj
      rw [List.getElem?_set_self hiσ] at e2
      cases e2
    · rw [List.getElem?_set_ne (Ne.symm hj)] at e2
      obtain ⟨u', r', q⟩ := hl j y v' e1 e2 e3
      refine ⟨u', r', ?_⟩
      rcases q with ⟨k, e⟩ | ⟨k, c, e, z⟩
      · refine .inl ⟨k, ?_⟩
        have : y ≠ x := fun e => hj (nodup_ix hN e1 (e ▸ hi))
        simp [this, e]
      · exact .inr ⟨k, c, e, z.sameBut hs (cne y c e)⟩
  · obtain ⟨w', z⟩ := I.cell y c e
    exact ⟨w', z.sameBut hs (cne y c e)⟩
  · obtain ⟨e, n, ne, nf, d⟩ := I.pin p hp
    exact ⟨(hs.2 p.1 ne).trans e, n, ne, nf, d⟩
def Ends.gone (D : Ends) (i : Nat) : Ends := ⟨fun σ H => D.nx (σ.set i none) H, D.rt, fun σ H => D.bk (σ.set i none) H, fun σ H => D.ct (σ.set i none) H⟩
end
section
variable {X : Cx} {e : Expr} {t : TX} {C CB : Addr} {cx n : Str} {np hpos pos epos : Pos} {b₀ : Stmt} {suite : List Stmt} {th : TS} {i : Nat}
end
end L2
namespace L2
open PySem PySem.Spec PyProof.Rows
section
variable {P : Program} {w : World} {K : PySem.W.Frag} {H : Hp} {h : Heap} {a b : Addr} {xs ys : List V}
theorem sqL_raw (hok : HOk P w H h) (kin : K.In h) (q : SqL K H a xs) : ∃ its : List Value, Vals xs its ∧ PlainL h a its.toArray ∧ xs.length ≤ sizeLine := by
  rcases q with q | ⟨o, its, n, hk, hc, hd, hs, hz, r⟩
  · obtain ⟨z, its, n, r, e⟩ := q.ok hok
    exact ⟨its, r, ⟨_, n, e, rfl, rfl, rfl⟩, z⟩
  · refine ⟨its.toList, r, ⟨o, n, kin a o hk, hc, hd, by simpa using hs⟩, ?_⟩
    have e := r.length
    simp only [Array.length_toList] at e
    omega
theorem sqT_raw (hok : HOk P w H h) (kin : K.In h) (q : SqT K H a xs) : ∃ its : List Value, Vals xs its ∧ IsTup h a its.toArray ∧ xs.length ≤ sizeLine := by
  rcases q with q | ⟨o, its, n, hk, hc, hs, hz, r⟩
  · obtain ⟨z, its, r, p⟩ := q.ok hok
    exact ⟨its, r, p, z⟩
  · refine ⟨its.toList, r, ⟨o, kin a o hk, hc, n, by simpa using hs⟩, ?_⟩
    have e := r.length
    simp only [Array.length_toList] at e
    omega
theorem sqT_inj (hok : HOk P w H h) (kin : K.In h) (q : SqT K H a xs) (q' : SqT K H a ys) : xs = ys := by
  obtain ⟨its, r, ⟨o, e, _, n, d⟩, _⟩ := sqT_raw hok kin q
  obtain ⟨its', r', ⟨o', e', _, n', d'⟩, _⟩ := sqT_raw hok kin q'
  rw [e] at e'; cases e'
  rw [d] at d'
  injection d' with d1 _
  have : its = its' := by simpa using congrArg Array.toList d1
  subst this
  exact r.inj r'
def SqU (K : PySem.W.Frag) (H : Hp) (a : Addr) (xs : List V) : Prop :=
  H a = some (.tup xs) ∨ ∃ (o : Obj) (its : Array Value) (n : Nat), K.lookup a = some o ∧ o.cls = .type "tuple" ∧ o.data = .seq its n ∧ its.size ≤ sizeLine ∧ Vals xs its.toList
theorem SqU.sq (q : SqU K H a xs) : SqT K H a xs := q.elim (fun z => .inl (.inl z)) .inr
def TSame (H H' : Hp) : Prop := ∀ b xs, H b = some (.tup xs) → H' b = some (.tup xs)
theorem SqU.keep {H' : Hp} (e : TSame H H') (q : SqU K H a xs) : SqU K H' a xs := q.elim (fun z => .inl (e _ _ z)) .inr
end
def EqIs (K : PySem.W.Frag) (n : Nat) (H : Hp) (x y : V) (b : Bool) : Prop :=
  ∀ (P : Program) (w : World) (A : Around) (s : Shared) (u v : Value), A.units + n < cLine → HOk P w H s.heap → K.In s.heap → RelV x u → RelV y v → SeqAt.EqAt A s u v b
def RcIs (K : PySem.W.Frag) (n : Nat) (H : Hp) (x y : V) (b : Bool) : Prop :=
  ∀ (P : Program) (w : World) (A : Around) (s : Shared) (u v : Value), A.units + n < cLine → HOk P w H s.heap → K.In s.heap → RelV x u → RelV y v → SeqAt.RcAt A s u v b
def NeIs (K : PySem.W.Frag) (n : Nat) (H : Hp) (x y : V) (b : Bool) : Prop :=
  ∀ (P : Program) (w : World) (A : Around) (s : Shared) (u v : Value), A.units + n < cLine → HOk P w H s.heap → K.In s.heap → RelV x u → RelV y v → SeqAt.RcNeAt A s u v (!b)
section
variable {K : PySem.W.Frag} {H : Hp} {a b : Addr} {n m : Nat} {x y : V} {r : Bool}
theorem EqIs.mono (h : EqIs K n H x y r) (le : n ≤ m) : EqIs K m H x y r := fun P w A s u v hA => h P w A s u v (by omega)
theorem tupRc {us vs : List V} {e : Nat → Bool} (ha : SqT K H a us) (hb : SqT K H b vs) (hl : us.length = vs.length) (he : ∀ (j : Nat) x y, us[j]? = some x → vs[j]? = some y → EqIs K n H x y (e j)) :
    RcIs K (n + 1) H (.ref a) (.ref b) ((List.range us.length).all e) ∧ NeIs K (n + 1) H (.ref a) (.ref b) ((List.range us.length).all e) := by
  have main : ∀ (P : Program) (w : World) (A : Around) (s : Shared) (u v : Value), A.units + (n + 1) < cLine → HOk P w H s.heap → K.In s.heap → RelV (.ref a) u → RelV (.ref b) v →
      SeqAt.RcAt A s u v ((List.range us.length).all e) ∧ SeqAt.RcNeAt A s u v (!(List.range us.length).all e) := by
    intro P w A s u v hA hok kin r1 r2
    cases r1
    cases r2
    obtain ⟨i1, v1, p1, _⟩ := sqT_raw hok kin ha
    obtain ⟨i2, v2, p2, _⟩ := sqT_raw hok kin hb
    have l1 := v1.length
    have l2 := v2.length
    have items : ∀ j (h1 : j < i1.toArray.size) (h2 : j < i2.toArray.size), SeqAt.EqAt A.in1 s i1.toArray[j] i2.toArray[j] (e j) := fun j h1 h2 => by
      have h1' : j < i1.length := by simpa using h1
      have h2' : j < i2.length := by simpa using h2
      have e1 : us[j]? = some us[j] := List.getElem?_eq_getElem (by omega)
      have e2 : vs[j]? = some vs[j] := List.getElem?_eq_getElem (by omega)
      obtain ⟨u, eu, ru⟩ := v1.get e1
      obtain ⟨v, ev, rv⟩ := v2.get e2
      have q := he j _ _ e1 e2 P w A.in1 s u v (by show A.units + 1 + n < cLine; omega) hok kin ru rv
      have z1 : i1.toArray[j] = u := by
        rw [List.getElem?_eq_getElem h1'] at eu
        simpa using Option.some.inj eu
      have z2 : i2.toArray[j] = v := by
        rw [List.getElem?_eq_getElem h2'] at ev
        simpa using Option.some.inj ev
      rw [z1, z2]
      exact q
    have ez : ((List.range (min i1.toArray.size i2.toArray.size)).all e && i1.toArray.size == i2.toArray.size) = (List.range us.length).all e := by
      have s1 : i1.toArray.size = us.length := by simp [l1]
      have s2 : i2.toArray.size = us.length := by simp [← l2, hl]
      rw [s1, s2, Nat.min_self]
      simp
    constructor
    · have q := SeqAt.RcAt.tuples (A := A) (s := s) (e := e) p1 p2 (by omega) items
      rw [ez] at q
      exact q
    · have q := SeqAt.RcNeAt.tuples (A := A) (s := s) (e := e) p1 p2 (by omega) items
      rw [ez] at q
      exact q
  exact ⟨fun P w A s u v h1 h2 h3 h4 h5 => (main P w A s u v h1 h2 h3 h4 h5).1, fun P w A s u v h1 h2 h3 h4 h5 => (main P w A s u v h1 h2 h3 h4 h5).2⟩
theorem eqIs_ref (h : RcIs K n H (.ref a) (.ref b) r) (hs : ∀ (P : Program) (w : World) (h : Heap), HOk P w H h → K.In h → a = b → r = true) : EqIs K n H (.ref a) (.ref b) r := by
  intro P w A s u v hA hok kin r1 r2
  have q := h P w A s u v hA hok kin r1 r2
  cases r1
  cases r2
  by_cases e : a = b
  · rw [hs P w s.heap hok kin e, e]
    exact SeqAt.EqAt.same _
  · exact SeqAt.EqAt.of_refs e q
end
structure Cod (α : Type) [DecidableEq α] where
  n : Nat
  rp : PySem.W.Frag → Hp → α → V → Prop
  inj : ∀ {P : Program} {w : World} {K : PySem.W.Frag} {H : Hp} {h : Heap} {x y : α} {v : V}, HOk P w H h → K.In h → rp K H x v → rp K H y v → x = y
  eq : ∀ {K : PySem.W.Frag} {H : Hp} {x y : α} {u v : V}, rp K H x u → rp K H y v → EqIs K n H u v (decide (x = y))
  rc : ∀ {K : PySem.W.Frag} {H : Hp} {x y : α} {u v : V}, rp K H x u → rp K H y v → RcIs K n H u v (decide (x = y))
  ne : ∀ {K : PySem.W.Frag} {H : Hp} {x y : α} {u v : V}, rp K H x u → rp K H y v → NeIs K n H u v (decide (x = y))
  keep : ∀ {K : PySem.W.Frag} {H H' : Hp} {x : α} {v : V}, TSame H H' → rp K H x v → rp K H' x v
def cInt : Cod Int where
  n := 0
  rp _ _ i v := v = .int i
  inj _ _ h1 h2 := by
    rw [h1] at h2
    exact V.int.inj h2
  eq h1 h2 := by
    intro P w A s u v _ _ _ r1 r2
    subst h1 h2
    obtain ⟨t, rfl⟩ := r1
    obtain ⟨t', rfl⟩ := r2
    rw [← Bool.beq_eq_decide_eq]
    exact SeqAt.EqAt.int_int _ t _ t'
  rc h1 h2 := by
    intro P w A s u v _ _ _ r1 r2
    subst h1 h2
    obtain ⟨t, rfl⟩ := r1
    obtain ⟨t', rfl⟩ := r2
    rw [← Bool.beq_eq_decide_eq]
    exact SeqAt.RcAt.int_int _ t _ t'
  ne h1 h2 := by
    intro P w A s u v _ _ _ r1 r2
    subst h1 h2
    obtain ⟨t, rfl⟩ := r1
    obtain ⟨t', rfl⟩ := r2
    rw [← Bool.beq_eq_decide_eq]
    exact SeqAt.RcNeAt.int_int _ t _ t'
  keep _ h := h
theorem str_beq_dec (x y : Str) : decide (x = y) = (x == y) := by
  rw [Bool.eq_iff_iff]
  simp
def cStr : Cod Str where
  n := 0
  rp _ _ i v := v = .str i
  inj _ _ h1 h2 := by
    rw [h1] at h2
    exact V.str.inj h2
  eq h1 h2 := by
    intro P w A s u v _ _ _ r1 r2
    subst h1 h2
    obtain ⟨t, rfl⟩ := r1
    obtain ⟨t', rfl⟩ := r2
    rw [str_beq_dec]
    exact SeqAt.EqAt.str_str _ t _ t'
  rc h1 h2 := by
    intro P w A s u v _ _ _ r1 r2
    subst h1 h2
    obtain ⟨t, rfl⟩ := r1
    obtain ⟨t', rfl⟩ := r2
    rw [str_beq_dec]
    exact SeqAt.RcAt.str_str _ t _ t'
  ne h1 h2 := by
    intro P w A s u v _ _ _ r1 r2
    subst h1 h2
    obtain ⟨t, rfl⟩ := r1
    obtain ⟨t', rfl⟩ := r2
    rw [str_beq_dec]
    exact SeqAt.RcNeAt.str_str _ t _ t'
  keep _ h := h
section
variable {α β γ : Type} [DecidableEq α] [DecidableEq β] [DecidableEq γ]
def rT2 (c : Cod α) (d : Cod β) (K : PySem.W.Frag) (H : Hp) (x : α × β) (v : V) : Prop := ∃ a u w, v = .ref a ∧ SqU K H a [u, w] ∧ c.rp K H x.1 u ∧ d.rp K H x.2 w
theorem rT2_inj {c : Cod α} {d : Cod β} {P : Program} {w : World} {K : PySem.W.Frag} {H : Hp} {h : Heap} {x y : α × β} {v : V} (hok : HOk P w H h) (kin : K.In h) (h1 : rT2 c d K H x v) (h2 : rT2 c d K H y v) : x = y := by
  obtain ⟨a, u, t, rfl, ha, hu, ht⟩ := h1
  obtain ⟨b, u', t', e, hb, hu', ht'⟩ := h2
  cases e
  have z := sqT_inj hok kin ha.sq hb.sq
  cases z
  exact Prod.ext (c.inj hok kin hu hu') (d.inj hok kin ht ht')
theorem rT2_rc {c : Cod α} {d : Cod β} {K : PySem.W.Frag} {H : Hp} {x y : α × β} {u v : V} (h1 : rT2 c d K H x u) (h2 : rT2 c d K H y v) :
    RcIs K (max c.n d.n + 1) H u v (decide (x = y)) ∧ NeIs K (max c.n d.n + 1) H u v (decide (x = y)) := by
  obtain ⟨a, u, t, rfl, ha, hu, ht⟩ := h1
  obtain ⟨b, u', t', rfl, hb, hu', ht'⟩ := h2
  have T := tupRc (n := max c.n d.n) (e := fun j => if j = 0 then decide (x.1 = y.1) else decide (x.2 = y.2)) ha.sq hb.sq rfl (fun j p q e1 e2 => by
    match j, e1, e2 with
    | 0, e1, e2 => cases e1; cases e2; exact (c.eq hu hu').mono (Nat.le_max_left _ _)
    | 1, e1, e2 => cases e1; cases e2; exact (d.eq ht ht').mono (Nat.le_max_right _ _))
  have e : ((List.range ([u, t] : List V).length).all fun j => if j = 0 then decide (x.1 = y.1) else decide (x.2 = y.2)) = decide (x = y) := by
    show (decide (x.1 = y.1) && (decide (x.2 = y.2) && true)) = decide (x = y)
    rw [Bool.and_true, ← Bool.decide_and]
    exact decide_eq_decide.mpr (Prod.ext_iff (x := x) (y := y)).symm
  rw [e] at T
  exact T
def cT2 (c : Cod α) (d : Cod β) : Cod (α × β) where
  n := max c.n d.n + 1
  rp := rT2 c d
  inj := rT2_inj
  rc h1 h2 := (rT2_rc h1 h2).1
  ne h1 h2 := (rT2_rc h1 h2).2
  eq {K H x y u v} h1 h2 := by
    have r := (rT2_rc h1 h2).1
    have i := fun P w h hok kin => rT2_inj (c := c) (d := d) (P := P) (w := w) (K := K) (H := H) (h := h) (x := x) (y := y) (v := v) hok kin
    obtain ⟨a, _, _, rfl, _⟩ := id h1
    obtain ⟨b, _, _, rfl, _⟩ := id h2
    refine eqIs_ref r fun P w h hok kin e => ?_
    subst e
    exact decide_eq_true (i P w h hok kin h1 h2)
  keep e h := let ⟨a, u, w, h1, h2, h3, h4⟩ := h; ⟨a, u, w, h1, h2.keep e, c.keep e h3, d.keep e h4⟩
end
section
variable {α : Type} [DecidableEq α] {K : PySem.W.Frag} {H : Hp}
theorem _root_.PySem.Paired.get {β γ : Type} {R : β → γ → Prop} : ∀ {xs : List β} {us : List γ}, Paired R xs us → ∀ {j : Nat} {u : γ}, us[j]? = some u → ∃ x, xs[j]? = some x ∧ R x u
  | _, _, .nil, j, u, e => by simp at e
  | _, _, .cons r t, 0, u, e => by simp at e; subst e; exact ⟨_, rfl, r⟩
  | _, _, .cons r t, j + 1, u, e => PySem.Paired.get t (j := j) (by simpa using e)
theorem _root_.PySem.Paired.len {β γ : Type} {R : β → γ → Prop} : ∀ {xs : List β} {us : List γ}, Paired R xs us → xs.length = us.length
  | _, _, .nil => rfl
  | _, _, .cons r t => by simp [PySem.Paired.len t]
theorem _root_.PySem.Paired.app {β γ : Type} {R : β → γ → Prop} : ∀ {xs ys : List β} {us vs : List γ}, Paired R xs us → Paired R ys vs → Paired R (xs ++ ys) (us ++ vs)
  | _, _, _, _, .nil, s => s
  | _, _, _, _, .cons r t, s => .cons r (PySem.Paired.app t s)
theorem range_all_eq {xs ys : List α} {n : Nat} (h1 : xs.length = n) (h2 : ys.length = n) : ((List.range n).all fun j => decide (xs[j]? = ys[j]?)) = decide (xs = ys) := by
  rw [Bool.eq_iff_iff, List.all_eq_true, decide_eq_true_eq]
  constructor
  · intro h
    apply List.ext_getElem?
    intro i
    by_cases hi : i < n
    · exact of_decide_eq_true (h i (List.mem_range.mpr hi))
    · rw [List.getElem?_eq_none (by omega), List.getElem?_eq_none (by omega)]
  · intro h i _
    rw [h]
    exact decide_eq_true rfl
theorem listRc {c : Cod α} {a b : Addr} {us vs : List V} {xs ys : List α} (ha : SqL K H a us) (hb : SqL K H b vs) (px : Paired (c.rp K H) xs us) (py : Paired (c.rp K H) ys vs) :
    RcIs K (c.n + 1) H (.ref a) (.ref b) (decide (xs = ys)) ∧ NeIs K (c.n + 1) H (.ref a) (.ref b) (decide (xs = ys)) := by
  have main : ∀ (P : Program) (w : World) (A : Around) (s : Shared) (u v : Value), A.units + (c.n + 1) < cLine → HOk P w H s.heap → K.In s.heap → RelV (.ref a) u → RelV (.ref b) v →
      SeqAt.RcAt A s u v (decide (xs = ys)) ∧ SeqAt.RcNeAt A s u v (!decide (xs = ys)) := by
    intro P w A s u v hA hok kin r1 r2
    cases r1
    cases r2
    obtain ⟨i1, v1, p1, _⟩ := sqL_raw hok kin ha
    obtain ⟨i2, v2, p2, _⟩ := sqL_raw hok kin hb
    have l1 := v1.length
    have l2 := v2.length
    have m1 := px.len
    have m2 := py.len
    by_cases hl : i1.length = i2.length
    · have items : ∀ j (h1 : j < i1.toArray.size) (h2 : j < i2.toArray.size), SeqAt.EqAt A.in1 s i1.toArray[j] i2.toArray[j] (decide (xs[j]? = ys[j]?)) := fun j h1 h2 => by
        have h1' : j < i1.length := by simpa using h1
        have h2' : j < i2.length := by simpa using h2
        have e1 : us[j]? = some us[j] := List.getElem?_eq_getElem (by omega)
        have e2 : vs[j]? = some vs[j] := List.getElem?_eq_getElem (by omega)
        obtain ⟨u, eu, ru⟩ := v1.get e1
        obtain ⟨v, ev, rv⟩ := v2.get e2
        obtain ⟨x, ex, rx⟩ := px.get e1
        obtain ⟨y, ey, ry⟩ := py.get e2
        have q := c.eq rx ry P w A.in1 s u v (by show A.units + 1 + c.n < cLine; omega) hok kin ru rv
        have z1 : i1.toArray[j] = u := by
          rw [List.getElem?_eq_getElem h1'] at eu
          simpa using Option.some.inj eu
        have z2 : i2.toArray[j] = v := by
          rw [List.getElem?_eq_getElem h2'] at ev
          simpa using Option.some.inj ev
        rw [z1, z2, ex, ey]
        have e : decide ((some x : Option α) = some y) = decide (x = y) := decide_eq_decide.mpr ⟨fun z => Option.some.inj z, fun z => by rw [z]⟩
        rw [e]
        exact q
      have ez : (List.range i1.toArray.size).all (fun j => decide (xs[j]? = ys[j]?)) = decide (xs = ys) := range_all_eq (by rw [List.size_toArray]; omega) (by rw [List.size_toArray]; omega)
      constructor
      · have q := SeqAt.RcAt.lists (A := A) (s := s) p1.isList p2.isList (by simpa using hl) (by omega) items
        rw [ez] at q
        exact q
      · have q := SeqAt.RcNeAt.lists (A := A) (s := s) p1.isList p2.isList (by simpa using hl) (by omega) items
        rw [ez] at q
        exact q
    · have hsz : (i1.toArray.size != i2.toArray.size) = true := by simpa using hl
      have e : decide (xs = ys) = false := decide_eq_false fun z => hl (by rw [← l1, ← l2, ← m1, ← m2, z])
      rw [e]
      exact ⟨SeqAt.RcAt.lists_lengths p1.isList p2.isList hsz (by omega), SeqAt.RcNeAt.lists_lengths p1.isList p2.isList hsz (by omega)⟩
  exact ⟨fun P w A s u v h1 h2 h3 h4 h5 => (main P w A s u v h1 h2 h3 h4 h5).1, fun P w A s u v h1 h2 h3 h4 h5 => (main P w A s u v h1 h2 h3 h4 h5).2⟩
end
section
variable {X : Cx} {α : Type} [DecidableEq α]
theorem hun {c : Nat} {k : Nat} {A : Around} (hr : Room k A) (h : c ≤ 60 := by decide) : A.units + c + 1 < cLine := by
  have := hr.units
  omega
theorem op_eqC (c : Cod α) (hu : X.A.units + c.n + 1 < cLine) : OpR X (compareOp .Eq) (fun x y H Q => ∃ a b, c.rp X.K H a x ∧ c.rp X.K H b y ∧ Q (.bl (decide (a = b))) H) := by
  intro pins s σ H x y v u Q I rx ry h
  obtain ⟨a, b, ha, hb, q⟩ := h
  exact c.rc ha hb X.prog X.w X.A s v u (by omega) I.hok I.kIn rx ry X.prog X.w X.xe _ ⟨.bl _, H, I, rfl, q⟩
theorem op_neC (c : Cod α) (hu : X.A.units + c.n + 1 < cLine) : OpR X (compareOp .NotEq) (fun x y H Q => ∃ a b, c.rp X.K H a x ∧ c.rp X.K H b y ∧ Q (.bl (!decide (a = b))) H) := by
  intro pins s σ H x y v u Q I rx ry h
  obtain ⟨a, b, ha, hb, q⟩ := h
  exact c.ne ha hb X.prog X.w X.A s v u (by omega) I.hok I.kIn rx ry X.prog X.w X.xe _ ⟨.bl _, H, I, rfl, q⟩
def LsOf (c : Cod α) (K : PySem.W.Frag) (H : Hp) (xs : List α) (v : V) : Prop := ∃ a us, v = .ref a ∧ SqL K H a us ∧ Paired (c.rp K H) xs us
theorem op_neL (c : Cod α) (hu : X.A.units + c.n + 1 < cLine) : OpR X (compareOp .NotEq) (fun x y H Q => ∃ xs ys, LsOf c X.K H xs x ∧ LsOf c X.K H ys y ∧ Q (.bl (!decide (xs = ys))) H) := by
  intro pins s σ H x y v u Q I rx ry h
  obtain ⟨xs, ys, ⟨a, us, rfl, ha, px⟩, ⟨b, vs, rfl, hb, py⟩, q⟩ := h
  exact (listRc ha hb px py).2 X.prog X.w X.A s v u (by omega) I.hok I.kIn rx ry X.prog X.w X.xe _ ⟨.bl _, H, I, rfl, q⟩
noncomputable def eqR (c : Cod α) (K : PySem.W.Frag) (H : Hp) (a : α) (u : Value) : Bool := @decide (∃ v, RelV v u ∧ c.rp K H a v) (Classical.propDecidable _)
theorem eqR_of {c : Cod α} {P : Program} {w : World} {K : PySem.W.Frag} {H : Hp} {h : Heap} {a z : α} {v : V} {u : Value} (hok : HOk P w H h) (kin : K.In h) (r : RelV v u) (q : c.rp K H z v) : eqR c K H a u = decide (z = a) := by
  unfold eqR
  by_cases e : z = a
  · subst e
    rw [decide_eq_true (show z = z from rfl)]
    exact @decide_eq_true _ (Classical.propDecidable _) ⟨v, r, q⟩
  · rw [decide_eq_false e]
    refine @decide_eq_false _ (Classical.propDecidable _) fun ⟨v', r', q'⟩ => e ?_
    have := r.inj r'
    subst this
    exact c.inj hok kin q q'
theorem any_eqR {c : Cod α} {P : Program} {w : World} {K : PySem.W.Frag} {H : Hp} {h : Heap} {a : α} (hok : HOk P w H h) (kin : K.In h) : ∀ {xs : List α} {us : List V} {its : List Value}, Paired (c.rp K H) xs us → Vals us its → its.any (eqR c K H a) = decide (a ∈ xs)
  | _, _, _, .nil, .nil => by simp
  | x :: xs, _, _, .cons p t, .cons r s => by
    rw [List.any_cons, eqR_of hok kin r p, any_eqR hok kin t s, Bool.eq_iff_iff]
    simp only [Bool.or_eq_true, decide_eq_true_eq, List.mem_cons]
    exact ⟨fun z => z.elim (fun e => .inl e.symm) .inr, fun z => z.elim (fun e => .inl e.symm) .inr⟩
theorem mem_eqR {c : Cod α} {P : Program} {w : World} {A : Around} {s : Shared} {K : PySem.W.Frag} {H : Hp} {a : α} {x : V} {v : Value} (hok : HOk P w H s.heap) (kin : K.In s.heap) (hA : A.units + c.n < cLine) (rx : RelV x v) (qx : c.rp K H a x) :
    ∀ {xs : List α} {us : List V} {its : List Value}, Paired (c.rp K H) xs us → Vals us its → ∀ u ∈ its, SeqAt.EqAt A s u v (eqR c K H a u)
  | _, _, _, .nil, .nil => fun u hu => by cases hu
  | _, _, _, .cons p t, .cons r q => fun u' hu => by
    rcases List.mem_cons.mp hu with rfl | hu
    · rw [eqR_of hok kin r p]
      exact c.eq p qx P w A s _ v hA hok kin r rx
    · exact mem_eqR hok kin hA rx qx t q u' hu
def rNinC (c : Cod α) (K : PySem.W.Frag) : R2 := fun x y H Q => ∃ a p us xs, c.rp K H a x ∧ y = .ref p ∧ (SqL K H p us ∨ SqT K H p us) ∧ Paired (c.rp K H) xs us ∧ Q (.bl (!decide (a ∈ xs))) H
theorem op_notinC (c : Cod α) (hu : X.A.units + c.n + 1 < cLine) : OpR X (compareOp .NotIn) (rNinC c X.K) := by
  intro pins s σ H x y v u Q I rx ry h
  obtain ⟨a, p, us, xs, ha, rfl, hq, px, q⟩ := h
  cases ry
  rcases hq with hq | hq
  · obtain ⟨its, r, pl, hz⟩ := I.list hq
    refine SeqAt.notIn_listAt (eqR c X.K H a) pl.isList (fun w hw => mem_eqR I.hok I.kIn (by show X.A.units + 1 + c.n < cLine; omega) rx ha px r w (by simpa using hw)) ⟨.bl _, H, I, rfl, ?_⟩
    rw [show its.toArray.any (eqR c X.K H a) = its.any (eqR c X.K H a) by simp, any_eqR I.hok I.kIn px r]
    exact q
  · obtain ⟨its, r, pl, hz⟩ := I.tuple hq
    refine SeqAt.notIn_tupleAt (eqR c X.K H a) pl (fun w hw => mem_eqR I.hok I.kIn (by show X.A.units + 1 + c.n < cLine; omega) rx ha px r w (by simpa using hw)) ⟨.bl _, H, I, rfl, ?_⟩
    rw [show its.toArray.any (eqR c X.K H a) = its.any (eqR c X.K H a) by simp, any_eqR I.hok I.kIn px r]
    exact q
end
end L2
namespace L2
open PySem PySem.Spec PyProof.Rows
section
variable {prog : Program} {w : World} {A : Around} {R : Result → Shared → Prop} {s : Shared}
end
section
variable {X : Cx} {N' : List Str} {scope : Scope} {mm : Nat} {fv : List Nat}
end
end L2
namespace L2
open PySem PySem.Spec PyProof.Rows
section
variable {X : Cx}
def datL : KTD.Dat → Value → Bool
  | .flat d, v => KTD.flatLooks d v
  | _, _ => false
theorem datL_at {h : Heap} : ∀ (d : KTD.Dat) (v : Value), datL d v = true → d.At h v
  | .flat d, v, e => KTD.flat_of_looks (d := d) e
  | .float _, _, e => by cases e
  | .nums _, _, e => by cases e
  | .words _, _, e => by cases e
  | .tup _, _, e => by cases e
  | .tab _, _, e => by cases e
def TabK (K : PySem.W.Frag) (a : Addr) (D : List (Str × KTD.Dat)) : Prop := KTD.tabLook datL (fun b => K.lookup b) a D = true
theorem TabK.at {K : PySem.W.Frag} {a : Addr} {D : List (Str × KTD.Dat)} {h : Heap} (t : TabK K a D) (kin : K.In h) : KTD.TextTab h a D := KTD.tab_of_look datL_at (fun a o e => kin a o e) t
theorem each_at {h₀ : Heap} {k : Str} {Pr : Value → Prop} : ∀ {D : List (Str × KTD.Dat)} {d : KTD.Dat}, KTD.datumAt k D = some d → KTD.Opened h₀ Pr d → KTD.EachL h₀ k Pr D
  | [], _, e, _ => by cases e
  | (x, d') :: D, d, e, o => by
    have e' : (if decide (k = x) = true then some d' else KTD.datumAt k D) = some d := e
    by_cases hx : k = x
    · rw [if_pos (decide_eq_true hx)] at e'
      cases e'
      exact KTD.eachL_hit hx o
    · rw [if_neg (by simp [hx])] at e'
      exact KTD.eachL_miss hx (each_at e' o)
end
section
variable {X : Cx} {α : Type} [DecidableEq α]
end
structure GF (P : Program) (w : World) (K : PySem.W.Frag) (mg : Str → Option Value) (base : Heap) (CX : CXT) (k : Nat) (x : Str) (ps : List Str) (sp : Sp) where
  f : Addr
  fd : FuncData
  ok : FnOk P w K mg base CX k f fd ps sp
  bd : Binds K fd ps []
  kp : PySem.W.keepIn K (.ref f) = true
  mgx : mg x = some (.ref f)
structure GM (P : Program) (w : World) (K : PySem.W.Frag) (mg : Str → Option Value) (base : Heap) (CX : CXT) (k : Nat) (C : Addr) (m : Str) (ps : List Str) (sp : Sp) where
  f : Addr
  fd : FuncData
  ok : FnOk P w K mg base CX k f fd ps sp
  bd : Binds K fd ps []
  me : Meth K C m f
section
variable {X : Cx} {CX : CXT} {j k : Nat} {x m : Str} {ps : List Str} {sp : Sp} {E : XK} {p pos apos : Pos} {e o : Expr} {es : List Expr} {t : TA} {ta : TE} {C : Addr}
theorem pc (G : GF X.prog X.w X.K X.mg X.base CX j x ps sp) (hr : Room k X.A) (ha : PA X (e :: es) t) (hx : Passes CX X E := by exact pass0) (hk : j ≤ k := by decide) (hg : Gl X x := by rfl)
    (hdb : (x == ("__debug__" : Str)) = false := by decide) (he : starEach (e :: es) X.env = (false, eval e X.env) :: starEach es X.env := by rfl) (hpl : (backTo pos (starEach es X.env)).any (·.1) = false := by rfl) :
    PE X (.Call (.Name x p) (e :: es) [] pos) (tCall sp [] E t) := pe_call G.ok (hr.mono hk) hg G.mgx G.kp G.bd .nil hx ha hdb he hpl
theorem pm0 {pl : Sem Bool} (G : GM X.prog X.w X.K X.mg X.base CX j C m ps sp) (ho : PE X o ta) (cl : Cls X.K C) (hr : Room k X.A) (hx : Passes CX X E := by exact pass0) (hk : j ≤ k := by decide)
    (ht : eval (.Call (.Attribute o m apos) [] [] pos) X.env = (do
      let ov ← eval o X.env
      standAt apos.atName
      let (f, first) ← holding [ov] (getMethod ov m pl)
      callWith pos f first (backTo pos (starEach [] X.env)) (backToKw pos (keywordEach [] X.env))) := by rfl) :
    PE X (.Call (.Attribute o m apos) [] [] pos) (tMeth C m sp [] E ta tNil) := pe_meth0 ho cl G.me G.ok (hr.mono hk) G.bd .nil hx ht
end
end L2
set_option maxHeartbeats 1000000
namespace L2
open PySem PySem.Spec PyProof.Rows
section
variable {K : PySem.W.Frag} {a : Addr} {xs : List V} {tt : TT} {te : TE} {bl : St} {Fin : List V → Hp → Prop} {H : Hp}
theorem lc_list (Pv : Nat → List V → Hp → Prop) (h0 : Pv 0 [] H) (hn : xs.length ≤ sizeLine) (hl : ∀ i ys H, i ≤ xs.length → Pv i ys H → SqL K H a xs)
    (hs : ∀ i x ys H, xs[i]? = some x → Pv i ys H → tt (some x :: bl) H fun c H2 => if c = true then te (some x :: bl) H2 fun y H3 => Pv (i + 1) (ys ++ [y]) H3 else Pv (i + 1) ys H2)
    (hd : ∀ ys H, Pv xs.length ys H → Fin ys H) :
    ∃ (W : Nat → List V → Hp → Prop) (n : Nat), W 0 [] H ∧ n ≤ sizeLine ∧ ∀ i ys H, W i ys H → ((Itl K a).stop i H ∧ Fin ys H) ∨
      ((Itl K a).go i H ∧ i < n ∧ ∀ x H', (Itl K a).yld i H x H' → tt (some x :: bl) H' fun c H2 => if c = true then te (some x :: bl) H2 fun y H3 => W (i + 1) (ys ++ [y]) H3 else W (i + 1) ys H2) := by
  refine ⟨fun i ys H => i ≤ xs.length ∧ Pv i ys H, xs.length, ⟨Nat.zero_le _, h0⟩, hn, ?_⟩
  rintro i ys H ⟨hi, p⟩
  have q := hl i ys H hi p
  by_cases hlt : i < xs.length
  · refine .inr ⟨⟨xs, xs[i], q, by simp [hlt]⟩, hlt, fun x H' y => ?_⟩
    obtain ⟨e, y⟩ := y
    subst e
    have z := hs i x ys _ (y xs q) p
    have e1 : (fun (c : Bool) (H2 : Hp) => if c = true then te (some x :: bl) H2 fun y H3 => i + 1 ≤ xs.length ∧ Pv (i + 1) (ys ++ [y]) H3 else i + 1 ≤ xs.length ∧ Pv (i + 1) ys H2) = fun c H2 => if c = true then te (some x :: bl) H2 fun y H3 => Pv (i + 1) (ys ++ [y]) H3 else Pv (i + 1) ys H2 := by
      have e2 : (i + 1 ≤ xs.length) = True := eq_true hlt
      funext c H2
      simp only [e2, true_and]
    show tt _ _ _
    rw [e1]
    exact z
  · have e : i = xs.length := by omega
    subst e
    exact .inl ⟨⟨xs, q, Nat.le_refl _⟩, hd ys H p⟩
theorem tAllT {σ : St} {A B : Hp → Prop} (h : A H) : tAll σ H (fun c H2 => if c = true then A H2 else B H2) := by
  show if true = true then A H else B H
  exact @iteT (A H) (B H) h
theorem lc_tup (Pv : Nat → List V → Hp → Prop) (h0 : Pv 0 [] H) (hn : xs.length ≤ sizeLine) (hl : ∀ i ys H, i ≤ xs.length → Pv i ys H → SqT K H a xs)
    (hs : ∀ i x ys H, xs[i]? = some x → Pv i ys H → tt (some x :: bl) H fun c H2 => if c = true then te (some x :: bl) H2 fun y H3 => Pv (i + 1) (ys ++ [y]) H3 else Pv (i + 1) ys H2)
    (hd : ∀ ys H, Pv xs.length ys H → Fin ys H) :
    ∃ (W : Nat → List V → Hp → Prop) (n : Nat), W 0 [] H ∧ n ≤ sizeLine ∧ ∀ i ys H, W i ys H → ((Itt K a).stop i H ∧ Fin ys H) ∨
      ((Itt K a).go i H ∧ i < n ∧ ∀ x H', (Itt K a).yld i H x H' → tt (some x :: bl) H' fun c H2 => if c = true then te (some x :: bl) H2 fun y H3 => W (i + 1) (ys ++ [y]) H3 else W (i + 1) ys H2) := by
  refine ⟨fun i ys H => i ≤ xs.length ∧ Pv i ys H, xs.length, ⟨Nat.zero_le _, h0⟩, hn, ?_⟩
  rintro i ys H ⟨hi, p⟩
  have q := hl i ys H hi p
  by_cases hlt : i < xs.length
  · refine .inr ⟨⟨xs, xs[i], q, by simp [hlt]⟩, hlt, fun x H' y => ?_⟩
    obtain ⟨e, y⟩ := y
    subst e
    have z := hs i x ys _ (y xs q) p
    have e1 : (fun (c : Bool) (H2 : Hp) => if c = true then te (some x :: bl) H2 fun y H3 => i + 1 ≤ xs.length ∧ Pv (i + 1) (ys ++ [y]) H3 else i + 1 ≤ xs.length ∧ Pv (i + 1) ys H2) = fun c H2 => if c = true then te (some x :: bl) H2 fun y H3 => Pv (i + 1) (ys ++ [y]) H3 else Pv (i + 1) ys H2 := by
      have e2 : (i + 1 ≤ xs.length) = True := eq_true hlt
      funext c H2
      simp only [e2, true_and]
    show tt _ _ _
    rw [e1]
    exact z
  · have e : i = xs.length := by omega
    subst e
    exact .inl ⟨⟨xs, q, Nat.le_refl _⟩, hd ys H p⟩
theorem lc_range {n : Nat} (Pv : Nat → List V → Hp → Prop) (h0 : Pv 0 [] H) (hn : n ≤ sizeLine)
    (hs : ∀ (i : Nat) ys H, i < n → Pv i ys H → tt (some (.int i) :: bl) H fun c H2 => if c = true then te (some (.int i) :: bl) H2 fun y H3 => Pv (i + 1) (ys ++ [y]) H3 else Pv (i + 1) ys H2)
    (hd : ∀ ys H, Pv n ys H → Fin ys H) :
    ∃ (W : Nat → List V → Hp → Prop) (m : Nat), W 0 [] H ∧ m ≤ sizeLine ∧ ∀ i ys H, W i ys H → ((Itr 0 n).stop i H ∧ Fin ys H) ∨
      ((Itr 0 n).go i H ∧ i < m ∧ ∀ x H', (Itr 0 n).yld i H x H' → tt (some x :: bl) H' fun c H2 => if c = true then te (some x :: bl) H2 fun y H3 => W (i + 1) (ys ++ [y]) H3 else W (i + 1) ys H2) := by
  refine ⟨fun i ys H => i ≤ n ∧ Pv i ys H, n, ⟨Nat.zero_le _, h0⟩, hn, ?_⟩
  rintro i ys H ⟨hi, p⟩
  by_cases hlt : i < n
  · refine .inr ⟨hlt, hlt, fun x H' y => ?_⟩
    obtain ⟨e, y⟩ := y
    subst e
    rw [Int.zero_add] at y
    subst y
    have z := hs i ys _ hlt p
    have e1 : (fun (c : Bool) (H2 : Hp) => if c = true then te (some (.int i) :: bl) H2 fun y H3 => i + 1 ≤ n ∧ Pv (i + 1) (ys ++ [y]) H3 else i + 1 ≤ n ∧ Pv (i + 1) ys H2) = fun c H2 => if c = true then te (some (.int i) :: bl) H2 fun y H3 => Pv (i + 1) (ys ++ [y]) H3 else Pv (i + 1) ys H2 := by
      have e2 : (i + 1 ≤ n) = True := eq_true hlt
      funext c H2
      simp only [e2, true_and]
    show tt _ _ _
    rw [e1]
    exact z
  · have e : i = n := by omega
    subst e
    exact .inl ⟨Nat.le_refl _, hd ys H p⟩
end
end L2
namespace Lo
open PySem L2
inductive Kd where
  | read | mean | change
  deriving DecidableEq
def kdS : Kd → Str
  | .read => "read"
  | .mean => "mean"
  | .change => "change"
abbrev Lk := Kd × Int × Int
theorem same_new {H : Hp} {p : Addr} {o : HO} (h : H p = none) : Same H (upd H p o) := fun b u e => by
  rw [upd_ne (ne_of_none e h)]
  exact e
def Kp (p : Addr) (H H' : Hp) : Prop := ∀ b o, b ≠ p → H b = some o → H' b = some o
theorem Kp.of {p : Addr} {H H' : Hp} (h : Same H H') : Kp p H H' := fun b o _ e => h b o e
theorem Kp.trans {p : Addr} {H H1 H2 : Hp} (a : Kp p H H1) (b : Kp p H1 H2) : Kp p H H2 := fun c o n e => b c o n (a c o n e)
theorem kp_upd {p : Addr} {H : Hp} {o : HO} : Kp p H (upd H p o) := fun b u n e => by
  rw [upd_ne n]
  exact e
theorem fl : ¬ (("first" : Str) = "last") := by decide +kernel
def lf (f l : Int) : List (Str × V) := putF "last" (.int l) (putF "first" (.int f) [])
theorem lf_first (f l : Int) : (lf f l).lookup ("first" : Str) = some (.int f) := by
  unfold lf
  rw [lookup_putF, if_neg fl, lookup_putF, if_pos rfl]
theorem lf_last (f l : Int) : (lf f l).lookup ("last" : Str) = some (.int l) := by
  unfold lf
  rw [lookup_putF, if_pos rfl]
theorem lf_no (f l : Int) {m : Str} (h1 : ¬ m = "last") (h2 : ¬ m = "first") : (lf f l).lookup m = none := by
  unfold lf
  rw [lookup_putF, if_neg h1, lookup_putF, if_neg h2]
  rfl
def LkO (C : Kd → Addr) (H : Hp) (k : Lk) (v : V) : Prop := ∃ a dx, v = .ref a ∧ H a = some (.ins (C k.1) dx (lf k.2.1 k.2.2))
end Lo
set_option maxHeartbeats 1000000
namespace Lo
open PySem L2
theorem gint {X : Cx} {x : Str} {i : Int} {pos : Pos} (hm : ∃ t, X.mg x = some (.int i t)) (hg : Gl X x) (hd : (x == ("__debug__" : Str)) = false := by decide) : PE X (.Name x pos) (tC (.int i)) := by
  obtain ⟨t, e⟩ := hm
  exact pe_glob hg e ⟨t, rfl⟩ hd
structure TxB (mg : Str → Option Value) : Prop where
  isi : mg "isinstance" = none
  int : mg "int" = none
  bool : mg "bool" = none
  str : mg "str" = none
  len : mg "len" = none
  range : mg "range" = none
  tuple : mg "tuple" = none
  list : mg "list" = none
  any : mg "any" = none
  all : mg "all" = none
  max : mg "max" = none
  sorted : mg "sorted" = none
structure TxK (K : PySem.W.Frag) (C : Kd → Addr) : Prop where
  cl : ∀ k, Cls K (C k)
  nF : ∀ k, NoAttr K (C k) "first"
  nL : ∀ k, NoAttr K (C k) "last"
theorem tab_mk {K : PySem.W.Frag} {a : Addr} {es : Array DictEntry} {n : Nat} {D : List (Str × PyProof.Rows.KTD.Dat)} (h : K.lookup a = some ⟨.type "dict", none, .dict es n, #[]⟩) (z : (a == sysModules) = false) (r : PyProof.Rows.KTD.rowsLook datL es.toList D = true) : TabK K a D := by
  unfold TabK PyProof.Rows.KTD.tabLook
  rw [z]
  show (true && (match K.lookup a with | some o => _ | none => false)) = true
  rw [h]
  simp [r]
def kdN : Kd → Str
  | .read => "Read"
  | .mean => "Mean"
  | .change => "Change"
def spKind (k : Kd) : Sp := fun vs H Q _ => ∃ v, vs = [v] ∧ Q (.str (kdS k)) H
def spLInit (C : Kd → Addr) : Sp := fun vs H Q _ => ∃ a dx k f l, vs = [.ref a, .int f, .int l] ∧ H a = some (.ins (C k) dx []) ∧ Q .non (upd (upd H a (.ins (C k) dx (putF "first" (.int f) []))) a (.ins (C k) dx (lf f l)))
def spTold (C : Kd → Addr) : Sp := fun vs H Q _ => ∃ v k, vs = [v] ∧ LkO C H k v ∧ ∀ a, H a = none → Q (.ref a) (upd H a (.tup [.str (kdS k.1), .int k.2.1, .int k.2.2]))
theorem mk_same {H : Hp} {x dx : Addr} {o1 o2 o3 o4 : HO} (nx : H x = none) (nd : H dx = none) : Same H (upd (upd (upd (upd H dx o1) x o2) x o3) x o4) := fun b o e => by
  have n1 : b ≠ x := ne_of_none e nx
  have n2 : b ≠ dx := ne_of_none e nd
  rw [upd_ne n1, upd_ne n1, upd_ne n1, upd_ne n2]
  exact e
section
variable (C : Kd → Addr) (CL : Addr) (K : PySem.W.Frag)
end
def cellAt (ns : List Int) (k : Nat) : Int := (ns[k]?).getD 0
def spCell (K : PySem.W.Frag) : Sp := fun vs H Q _ => ∃ a ns k, vs = [.ref a, .int (k : Nat)] ∧ SqL K H a ((ns : List Int).map V.int) ∧ Q (.int (cellAt ns k)) H
end Lo
namespace Lo
open PySem L2
end Lo
namespace Lo
open PySem L2
section
variable {K : PySem.W.Frag}
theorem kit_ii : PySem.W.kitOne K (.type "int") (.type "int") = some true := rfl
theorem kit_ib : PySem.W.kitOne K (.type "int") (.type "bool") = some false := by kernel_rfl
end
def spWhole : Sp := fun vs H Q _ => ∃ i, vs = [.int i] ∧ Q (.bl true) H
def spLaw (K : PySem.W.Frag) : Sp := fun vs H Q _ => ∃ a ns, vs = [.ref a] ∧ SqL K H a ((ns : List Int).map V.int) ∧ ns.length ≤ 63 ∧ ∀ H', Q (.bl true) H'
end Lo
namespace Lo
open PySem L2
theorem pss_weak {X : Cx} {st : List Stmt} {t : TS} (u : TS) (h : PSs X st t) (hw : ∀ D σ H, u D σ H → t D σ H) : PSs X st u := fun pins s σ H D I q => h pins s σ H D I (hw D σ H q)
end Lo
set_option maxHeartbeats 1000000
namespace Lo
open PySem L2
section
variable {K : PySem.W.Frag} {a : Addr} {tt : TT} {te : TE} {bl : St} {Fin : List V → Hp → Prop} {H : Hp}
end
end Lo
namespace Lo
open PySem L2
end Lo
namespace Lo
open PySem L2
theorem int_at {cs : List Int} {i : Nat} {x : V} (h : (cs.map V.int)[i]? = some x) : ∃ c, x = .int c := by
  rw [List.getElem?_map] at h
  cases e : cs[i]? with
  | none => rw [e] at h; cases h
  | some c => rw [e] at h; exact ⟨c, (Option.some.inj h).symm⟩
end Lo
set_option maxHeartbeats 1000000
namespace Lo
open PySem L2
section
variable {X : Cx}
end
end Lo
set_option maxHeartbeats 1000000
namespace Lo
open PySem L2
section
variable {C : Kd → Addr} {CL : Addr} {K : PySem.W.Frag} {H H' : Hp} {l pl pl' d : Addr} {ps ps' : List Pr} {own : List (Addr × List V)} {xs ys : List V}
end
end Lo
set_option maxHeartbeats 1000000
namespace Lo
open PySem L2
section
variable {X : Cx}
end
end Lo
set_option maxHeartbeats 1000000
namespace Lo
open PySem L2
end Lo
set_option maxHeartbeats 1000000
namespace Lo
open PySem L2
section
variable {C : Kd → Addr} {CL : Addr} {K : PySem.W.Frag} {H H' : Hp} {l pl : Addr} {ps : List Pr} {own : List (Addr × List V)}
end
end Lo
set_option maxHeartbeats 1000000
namespace L2
open PySem PySem.Spec PyProof.Rows
section
variable {κ : Type} [DecidableEq κ]
end
section
variable {P : Program} {w : World} {H : Hp} {h : Heap} {a : Addr}
end
section
variable {X : Cx} {pins : List (Addr × Obj)} {σ : St} {H : Hp} {s : Shared} {a : Addr} {y v : V} {u r : Value} {o : Option V} {A : Around} {E : Value → Shared → Prop}
end
section
variable {X : Cx} {pins : List (Addr × Obj)} {σ : St} {H : Hp} {s : Shared} {a : Addr} {kvs : List (Key × V)} {k : Key} {u : Value} {A : Around} {E : Value → Shared → Prop}
end
section
variable {X : Cx} {o i e value : Expr} {pos pos' tpos : Pos} {td ty tv : TE}
end
section
variable {X : Cx} {pos : Pos}
end
structure M1 (X : Cx) (o : Expr) (m : Str) (apos : Pos) (e : Expr) (cpos : Pos) : Prop where
  base : attributeBase o m X.env (eval o X.env) = eval o X.env
  few : ((backTo cpos (starEach [e] X.env)).all (fun x => !x.1) && (backToKw cpos (keywordEach [] X.env)).all (fun x => x.1.isSome)
    && decide (([e] : List Expr).length + ([] : List Keyword).length + (if ([] : List Keyword).isEmpty then 0 else 1) < 30)) = true
  line : (apos.endLine == cpos.line) = true
  trees : backTo cpos (starEach [e] X.env) = [(false, eval e X.env)]
section
variable {X : Cx} {pins : List (Addr × Obj)} {σ : St} {H : Hp} {s : Shared} {a : Addr} {y d : V} {u r : Value} {o : Option V} {A : Around} {E : Value → Shared → Prop}
end
section
variable {X : Cx} {o e f : Expr} {apos cpos : Pos} {td ty tx : TE}
end
end L2
set_option maxHeartbeats 1000000
namespace Lo
open PySem L2
section
variable {C : Kd → Addr} {CL : Addr} {K : PySem.W.Frag} {H H' : Hp}
variable {l0 pl0 q0 l1 pl1 q1 : Addr} {ps0 ps1 : List Pr} {us0 us1 : List V} {own : List (Addr × List V)}
end
section
variable {X : Cx}
end
end Lo
namespace Km
open PySem PySem.NumText PyProof.Rows
def isDig (c : Nat) : Bool := decide (48 ≤ c) && decide (c ≤ 57)
def okSign (c : Nat) : Bool := decide (32 ≤ c) && decide (c ≤ 126) && decide (c ≠ 37)
def digs (m : Nat) : List Nat := (Nat.toDigits 10 m).map Char.toNat
def numCs (n : Int) : List Nat := if n < 0 then 45 :: digs n.natAbs else digs n.natAbs
theorem digs_all (m : Nat) : AllDigits (digs m) := by
  intro c hc
  obtain ⟨ch, hch, e⟩ := List.mem_map.mp hc
  have r := digit_range (Nat.isDigit_of_mem_toDigits (by decide) (by decide) hch)
  rw [← e]
  exact r
theorem digs_ne (m : Nat) : digs m ≠ [] := by
  intro e
  have h := toDigits_len_ge 10 m
  rw [List.map_eq_nil_iff.mp e] at h
  exact absurd h (by decide)
theorem digs_val (m : Nat) : digitsVal (digs m) = m := PySem.W.KIN.val_back m
theorem digs_zero : digs 0 = [48] := rfl
theorem digs_head (m : Nat) (h : m ≠ 0) : ∀ c r, digs m = c :: r → c ≠ 48 := by
  induction m using Nat.strongRecOn with
  | _ m ih =>
    intro c r e
    by_cases hm : m < 10
    · unfold digs at e
      rw [Nat.toDigits_of_lt_base hm] at e
      have hc : (Nat.digitChar m).toNat = c := by simpa using (List.cons.inj e).1
      have key : ∀ d : Nat, d < 10 → d ≠ 0 → (Nat.digitChar d).toNat ≠ 48 := by decide
      rw [← hc]
      exact key m hm h
    · have t : Nat.toDigits 10 (m / 10) ++ Nat.toDigits 10 (m % 10) = Nat.toDigits 10 (10 * (m / 10) + m % 10) := Nat.toDigits_append_toDigits (by decide) (by omega) (Nat.mod_lt m (by decide))
      rw [Nat.div_add_mod] at t
      have e2 : digs m = digs (m / 10) ++ digs (m % 10) := by unfold digs; rw [← t, List.map_append]
      cases q : digs (m / 10) with
      | nil => exact absurd q (digs_ne _)
      | cons c' r' =>
        rw [e2, q] at e
        have : c' = c := (List.cons.inj e).1
        rw [← this]
        exact ih (m / 10) (by omega) (by omega) c' r' q
theorem digs_len {m k : Nat} (hk : 1 ≤ k) (h : m < 10 ^ k) : (digs m).length ≤ k := by
  induction k generalizing m with
  | zero => omega
  | succ k ih =>
    by_cases hm : m < 10
    · unfold digs
      rw [Nat.toDigits_of_lt_base hm]
      simp
    · have hk1 : 1 ≤ k := by
        cases k with
        | zero => exfalso; simp at h; omega
        | succ k => omega
      have t : Nat.toDigits 10 (m / 10) ++ Nat.toDigits 10 (m % 10) = Nat.toDigits 10 (10 * (m / 10) + m % 10) := Nat.toDigits_append_toDigits (by decide) (by omega) (Nat.mod_lt m (by decide))
      rw [Nat.div_add_mod] at t
      have e2 : digs m = digs (m / 10) ++ digs (m % 10) := by unfold digs; rw [← t, List.map_append]
      have e3 : digs (m % 10) = [(Nat.digitChar (m % 10)).toNat] := by unfold digs; rw [Nat.toDigits_of_lt_base (Nat.mod_lt m (by decide))]; rfl
      have h2 : m / 10 < 10 ^ k := by
        rw [Nat.pow_succ] at h
        exact Nat.div_lt_of_lt_mul (by rw [Nat.mul_comm]; exact h)
      have := ih hk1 h2
      rw [e2, e3, List.length_append]
      simpa using this
theorem str_num (n : Int) : (Str.ofString (toString n)).cps.toList = numCs n := by
  cases n with
  | ofNat m =>
    unfold numCs
    rw [if_neg (show ¬ Int.ofNat m < 0 from Int.not_lt.mpr (Int.natCast_nonneg m))]
    exact PySem.W.KIN.signs_num m
  | negSucc m =>
    unfold numCs
    rw [if_pos (by omega)]
    have e : toString (Int.negSucc m) = "-" ++ Nat.repr (m + 1) := rfl
    rw [e, signs_ofString, String.toList_append, List.map_append, Nat.toList_repr]
    rfl
end Km
namespace Km
open PySem PySem.NumText L2
end Km
namespace Km
open PySem PySem.NumText L2 PyProof.Rows
def joinC (c : Nat) : List (List Nat) → List Nat
  | [] => []
  | [x] => x
  | x :: y :: r => x ++ c :: joinC c (y :: r)
theorem join_one_cs (c : Nat) : ∀ ys : List Str, (Str.join ⟨#[c]⟩ ys).cps.toList = joinC c (ys.map fun y => y.cps.toList)
  | [] => rfl
  | [y] => rfl
  | y :: u :: ys => by
    have ih := join_one_cs c (u :: ys)
    rw [join_cons_cons]
    show ((y.cps ++ #[c]) ++ (Str.join ⟨#[c]⟩ (u :: ys)).cps).toList = _
    rw [Array.toList_append, Array.toList_append, ih]
    simp [joinC]
theorem cut_first {c : Nat} {a b a' b' : List Nat} (ha : c ∉ a) (ha' : c ∉ a') (e : a ++ c :: b = a' ++ c :: b') : a = a' ∧ b = b' := by
  induction a generalizing a' with
  | nil =>
    cases a' with
    | nil => exact ⟨rfl, (List.cons.inj e).2⟩
    | cons x a' => exact absurd (List.mem_cons.mpr (.inl (List.cons.inj e).1)) ha'
  | cons x a ih =>
    cases a' with
    | nil => exact absurd (List.mem_cons.mpr (.inl (List.cons.inj e).1.symm)) ha
    | cons y a' =>
      obtain ⟨e1, e2⟩ := List.cons.inj e
      obtain ⟨r1, r2⟩ := ih (fun h => ha (List.mem_cons_of_mem _ h)) (fun h => ha' (List.mem_cons_of_mem _ h)) e2
      exact ⟨by rw [e1, r1], r2⟩
theorem joinC_inj {c : Nat} : ∀ {xs ys : List (List Nat)}, xs ≠ [] → ys ≠ [] → (∀ x ∈ xs, c ∉ x) → (∀ y ∈ ys, c ∉ y) → joinC c xs = joinC c ys → xs = ys
  | [], _, h, _, _, _, _ => absurd rfl h
  | _ :: _, [], _, h, _, _, _ => absurd rfl h
  | [x], [y], _, _, _, _, e => by rw [show x = y from e]
  | [x], y :: u :: ys, _, _, hx, _, e => by
    have e' : x = y ++ c :: joinC c (u :: ys) := e
    exact absurd (by rw [e']; simp) (hx x List.mem_cons_self)
  | x :: u :: xs, [y], _, _, _, hy, e => by
    have e' : x ++ c :: joinC c (u :: xs) = y := e
    exact absurd (by rw [← e']; simp) (hy y List.mem_cons_self)
  | x :: u :: xs, y :: v :: ys, _, _, hx, hy, e => by
    have e' : x ++ c :: joinC c (u :: xs) = y ++ c :: joinC c (v :: ys) := e
    obtain ⟨e1, e2⟩ := cut_first (hx x List.mem_cons_self) (hy y List.mem_cons_self) e'
    rw [e1, joinC_inj (by simp) (by simp) (fun z hz => hx z (List.mem_cons_of_mem _ hz)) (fun z hz => hy z (List.mem_cons_of_mem _ hz)) e2]
theorem split_at {z : Str} {c : Nat} {ps : List (List Nat)} (ez : z.cps.toList = joinC c ps) (h0 : ps ≠ []) (hp : ∀ p ∈ ps, c ∉ p) : Txt.split z ⟨#[c]⟩ = ps.map fun p => (⟨p.toArray⟩ : Str) := by
  have e1 := join_one_cs c (Txt.split z ⟨#[c]⟩)
  rw [StrLaws.join_split, ez] at e1
  have n1 : (Txt.split z ⟨#[c]⟩).map (fun y => y.cps.toList) ≠ [] := by
    intro e
    have := split_pos z ⟨#[c]⟩
    rw [List.map_eq_nil_iff.mp e] at this
    exact absurd this (by decide)
  have e2 := joinC_inj h0 n1 hp (fun y hy => by
    obtain ⟨p, hp', rfl⟩ := List.mem_map.mp hy
    exact StrLaws.split_free z c p hp') e1
  rw [e2, List.map_map]
  have e3 : ((fun p : List Nat => (⟨p.toArray⟩ : Str)) ∘ fun y : Str => y.cps.toList) = id := by
    funext y
    obtain ⟨a⟩ := y
    simp
  rw [e3, List.map_id]
end Km
set_option maxHeartbeats 1000000
namespace St
open PySem L2 Lo Km PySem.NumText
inductive Wd where
  | take | mean | sum | give | add | plus | need
  deriving DecidableEq
def wS : Wd → Str
  | .take => "take" | .mean => "mean" | .sum => "sum" | .give => "give" | .add => "add" | .plus => "plus" | .need => "need"
def wN : Wd → Str
  | .take => "TakeStep" | .mean => "MeanStep" | .sum => "SumStep" | .give => "GiveStep" | .add => "AddStep" | .plus => "PlusStep" | .need => "NeedStep"
def inN (i : Int) : Prop := 0 ≤ i ∧ i < 10 ^ 40
def inV (i : Int) : Prop := i.natAbs < 10 ^ 40
theorem inN.v {i : Int} (h : inN i) : inV i := by
  unfold inN at h
  unfold inV
  omega
def Ar : Wd → List Int → Prop
  | .take, [h, c] => inN h ∧ inN c
  | .mean, [h, c] => inN h ∧ inN c
  | .give, [h, c] => inN h ∧ inN c
  | .sum, [h, a, b] => inN h ∧ inN a ∧ inN b ∧ a ≤ b
  | .add, [h, c, v] => inN h ∧ inN c ∧ inV v
  | .plus, [v] => inV v
  | .need, [v] => inV v
  | _, _ => False
theorem Ar.all {w : Wd} {ns : List Int} (h : Ar w ns) : ∀ i ∈ ns, inV i := by
  unfold Ar at h
  split at h
  · intro i hi; simp only [List.mem_cons, List.mem_nil_iff, or_false] at hi; rcases hi with rfl | rfl <;> first | exact h.1.v | exact h.2.v
  · intro i hi; simp only [List.mem_cons, List.mem_nil_iff, or_false] at hi; rcases hi with rfl | rfl <;> first | exact h.1.v | exact h.2.v
  · intro i hi; simp only [List.mem_cons, List.mem_nil_iff, or_false] at hi; rcases hi with rfl | rfl <;> first | exact h.1.v | exact h.2.v
  · intro i hi; simp only [List.mem_cons, List.mem_nil_iff, or_false] at hi; rcases hi with rfl | rfl | rfl <;> first | exact h.1.v | exact h.2.1.v | exact h.2.2.1.v
  · intro i hi; simp only [List.mem_cons, List.mem_nil_iff, or_false] at hi; rcases hi with rfl | rfl | rfl <;> first | exact h.1.v | exact h.2.1.v | exact h.2.2
  · intro i hi; simp only [List.mem_cons, List.mem_nil_iff, or_false] at hi; rcases hi with rfl; exact h
  · intro i hi; simp only [List.mem_cons, List.mem_nil_iff, or_false] at hi; rcases hi with rfl; exact h
  · exact h.elim
def iS (i : Int) : Str := Str.ofString (toString i)
theorem iS_len {i : Int} (h : inV i) : (iS i).length ≤ 41 := by
  have e : (iS i).length = (numCs i).length := by
    unfold iS
    rw [← str_num]
    simp [Str.length]
  rw [e]
  unfold numCs
  have := digs_len (k := 40) (by decide) h
  split
  · rw [List.length_cons]; omega
  · omega
theorem num_32 (i : Int) : 32 ∉ numCs i := by
  have hd : ∀ m, 32 ∉ digs m := fun m hm => by
    have := digs_all m
    have h := this 32 hm
    omega
  unfold numCs
  split
  · intro hm
    rcases List.mem_cons.mp hm with e | e
    · cases e
    · exact hd _ e
  · exact hd _
def txt (w : Wd) (ns : List Int) : Str := Str.join (Str.ofString " ") (wS w :: ns.map iS)
theorem wS_32 (w : Wd) : 32 ∉ (wS w).cps.toList := by cases w <;> decide +kernel
theorem wS_len (w : Wd) : (wS w).length ≤ 4 := by cases w <;> decide +kernel
theorem sep_eq : (Str.ofString " ") = ⟨#[32]⟩ := by decide +kernel
theorem split_txt (w : Wd) (ns : List Int) : Txt.split (txt w ns) ⟨#[32]⟩ = wS w :: ns.map iS := by
  have e := join_one_cs 32 (wS w :: ns.map iS)
  have e2 : (txt w ns).cps.toList = joinC 32 ((wS w :: ns.map iS).map fun y => y.cps.toList) := by
    unfold txt
    rw [sep_eq]
    exact e
  rw [split_at e2 (by simp) (fun p hp => ?_)]
  · rw [List.map_map]
    have e3 : ((fun p : List Nat => (⟨p.toArray⟩ : Str)) ∘ fun y : Str => y.cps.toList) = id := by
      funext y
      obtain ⟨a⟩ := y
      simp
    rw [e3, List.map_id]
  · obtain ⟨y, hy, rfl⟩ := List.mem_map.mp hp
    rcases List.mem_cons.mp hy with e | hy
    · rw [e]; exact wS_32 w
    · obtain ⟨i, _, rfl⟩ := List.mem_map.mp hy
      have e4 : (iS i).cps.toList = numCs i := str_num i
      rw [e4]
      exact num_32 i
theorem Ar.len {w : Wd} {ns : List Int} (h : Ar w ns) : 1 ≤ ns.length ∧ ns.length ≤ 3 := by
  unfold Ar at h
  split at h <;> first | exact h.elim | (constructor <;> simp)
theorem sum_le {ys : List Str} {k : Nat} (h : ∀ y ∈ ys, y.length ≤ k) : (ys.map (·.length)).sum ≤ ys.length * k := by
  induction ys with
  | nil => simp
  | cons y ys ih =>
    have h1 := h y List.mem_cons_self
    have h2 := ih fun y hy => h y (List.mem_cons_of_mem _ hy)
    rw [List.map_cons, List.sum_cons, List.length_cons, Nat.succ_mul]
    omega
theorem words_le {w : Wd} {ns : List Int} (h : Ar w ns) : ∀ y ∈ wS w :: ns.map iS, y.length ≤ 41 := fun y hy => by
  rcases List.mem_cons.mp hy with e | hy
  · rw [e]; exact Nat.le_trans (wS_len w) (by decide)
  · obtain ⟨i, hi, rfl⟩ := List.mem_map.mp hy
    exact iS_len (h.all i hi)
theorem words_sum {w : Wd} {ns : List Int} (h : Ar w ns) : ((wS w :: ns.map iS).map (·.length)).sum + (wS w :: ns.map iS).length * (Str.ofString " ").length ≤ 1000 := by
  have h1 := sum_le (words_le h)
  have h2 := h.len
  have h3 : (Str.ofString " ").length = 1 := by decide +kernel
  rw [h3]
  have h4 : (wS w :: ns.map iS).length ≤ 4 := by rw [List.length_cons, List.length_map]; omega
  have h5 : (wS w :: ns.map iS).length * 41 ≤ 4 * 41 := Nat.mul_le_mul_right _ h4
  omega
def fsOf : Wd → List Int → List (Str × V)
  | .take, [h, c] => putF "cell" (.int c) (putF "where" (.int h) [])
  | .mean, [h, c] => putF "cell" (.int c) (putF "where" (.int h) [])
  | .give, [h, c] => putF "cell" (.int c) (putF "where" (.int h) [])
  | .sum, [h, a, b] => putF "high" (.int b) (putF "low" (.int a) (putF "where" (.int h) []))
  | .add, [h, c, v] => putF "amount" (.int v) (putF "cell" (.int c) (putF "where" (.int h) []))
  | .plus, [v] => putF "amount" (.int v) []
  | .need, [v] => putF "amount" (.int v) []
  | _, _ => []
def StO (C : Wd → Addr) (H : Hp) (w : Wd) (ns : List Int) (v : V) : Prop := ∃ a dx, v = .ref a ∧ H a = some (.ins (C w) dx (fsOf w ns))
theorem StO.keep {C : Wd → Addr} {H H' : Hp} {w : Wd} {ns : List Int} {v : V} (e : Same H H') (h : StO C H w ns v) : StO C H' w ns v := by
  obtain ⟨a, dx, rfl, q⟩ := h
  exact ⟨a, dx, rfl, e _ _ q⟩
def tSt (H : Hp) (w : Wd) (ns : List Int) (v : V) : Prop := ∃ a, v = .ref a ∧ H a = some (.tup (.str (wS w) :: ns.map V.int))
theorem tSt.keep {H H' : Hp} {w : Wd} {ns : List Int} {v : V} (e : Same H H') (h : tSt H w ns v) : tSt H' w ns v := by
  obtain ⟨a, rfl, q⟩ := h
  exact ⟨a, rfl, e _ _ q⟩
def houseV : Wd → List Int → V
  | .plus, _ => .non
  | .need, _ => .non
  | _, h :: _ => .int h
  | _, [] => .non
def lockO : Wd → List Int → Option Lk
  | .take, [_, c] => some (.read, c, c)
  | .mean, [_, c] => some (.mean, c, c)
  | .give, [_, c] => some (.change, c, c)
  | .sum, [_, a, b] => some (.read, a, b)
  | .add, [_, c, _] => some (.change, c, c)
  | _, _ => none
def orl (K : PySem.W.Frag) (H : Hp) : Option Lk → V → Prop
  | none, v => v = .non
  | some k, v => ∃ a, v = .ref a ∧ H a = some (.tup [.str (kdS k.1), .int k.2.1, .int k.2.2])
end St
set_option maxHeartbeats 1000000
namespace L2
open PySem PySem.Spec PyProof.Rows
section
variable {X : Cx} {CX : CXT} {E : XK} {k : Nat} {C f : Addr} {fd : FuncData} {ps : List Str} {sp : Sp} {m : Str} {o e : Expr} {es : List Expr} {t : TA} {ty : TE} {pos apos cpos p : Pos} {mc : Value}
structure ClsFn (K : PySem.W.Frag) (C : Addr) (m : Str) (f : Addr) : Prop where
  ga : PySem.W.specialIn K (.ref C) "__getattribute__" = some (some (.builtin "type.__getattribute__"))
  rd : PySem.W.readsIn K C (.type "type") = true
  fc : PySem.W.findCls K (.ref C) (.type "type") m = some (.val (.ref f))
  hi : PySem.W.handedIn (.ref f) = true
  kp : PySem.W.keepIn K (.ref f) = true
theorem pe_clsm {pl : Sem Bool} (ho : PE X o (tC (.ref C))) (c : ClsFn X.K C m f) (F : FnOk X.prog X.w X.K X.mg X.base CX k f fd ps sp) (hr : Room k X.A) (hb : Binds X.K fd ps []) (hx : Passes CX X E) (ha : PA X (e :: es) t)
    (hst : starEach (e :: es) X.env = (false, eval e X.env) :: starEach es X.env := by rfl) (hpl : (backTo pos (starEach es X.env)).any (·.1) = false := by rfl)
    (ht : eval (.Call (.Attribute o m apos) (e :: es) [] pos) X.env = (do
      let ov ← eval o X.env
      standAt apos.atName
      let (f, first) ← holding [ov] (getMethod ov m pl)
      callWith pos f first (backTo pos (starEach (e :: es) X.env)) (backToKw pos (keywordEach [] X.env))) := by rfl) :
    PE X (.Call (.Attribute o m apos) (e :: es) [] pos) (tCall sp [] E t) := by
  intro pins s σ H Q I h
  refine PySem.W.methodCall_KW (pl := pl) (thn (ho pins s σ H (fun x H1 => x = .ref C ∧ t σ H1 fun vs H2 => sp (vs ++ []) H2 Q E) I ⟨rfl, h⟩) fun u s1 ⟨x, H1, I1, rx, ex, q⟩ => ?_) ht
  subst ex
  obtain rfl : u = Value.ref C := rx
  refine PySem.W.method_cls I1.kIn c.ga (PySem.W.cls_value I1.kIn c.rd c.fc c.hi ?_)
  have I2 : Inv X pins σ H1 { s1 with toks := s1.toks + 1 } := I1.tok _
  refine PySem.W.callWith_K (first := []) (h₀ := X.base) I.ok.mod.kin c.kp (thn (ha pos pins _ σ H1 _ I2 q) fun us s2 ⟨vs, H2, I3, r, q2⟩ => ⟨I3.kIn, ?_⟩) hst hpl
  exact run_fn (us := us) (vs := vs) F hr hb .nil hx I3 r q2
theorem pe_tabS {a : Addr} {D : List (Str × KTD.Dat)} (ho : PE X o (tC (.ref a))) (he : PE X e ty) (mm : M1 X o "get" apos e cpos) (ht : TabK X.K a D) :
    PE X (.Call (.Attribute o "get" apos) [e] [] cpos) (fun σ H Q => ty σ H fun y H1 => ∃ k z, y = .str k ∧ KTD.datumAt k D = some (.flat (.str z)) ∧ Q (.str z) H1) := by
  intro pins s σ H Q I h
  refine wpAny_Call_method mm.base mm.few mm.line PySem.F.plainAttrs_dict PySem.F.slot_dict_get PySem.F.type_dict_get (thn (ho pins s σ H (fun x H1 => x = .ref a ∧ ty σ H1 fun y H1 => ∃ k z, y = .str k ∧ KTD.datumAt k D = some (.flat (.str z)) ∧ Q (.str z) H1) I ⟨rfl, h⟩) fun u s1 ⟨x, H1, I1, rx, ex, q1⟩ => ?_)
  subst ex
  obtain rfl : u = Value.ref a := rx
  have T1 : KTD.Here s1.heap s1.heap a D := ⟨ht.at I1.kIn, fun _ _ e => e⟩
  refine ⟨T1.typeIs, T1.noDict, ?_⟩
  rw [mm.trees]
  refine Calls.callWith_builtin rfl (Calls.evalArgs_plain (Calls.spliced_cons (thn (he pins s1 σ H1 _ I1 q1) fun iv s2 ⟨y, H2, I2, ry, k, z, ek, hd, q2⟩ => Calls.spliced_nil ?_)))
  subst ek
  obtain ⟨tk, rfl⟩ := ry
  refine KTD.get1_textL (h₀ := s2.heap) ⟨ht.at I2.kIn, fun _ _ e => e⟩ ?_ (each_at hd (KTD.opened_str fun t' => ⟨.str z, H2, I2.tok _, ⟨_, rfl⟩, q2⟩))
  rw [← KTD.isSome_datumAt, hd]
  rfl
theorem mt_lstripC : MtR X "str.lstrip" (fun x vs H Q => ∃ z y, x = .str z ∧ vs = [.str y] ∧ z.length ≤ sizeLine ∧ Q (.str (Txt.lstripChars z y)) H) := by
  intro pins s σ H x xs v us Q I rx r h
  obtain ⟨z, y, rfl, rfl, hz, q⟩ := h
  obtain ⟨t, rfl⟩ := rx
  obtain ⟨u, rfl, ⟨t1, rfl⟩⟩ := vals1 r
  exact SC.lstripChars (fun t' k => ⟨.str _, H, I.tok _, ⟨_, rfl⟩, q⟩) hz
theorem pex_of {te : TE} (h : PE X.nox e te) : PEX X e (fun σ H Q _ => te σ H Q) := by
  intro pins s σ H Q E I q
  exact nox (h pins s σ H _ (I.wish _) q) fun v s1 ⟨x, H1, I1, r, q1⟩ => ⟨x, H1, I1.unwish, r, q1⟩
end
end L2
set_option maxHeartbeats 1000000
namespace St
open PySem L2 Lo Km PySem.NumText
structure TxW (K : PySem.W.Frag) (CW : Wd → Addr) : Prop where
  cl : ∀ w, Cls K (CW w)
  nW : ∀ w, NoAttr K (CW w) "where"
  nC : ∀ w, NoAttr K (CW w) "cell"
  nL : ∀ w, NoAttr K (CW w) "low"
  nH : ∀ w, NoAttr K (CW w) "high"
  nA : ∀ w, NoAttr K (CW w) "amount"
def isC : Wd → Bool
  | .take => true | .mean => true | .give => true | _ => false
theorem lk_hit {f : Str} {v : V} {fs : List (Str × V)} : (putF f v fs).lookup f = some v := by rw [lookup_putF, if_pos rfl]
theorem lk_miss {f g : Str} {v : V} {fs : List (Str × V)} (h : ¬ g = f) : (putF f v fs).lookup g = fs.lookup g := by rw [lookup_putF, if_neg h]
section
variable (CW : Wd → Addr)
def spWInit (w : Wd) : Sp := fun vs H Q _ => ∃ a dx ns, vs = .ref a :: (ns : List Int).map V.int ∧ Ar w ns ∧ H a = some (.ins (CW w) dx []) ∧ ∀ H', H' a = some (.ins (CW w) dx (fsOf w ns)) → Kp a H H' → Q .non H'
def spCInit : Sp := fun vs H Q _ => ∃ a dx w h c, vs = [.ref a, .int h, .int c] ∧ H a = some (.ins (CW w) dx []) ∧ ∀ H', H' a = some (.ins (CW w) dx (putF "cell" (.int c) (putF "where" (.int h) []))) → Kp a H H' → Q .non H'
def spHouse (w : Wd) : Sp := fun vs H Q _ => ∃ v ns, vs = [v] ∧ Ar w ns ∧ StO CW H w ns v ∧ Q (houseV w ns) H
def spSLock (K : PySem.W.Frag) (w : Wd) : Sp := fun vs H Q _ => ∃ v ns, vs = [v] ∧ Ar w ns ∧ StO CW H w ns v ∧ ∀ u H', Same H H' → orl K H' (lockO w ns) u → Q u H'
def spSure (w : Wd) : Sp := fun vs H Q _ => ∃ v, vs = [v] ∧ Q (.bl (decide (w = .give))) H
end
theorem log_v {i : Int} (h : inV i) : i.natAbs.log2 < 1920 := by
  by_cases h0 : i.natAbs = 0
  · rw [h0]; decide
  · exact (Nat.log2_lt h0).mpr (Nat.lt_trans h (by decide +kernel))
theorem Ar.c {w : Wd} {ns : List Int} (hw : isC w = true) (h : Ar w ns) : ∃ a b, ns = [a, b] ∧ inN a ∧ inN b ∧ fsOf w ns = putF "cell" (.int b) (putF "where" (.int a) []) := by
  cases w <;> first | cases hw | skip
  all_goals
    match ns, h with
    | [a, b], h => exact ⟨a, b, rfl, h.1, h.2, rfl⟩
theorem Ar.s {ns : List Int} (h : Ar .sum ns) : ∃ a b c, ns = [a, b, c] ∧ inN a ∧ inN b ∧ inN c ∧ b ≤ c := by
  match ns, h with
  | [a, b, c], h => exact ⟨a, b, c, rfl, h⟩
theorem Ar.a {ns : List Int} (h : Ar .add ns) : ∃ a b c, ns = [a, b, c] ∧ inN a ∧ inN b ∧ inV c := by
  match ns, h with
  | [a, b, c], h => exact ⟨a, b, c, rfl, h⟩
theorem Ar.p {ns : List Int} (h : Ar .plus ns) : ∃ a, ns = [a] ∧ inV a := by
  match ns, h with
  | [a], h => exact ⟨a, rfl, h⟩
theorem Ar.n {ns : List Int} (h : Ar .need ns) : ∃ a, ns = [a] ∧ inV a := by
  match ns, h with
  | [a], h => exact ⟨a, rfl, h⟩
end St
set_option maxHeartbeats 1000000
namespace St
open PySem PySem.Spec PyProof.Rows L2 Lo Km PySem.NumText
section
variable {K : PySem.W.Frag} {H : Hp} {a : Addr} {bl : L2.St} {te : TE} {Fin : List V → Hp → Prop}
theorem lc_intsT {g : Int → V} {ns : List Int} (hq : H a = some (.tup (ns.map V.int))) (hn : ns.length ≤ sizeLine)
    (he : ∀ i H1 (Q : VK), i ∈ ns → Same H H1 → (∀ H2, Same H1 H2 → Q (g i) H2) → te (some (.int i) :: bl) H1 Q)
    (hd : ∀ H1, Same H H1 → Fin (ns.map g) H1) :
    ∃ (W : Nat → List V → Hp → Prop) (n : Nat), W 0 [] H ∧ n ≤ sizeLine ∧ ∀ i ys H, W i ys H → ((Itt K a).stop i H ∧ Fin ys H) ∨
      ((Itt K a).go i H ∧ i < n ∧ ∀ x H', (Itt K a).yld i H x H' → tAll (some x :: bl) H' fun c H2 => if c = true then te (some x :: bl) H2 fun y H3 => W (i + 1) (ys ++ [y]) H3 else W (i + 1) ys H2) := by
  refine lc_tup (tt := tAll) (xs := ns.map V.int) (fun i ys H1 => Same H H1 ∧ ys = (ns.take i).map g) ⟨Same.refl _, rfl⟩ (by rw [List.length_map]; exact hn) (fun i ys H1 _ z => SqT.of (z.1 _ _ hq)) ?_ ?_
  · rintro i x ys H1 hx ⟨s1, rfl⟩
    rw [List.getElem?_map] at hx
    obtain ⟨n, hn, rfl⟩ := Option.map_eq_some_iff.mp hx
    refine tAllT (he n H1 _ (List.mem_of_getElem? hn) s1 fun H2 s2 => ⟨s1.trans s2, ?_⟩)
    rw [List.take_add_one, hn]
    simp
  · rintro ys H1 ⟨s1, rfl⟩
    rw [List.length_map, List.take_length]
    exact hd H1 s1
end
theorem pInts (K : PySem.W.Frag) (H : Hp) : ∀ ns : List Int, Paired (cInt.rp K H) ns (ns.map V.int)
  | [] => .nil
  | n :: ns => .cons rfl (pInts K H ns)
theorem at0 {x : V} {xs : List V} : atI (x :: xs) 0 = some x := atI_nat (j := 0) rfl
theorem at1 {x y : V} {xs : List V} : atI (x :: y :: xs) 1 = some y := atI_nat (j := 1) rfl
theorem at2 {x y z : V} {xs : List V} : atI (x :: y :: z :: xs) 2 = some z := atI_nat (j := 2) rfl
theorem wS_inj {a b : Wd} (h : wS a = wS b) : a = b := by
  cases a <;> cases b <;> first | rfl | exact absurd h (by decide +kernel)
theorem w_hit {a b : Wd} (c : decide (V.str (wS a) = V.str (wS b)) = true) : a = b := wS_inj (V.str.inj (of_decide_eq_true c))
theorem w_miss {a b : Wd} (c : ¬ decide (V.str (wS a) = V.str (wS b)) = true) : a ≠ b := fun e => c (by rw [e]; exact decide_eq_true rfl)
theorem w_need {a : Wd} (h1 : a ≠ .take) (h2 : a ≠ .mean) (h3 : a ≠ .sum) (h4 : a ≠ .give) (h5 : a ≠ .add) (h6 : a ≠ .plus) : a = .need := by
  cases a <;> first | rfl | contradiction
def shp : Wd → Str
  | .take => "HC" | .mean => "HC" | .sum => "HAB" | .give => "HC" | .add => "HCV" | .plus => "V" | .need => "V"
def shapesD : List (Str × PyProof.Rows.KTD.Dat) := [("take", .flat (.str "HC")), ("mean", .flat (.str "HC")), ("sum", .flat (.str "HAB")), ("give", .flat (.str "HC")), ("add", .flat (.str "HCV")), ("plus", .flat (.str "V")), ("need", .flat (.str "V"))]
theorem shape_at (w : Wd) : PyProof.Rows.KTD.datumAt (wS w) shapesD = some (.flat (.str (shp w))) := by
  cases w <;> kernel_rfl
theorem shp_len {w : Wd} {ns : List Int} (h : Ar w ns) : (shp w).length = ns.length := by
  unfold Ar at h
  split at h <;> first | exact h.elim | kernel_rfl
theorem shp_line (w : Wd) : (shp w).length ≤ sizeLine := by cases w <;> decide +kernel
theorem neg_no {i : Int} {p : Prop} (h : inN i) : i < 0 → p := fun z => absurd z (by unfold inN at h; omega)
theorem shp_at {w : Wd} {ns : List Int} {k : Nat} {i : Int} (h : Ar w ns) (hi : ns[k]? = some i) : ∃ c, (shp w).cps.toList[k]? = some c ∧ (i < 0 → c = 86) := by
  unfold Ar at h
  split at h
  · rcases k with _ | _ | k
    · cases hi; exact ⟨72, by decide +kernel, neg_no h.1⟩
    · cases hi; exact ⟨67, by decide +kernel, neg_no h.2⟩
    · simp at hi
  · rcases k with _ | _ | k
    · cases hi; exact ⟨72, by decide +kernel, neg_no h.1⟩
    · cases hi; exact ⟨67, by decide +kernel, neg_no h.2⟩
    · simp at hi
  · rcases k with _ | _ | k
    · cases hi; exact ⟨72, by decide +kernel, neg_no h.1⟩
    · cases hi; exact ⟨67, by decide +kernel, neg_no h.2⟩
    · simp at hi
  · rcases k with _ | _ | _ | k
    · cases hi; exact ⟨72, by decide +kernel, neg_no h.1⟩
    · cases hi; exact ⟨65, by decide +kernel, neg_no h.2.1⟩
    · cases hi; exact ⟨66, by decide +kernel, neg_no h.2.2.1⟩
    · simp at hi
  · rcases k with _ | _ | _ | k
    · cases hi; exact ⟨72, by decide +kernel, neg_no h.1⟩
    · cases hi; exact ⟨67, by decide +kernel, neg_no h.2.1⟩
    · cases hi; exact ⟨86, by decide +kernel, fun _ => rfl⟩
    · simp at hi
  · rcases k with _ | k
    · cases hi; exact ⟨86, by decide +kernel, fun _ => rfl⟩
    · simp at hi
  · rcases k with _ | k
    · cases hi; exact ⟨86, by decide +kernel, fun _ => rfl⟩
    · simp at hi
  · exact h.elim
theorem iS_cs (i : Int) : (iS i).cps.toList = numCs i := str_num i
theorem num_in {i : Int} {c : Nat} (h : c ∈ numCs i) : c = 45 ∨ (48 ≤ c ∧ c ≤ 57) := by
  have hd : ∀ m, c ∈ digs m → 48 ≤ c ∧ c ≤ 57 := fun m hm => digs_all m c hm
  unfold numCs at h
  split at h
  · rcases List.mem_cons.mp h with e | e
    · exact .inl e
    · exact .inr (hd _ e)
  · exact .inr (hd _ h)
theorem lstrip_len {i : Int} (h : inV i) : (Txt.lstripChars (iS i) (Str.ofString "-")).length ≤ 40 := by
  have e : (Str.ofString "-") = ⟨#[45]⟩ := by decide +kernel
  have hd := digs_len (k := 40) (by decide) h
  have hs : (iS i).cps.size = (numCs i).length := by rw [← iS_cs]; simp
  rw [e]
  unfold Txt.lstripChars
  rw [stripBy_eq]
  generalize hL : stripLo ((⟨#[45]⟩ : Str).cps.contains) true (iS i) = lo
  show ((iS i).cps.extract lo (iS i).length).size ≤ 40
  rw [Array.size_extract]
  by_cases hi : i < 0
  · have h1 : 1 ≤ lo := by
      rw [← hL]
      show 1 ≤ ((iS i).cps.toList.takeWhile (fun c => (⟨#[45]⟩ : Str).cps.contains c)).length
      rw [iS_cs]
      unfold numCs
      rw [if_pos hi, List.takeWhile_cons, if_pos (by decide +kernel)]
      simp
    have h2 : (numCs i).length ≤ 41 := by
      unfold numCs
      rw [if_pos hi, List.length_cons]
      omega
    omega
  · have h2 : (numCs i).length ≤ 40 := by
      unfold numCs
      rw [if_neg hi]
      exact hd
    omega
theorem iS_line {i : Int} (h : inV i) : (iS i).length ≤ 100000 := Nat.le_trans (iS_len h) (by decide)
theorem joinC_len (c : Nat) : ∀ ls : List (List Nat), (joinC c ls).length ≤ (ls.map (·.length)).sum + ls.length
  | [] => Nat.zero_le _
  | [x] => by simp [joinC]
  | x :: y :: r => by
    have h := joinC_len c (y :: r)
    show (x ++ c :: joinC c (y :: r)).length ≤ _
    rw [List.length_append, List.length_cons, List.map_cons, List.sum_cons, List.length_cons (a := x)]
    omega
theorem txt_len {wd : Wd} {ns : List Int} (h : Ar wd ns) : (txt wd ns).length ≤ 1000000 := by
  have e2 : (txt wd ns).cps.toList = joinC 32 ((wS wd :: ns.map iS).map fun y => y.cps.toList) := by
    unfold txt
    rw [sep_eq]
    exact join_one_cs 32 _
  have e3 : (txt wd ns).length = (txt wd ns).cps.toList.length := by simp [Str.length]
  have h1 := joinC_len 32 ((wS wd :: ns.map iS).map fun y => y.cps.toList)
  have h2 := words_sum h
  have e4 : ((wS wd :: ns.map iS).map fun y => y.cps.toList).map (·.length) = (wS wd :: ns.map iS).map (·.length) := by
    rw [List.map_map]
    refine List.map_congr_left fun y _ => ?_
    simp [Str.length]
  have e5 : (Str.ofString " ").length = 1 := by decide +kernel
  rw [e4, List.length_map] at h1
  rw [e5, Nat.mul_one] at h2
  rw [e3, e2]
  omega
theorem cut_one (x : V) (xs : List V) : cutV (x :: xs) (some 1) none = xs := by
  unfold cutV
  rw [HT.sIx_none, show (some (1 : Int)) = some ((1 : Nat) : Int) from rfl, HT.sIx_nat, List.length_cons, Nat.min_eq_left (by omega)]
  simp
theorem cut_one_no (x : V) (xs : List V) : ¬ (HT.sIx (x :: xs).length 0 (some (1 : Int)) = 0 ∧ HT.sIx (x :: xs).length (x :: xs).length none = (x :: xs).length) := by
  rintro ⟨h, _⟩
  rw [show (some (1 : Int)) = some ((1 : Nat) : Int) from rfl, HT.sIx_nat, List.length_cons] at h
  omega
theorem w_give (w : Wd) : decide (V.str (wS w) = V.str (wS .give)) = decide (w = .give) := by
  cases w <;> first | rfl | (refine (decide_eq_false fun h => ?_).trans (decide_eq_false (by intro h; cases h)).symm; exact absurd (w_hit (decide_eq_true h)) (by intro h; cases h))
theorem w_of (i : Int) (h0 : 0 ≤ i) (h7 : i < 7) : ∃ w, atI ([.str "take", .str "mean", .str "sum", .str "give", .str "add", .str "plus", .str "need"] : List V) i = some (.str (wS w)) := by
  have : i = 0 ∨ i = 1 ∨ i = 2 ∨ i = 3 ∨ i = 4 ∨ i = 5 ∨ i = 6 := by omega
  rcases this with rfl | rfl | rfl | rfl | rfl | rfl | rfl
  · exact ⟨.take, rfl⟩
  · exact ⟨.mean, rfl⟩
  · exact ⟨.sum, rfl⟩
  · exact ⟨.give, rfl⟩
  · exact ⟨.add, rfl⟩
  · exact ⟨.plus, rfl⟩
  · exact ⟨.need, rfl⟩
theorem fs_no {m : Str} (h1 : ¬ m = "where") (h2 : ¬ m = "cell") (h3 : ¬ m = "low") (h4 : ¬ m = "high") (h5 : ¬ m = "amount") (w : Wd) (ns : List Int) : (fsOf w ns).lookup m = none := by
  unfold fsOf
  split <;> simp only [lk_miss h1, lk_miss h2, lk_miss h3, lk_miss h4, lk_miss h5, List.lookup_nil]
theorem mk_kp {H H' : Hp} {x dx : Addr} {o1 o2 : HO} (nx : H x = none) (nd : H dx = none) (k : Kp x (upd (upd H dx o1) x o2) H') : Same H H' := fun b o e => by
  have hx : b ≠ x := fun z => by rw [z, nx] at e; cases e
  have hd : b ≠ dx := fun z => by rw [z, nd] at e; cases e
  exact k b o hx (by rw [upd_ne hx, upd_ne hd]; exact e)
structure WI (P : Program) (w : World) (K : PySem.W.Frag) (mg : Str → Option Value) (base : Heap) (CW : Wd → Addr) (wd : Wd) where
  fI : Addr
  dI : FuncData
  ps : List Str
  M : Mk K (CW wd) fI
  ok : FnOk P w K mg base CX0 2 fI dI ps (spWInit CW wd)
  b : Binds K dI ps []
  m : mg (wN wd) = some (.ref (CW wd))
section
variable (CW : Wd → Addr)
def spMade : Sp := fun vs H Q _ => ∃ wd q ns, vs = [.str (wS wd), .ref q] ∧ H q = some (.lst ((ns : List Int).map V.int)) ∧ Ar wd ns ∧ ∀ v H', Same H H' → StO CW H' wd ns v → Q v H'
def spMSum : Sp := fun vs H Q _ => ∃ x y z, vs = [.int x, .int y, .int z] ∧ Ar .sum [x, y, z] ∧ ∀ v H', Same H H' → StO CW H' .sum [x, y, z] v → Q v H'
def spRStep : Sp := fun vs H Q _ => ∃ wd ns, vs = [.str (txt wd ns)] ∧ Ar wd ns ∧ ∀ v H', Same H H' → StO CW H' wd ns v → Q v H'
end
def spRNum : Sp := fun vs H Q _ => ∃ i c, vs = [.str (iS i), .str ⟨#[c]⟩] ∧ inV i ∧ (i < 0 → c = 86) ∧ ∀ H', Same H H' → Q (.int i) H'
def spMixed : Sp := fun vs H Q _ => ∃ c k, vs = [.int c, .int k] ∧ ∀ r, 0 ≤ r → r < 2147483647 → Q (.int r) H
end St
namespace L2
open PySem PySem.Spec PyProof.Rows
open Builtin Builtin.Str
theorem join_manyS {y : Str} (hy : 1 ≤ y.length) : ∀ ys : List Str, ys.length ≤ (Str.join y ys).length + 1
  | [] => Nat.zero_le _
  | [_] => by simp
  | a :: u :: ys => by
    have ih := join_manyS hy (u :: ys)
    rw [join_cons_cons]
    have e : (a ++ y ++ Str.join y (u :: ys)).length = a.length + y.length + (Str.join y (u :: ys)).length := by
      show ((a.cps ++ y.cps) ++ (Str.join y (u :: ys)).cps).size = _
      rw [Array.size_append, Array.size_append]
      rfl
    rw [e, List.length_cons]
    omega
section
variable {X : Cx}
theorem mt_splitS : MtR X "str.split" (fun x vs H Q => ∃ (z y : Str), x = .str z ∧ vs = [.str y] ∧ 1 ≤ y.length ∧ z.length ≤ 1000000 ∧ ∀ p, H p = none → Q (.ref p) (upd H p (.lst ((Txt.split z y).map V.str)))) := by
  intro pins s σ H x xs v us Q I rx r h
  obtain ⟨z, y, rfl, rfl, h1y, hz, q⟩ := h
  obtain ⟨t, rfl⟩ := rx
  obtain ⟨u, rfl, ⟨t1, rfl⟩⟩ := vals1 r
  have hs : (1000002 : Nat) ≤ sizeLine := by decide
  have many : (Txt.split z y).length ≤ sizeLine := by
    have := join_manyS h1y (Txt.split z y)
    rw [StrLaws.join_split] at this
    omega
  have fin : ∀ (l : List (Str × Tok)) (k : Nat), l.map (·.1) = Txt.split z y → EP X pins σ Q (.ref s.heap.objs.size) { s with toks := k, heap := s.heap.push { cls := .type "list", data := .seq (strValues l).toArray } } := fun l k el =>
    ⟨.ref s.heap.objs.size, _, I.laid (t' := k) (o := .lst ((Txt.split z y).map V.str)) (fun b o e => Heap.get?_push_of_some _ e) (Nat.le_refl _)
      (show ObjOk X.prog X.w _ _ _ (.lst ((Txt.split z y).map V.str)) from ⟨by rw [List.length_map]; exact many, strValues l, 0, el ▸ vals_strs l, Heap.get?_push_size _ rfl⟩), rfl, q _ (I.hok.fresh (Nat.le_refl _))⟩
  have hy : (y.length == 0) = false := by
    cases e : y.length with
    | zero => omega
    | succ n => rfl
  cases h1 : (decide (z.length < y.length) || decide (strKind z < strKind y)) with
  | true =>
    have es : Txt.split z y = [z] := by unfold Txt.split; rw [if_pos h1]
    exact call_meets F.slot_str_split (typeIs_str _ _ _) F.entry_str_split (F.args_str_split_2 _ _) (meets_str_split_cannot_occur z y t t1 h1) (fin [(z, t)] s.toks es.symm)
  | false =>
    cases hf : (occurrences z y 0 z.length (z.length + 1)).isEmpty with
    | true =>
      have es : Txt.split z y = [z] := by unfold Txt.split; rw [if_neg (by rw [h1]; decide), if_pos hf]
      exact call_meets F.slot_str_split (typeIs_str _ _ _) F.entry_str_split (F.args_str_split_2 _ _) (meets_str_split_not_found z y t t1 h1 hy hf) (fin [(z, t)] s.toks es.symm)
    | false =>
      have es : Txt.split z y = partsBetween z (occurrences z y 0 z.length (z.length + 1)) y.length := by unfold Txt.split; rw [if_neg (by rw [h1]; decide), if_neg (by rw [hf]; decide)]
      refine call_meets F.slot_str_split (typeIs_str _ _ _) F.entry_str_split (F.args_str_split_2 _ _) (meets_str_split_sep z y t t1 h1 hy hf (by omega) (by rw [← es]; exact many)) ?_
      rw [strsFrom_eq]
      exact fin _ _ ((numbered_texts _ _).trans es.symm)
theorem mt_part : MtR X "str.partition" (fun x vs H Q => ∃ (z y : Str), x = .str z ∧ vs = [.str y] ∧ (y.length == 0) = false ∧ z.length ≤ sizeLine ∧
    ∀ p, H p = none → Q (.ref p) (upd H p (.tup [.str (Txt.partition z y).1, .str (Txt.partition z y).2.1, .str (Txt.partition z y).2.2]))) := by
  intro pins s σ H x xs v us Q I rx r h
  obtain ⟨z, y, rfl, rfl, hy, hz, q⟩ := h
  obtain ⟨t, rfl⟩ := rx
  obtain ⟨u, rfl, ⟨t1, rfl⟩⟩ := vals1 r
  have fin : ∀ (a b c : Str) (ta tb tc : Tok) (k : Nat), (∀ p, H p = none → Q (.ref p) (upd H p (.tup [.str a, .str b, .str c]))) →
      EP X pins σ Q (.ref s.heap.objs.size) { s with toks := k, heap := s.heap.push { cls := .type "tuple", data := .seq [Value.str a ta, Value.str b tb, Value.str c tc].toArray } } := fun a b c ta tb tc k hq =>
    ⟨.ref s.heap.objs.size, _, I.laid (t' := k) (o := .tup [.str a, .str b, .str c]) (fun b o e => Heap.get?_push_of_some _ e) (Nat.le_refl _)
      (show ObjOk X.prog X.w _ _ _ (.tup [.str a, .str b, .str c]) from ⟨by show 3 ≤ sizeLine; decide, _, .cons ⟨ta, rfl⟩ (.cons ⟨tb, rfl⟩ (.cons ⟨tc, rfl⟩ .nil)), IsTup.new _ _⟩), rfl, hq _ (I.hok.fresh (Nat.le_refl _))⟩
  refine call_meets F.slot_str_partition (typeIs_str _ _ _) F.entry_str_partition (F.args_str_partition_2 _ _) (meets_str_partition z y t t1 hy hz) ?_
  unfold Txt.partition at q
  cases e : occurrences z y 0 z.length 1 with
  | nil => rw [e] at q; exact fin _ _ _ _ _ _ _ q
  | cons i r => rw [e] at q; exact fin _ _ _ _ _ _ _ q
end
end L2
set_option maxHeartbeats 1000000
namespace Km
open PySem PySem.NumText L2 PyProof.Rows
open Builtin Builtin.Str
def joinD (c d : Nat) : List (List Nat) → List Nat
  | [] => []
  | [x] => x
  | x :: y :: r => x ++ c :: d :: joinD c d (y :: r)
theorem join_two_cs (c d : Nat) : ∀ ys : List Str, (Str.join ⟨#[c, d]⟩ ys).cps.toList = joinD c d (ys.map fun y => y.cps.toList)
  | [] => rfl
  | [y] => rfl
  | y :: u :: ys => by
    have ih := join_two_cs c d (u :: ys)
    rw [join_cons_cons]
    show ((y.cps ++ #[c, d]) ++ (Str.join ⟨#[c, d]⟩ (u :: ys)).cps).toList = _
    rw [Array.toList_append, Array.toList_append, ih]
    simp [joinD]
theorem joinD_inj {c d : Nat} : ∀ {xs ys : List (List Nat)}, xs ≠ [] → ys ≠ [] → (∀ x ∈ xs, c ∉ x) → (∀ y ∈ ys, c ∉ y) → joinD c d xs = joinD c d ys → xs = ys
  | [], _, h, _, _, _, _ => absurd rfl h
  | _ :: _, [], _, h, _, _, _ => absurd rfl h
  | [x], [y], _, _, _, _, e => by rw [show x = y from e]
  | [x], y :: u :: ys, _, _, hx, _, e => by
    have e' : x = y ++ c :: d :: joinD c d (u :: ys) := e
    exact absurd (by rw [e']; simp) (hx x List.mem_cons_self)
  | x :: u :: xs, [y], _, _, _, hy, e => by
    have e' : x ++ c :: d :: joinD c d (u :: xs) = y := e
    exact absurd (by rw [← e']; simp) (hy y List.mem_cons_self)
  | x :: u :: xs, y :: v :: ys, _, _, hx, hy, e => by
    have e' : x ++ c :: d :: joinD c d (u :: xs) = y ++ c :: d :: joinD c d (v :: ys) := e
    obtain ⟨e1, e2⟩ := cut_first (hx x List.mem_cons_self) (hy y List.mem_cons_self) e'
    rw [e1, joinD_inj (by simp) (by simp) (fun z hz => hx z (List.mem_cons_of_mem _ hz)) (fun z hz => hy z (List.mem_cons_of_mem _ hz)) (List.cons.inj e2).2]
def Foll (c d : Nat) (l : List Nat) : Prop := ∀ k, l[k]? = some c → l[k + 1]? = some d
theorem foll_join {c d : Nat} (hcd : c ≠ d) : ∀ {ps : List (List Nat)}, (∀ p ∈ ps, c ∉ p) → Foll c d (joinD c d ps)
  | [], _, k, h => by cases h
  | [x], hp, k, h => absurd (List.mem_of_getElem? h) (hp x List.mem_cons_self)
  | x :: y :: r, hp, k, h => by
    have ih := foll_join hcd (ps := y :: r) fun p hp' => hp p (List.mem_cons_of_mem _ hp')
    have h' : (x ++ c :: d :: joinD c d (y :: r))[k]? = some c := h
    show (x ++ c :: d :: joinD c d (y :: r))[k + 1]? = some d
    by_cases h1 : k < x.length
    · rw [List.getElem?_append_left h1] at h'
      exact absurd (List.mem_of_getElem? h') (hp x List.mem_cons_self)
    · rw [List.getElem?_append_right (by omega)] at h' ⊢
      obtain ⟨m, hm⟩ : ∃ m, k = x.length + m := ⟨k - x.length, by omega⟩
      subst hm
      rw [Nat.add_sub_cancel_left] at h'
      rw [show x.length + m + 1 - x.length = m + 1 from by omega]
      match m, h' with
      | 0, _ => rfl
      | 1, h' => exact absurd (Option.some.inj h').symm hcd
      | m + 2, h' => exact ih m h'
theorem subAt_two (x : Str) (c d i : Nat) : (i + (⟨#[c, d]⟩ : Str).length ≤ x.length ∧ subAt x ⟨#[c, d]⟩ i = true) ↔ (x.cps.toList[i]? = some c ∧ x.cps.toList[i + 1]? = some d) := by
  rw [StrLaws.subAt_eq]
  have hl : x.length = x.cps.toList.length := by simp [Str.length]
  have e2 : (⟨#[c, d]⟩ : Str).length = 2 := rfl
  rw [e2, hl]
  generalize x.cps.toList = l
  show (i + 2 ≤ l.length ∧ (((l.drop i).take 2) == [c, d]) = true) ↔ _
  rw [beq_iff_eq]
  constructor
  · rintro ⟨h1, h2⟩
    have a0 : ((l.drop i).take 2)[0]? = l[i]? := by rw [List.getElem?_take_of_lt (by omega), List.getElem?_drop, Nat.add_zero]
    have a1 : ((l.drop i).take 2)[1]? = l[i + 1]? := by rw [List.getElem?_take_of_lt (by omega), List.getElem?_drop]
    rw [h2] at a0 a1
    exact ⟨a0.symm, a1.symm⟩
  · rintro ⟨h1, h2⟩
    have hb := (List.getElem?_eq_some_iff.mp h2).1
    refine ⟨by omega, ?_⟩
    have e := List.drop_eq_getElem_cons (l := l) (i := i) (by omega)
    have e' := List.drop_eq_getElem_cons (l := l) (i := i + 1) (by omega)
    rw [e, e', (List.getElem?_eq_some_iff.mp h1).2, (List.getElem?_eq_some_iff.mp h2).2]
    rfl
section
variable {x : Str} {c d : Nat} (hF : Foll c d x.cps.toList)
include hF
theorem at_c {k : Nat} (h : x.cps.toList[k]? = some c) : StrLaws.At x ⟨#[c, d]⟩ x.length k := (subAt_two x c d k).mpr ⟨h, hF k h⟩
theorem part_freeD (a b : Nat) (hb : b ≤ x.length) (hn : ∀ k, a ≤ k → k < b → ¬ StrLaws.At x ⟨#[c, d]⟩ x.length k) : c ∉ (strSub x a b).cps.toList := by
  intro hm
  rw [StrLaws.strSub_toList] at hm
  obtain ⟨j, hj⟩ := List.getElem?_of_mem hm
  have hlt : j < b - a := by
    have h1 : j < ((x.cps.toList.drop a).take (b - a)).length := (List.getElem?_eq_some_iff.mp hj).1
    rw [List.length_take] at h1
    omega
  rw [List.getElem?_take_of_lt hlt, List.getElem?_drop] at hj
  exact hn (a + j) (by omega) (by omega) (at_c hF hj)
theorem parts_freeD : ∀ (cuts : List Nat) (a f : Nat), StrLaws.ChainG x ⟨#[c, d]⟩ x.length a cuts f → (∀ k, f ≤ k → ¬ StrLaws.At x ⟨#[c, d]⟩ x.length k) → ∀ p ∈ StrLaws.partsFrom x (⟨#[c, d]⟩ : Str).length a cuts, c ∉ p.cps.toList
  | [], a, f, h, hn, p, hp => by
    have e : f = a := h
    subst e
    rw [List.mem_singleton.mp hp]
    exact part_freeD hF f x.length (Nat.le_refl _) fun k h1 _ => hn k h1
  | i :: r, a, f, h, hn, p, hp => by
    rcases List.mem_cons.mp hp with rfl | hp'
    · exact part_freeD hF a i (by have := h.2.1.1; omega) h.2.2.1
    · exact parts_freeD r _ f h.2.2.2 hn p hp'
theorem split_freeD (hk : Builtin.Str.strKind x < Builtin.Str.strKind ⟨#[c, d]⟩ → False) : ∀ p ∈ Txt.split x ⟨#[c, d]⟩, c ∉ p.cps.toList := by
  obtain ⟨f, hG, hn⟩ := StrLaws.occ_tight x ⟨#[c, d]⟩ (by show 1 ≤ 2; decide)
  unfold Txt.split
  split
  · rename_i hc
    intro p hp
    rw [List.mem_singleton.mp hp]
    intro hm
    obtain ⟨j, hj⟩ := List.getElem?_of_mem hm
    have hA := at_c hF hj
    rw [Bool.or_eq_true, decide_eq_true_eq, decide_eq_true_eq] at hc
    rcases hc with h | h
    · have := hA.1; omega
    · exact hk h
  · split
    · rename_i he
      intro p hp
      rw [List.mem_singleton.mp hp]
      have e0 : occurrences x ⟨#[c, d]⟩ 0 x.length (x.length + 1) = [] := List.isEmpty_iff.mp he
      rw [e0] at hG
      have ef : f = 0 := hG
      subst ef
      rw [← StrLaws.sub_whole x]
      exact part_freeD hF 0 x.length (Nat.le_refl _) fun k h1 _ => hn k h1
    · rw [StrLaws.partsBetween_eq]
      exact parts_freeD hF _ 0 f hG hn
end
theorem kind_least {c d : Nat} (hc : c < 256) (hd : d < 256) (x : Str) : ¬ Builtin.Str.strKind x < Builtin.Str.strKind ⟨#[c, d]⟩ := by
  have k1 : (#[c, d] : Array Nat).all (· < 256) = true := by simp [hc, hd]
  unfold Builtin.Str.strKind
  rw [if_pos k1]
  split
  · omega
  · split <;> omega
theorem split_two {z : Str} {c d : Nat} {ps : List (List Nat)} (hcd : c ≠ d) (hc : c < 256) (hd : d < 256) (ez : z.cps.toList = joinD c d ps) (h0 : ps ≠ []) (hp : ∀ p ∈ ps, c ∉ p) : Txt.split z ⟨#[c, d]⟩ = ps.map fun p => (⟨p.toArray⟩ : Str) := by
  have e1 := join_two_cs c d (Txt.split z ⟨#[c, d]⟩)
  rw [StrLaws.join_split, ez] at e1
  have n1 : (Txt.split z ⟨#[c, d]⟩).map (fun y => y.cps.toList) ≠ [] := by
    intro e
    have := split_pos z ⟨#[c, d]⟩
    rw [List.map_eq_nil_iff.mp e] at this
    exact absurd this (by decide)
  have hF : Foll c d z.cps.toList := by rw [ez]; exact foll_join hcd hp
  have e2 := joinD_inj h0 n1 hp (fun y hy => by
    obtain ⟨p, hp', rfl⟩ := List.mem_map.mp hy
    exact split_freeD hF (kind_least hc hd z) p hp') e1
  rw [e2, List.map_map]
  have e3 : ((fun p : List Nat => (⟨p.toArray⟩ : Str)) ∘ fun y : Str => y.cps.toList) = _root_.id := by
    funext y
    obtain ⟨a⟩ := y
    simp
  rw [e3, List.map_id]
theorem part_at {z x y : Str} {c : Nat} (ez : z.cps.toList = x.cps.toList ++ c :: y.cps.toList) (hx : c ∉ x.cps.toList) : Txt.partition z ⟨#[c]⟩ = (x, ⟨#[c]⟩, y) := by
  have lx : x.length = x.cps.toList.length := by simp [Str.length]
  have hl : z.length = x.length + 1 + y.length := by
    have e1 : z.length = z.cps.toList.length := by simp [Str.length]
    have e2 : y.length = y.cps.toList.length := by simp [Str.length]
    rw [e1, ez, e2, lx, List.length_append, List.length_cons]
    omega
  have ha : z.cps.toList[x.length]? = some c := by rw [ez, lx, List.getElem?_append_right (Nat.le_refl _), Nat.sub_self]; rfl
  have hA := (StrLaws.subAt_one z c x.length).mpr ha
  have no : ∀ k, k < x.length → ¬ StrLaws.At z ⟨#[c]⟩ z.length k := fun k hk hAk => by
    have e := (StrLaws.subAt_one z c k).mp hAk
    rw [ez, List.getElem?_append_left (by omega)] at e
    exact hx (List.mem_of_getElem? e)
  obtain ⟨i, r, e, hi, hk⟩ : ∃ i r, occurrences z ⟨#[c]⟩ 0 z.length 1 = i :: r ∧ StrLaws.At z ⟨#[c]⟩ z.length i ∧ ∀ k, k < i → ¬ StrLaws.At z ⟨#[c]⟩ z.length k :=
    (StrLaws.occ_head z ⟨#[c]⟩ 1 (Nat.le_refl _)).resolve_left fun h => h.2 _ hA
  have ei : i = x.length := by
    rcases Nat.lt_trichotomy i x.length with h | h | h
    · exact absurd hi (no _ h)
    · exact h
    · exact absurd hA (hk _ h)
  subst ei
  unfold Txt.partition
  rw [e]
  have ea : z.cps = (x.cps.toList ++ c :: y.cps.toList).toArray := by
    apply Array.toList_inj.mp
    rw [ez]
  have e1 : strSub z 0 x.length = x := by
    unfold strSub
    rw [ea, lx]
    obtain ⟨xs⟩ := x
    congr 1
    apply Array.toList_inj.mp
    simp
  have e2 : strSub z (x.length + (⟨#[c]⟩ : Str).length) z.length = y := by
    unfold strSub
    rw [ea, hl]
    have e3 : (⟨#[c]⟩ : Str).length = 1 := rfl
    rw [e3]
    obtain ⟨xs⟩ := x
    obtain ⟨ys⟩ := y
    congr 1
    apply Array.toList_inj.mp
    simp [Str.length]
    have e4 : xs.toList ++ c :: ys.toList = (xs.toList ++ [c]) ++ ys.toList := by simp
    rw [e4, List.drop_left' (by simp)]
    exact List.take_of_length_le (by simp)
  show (strSub z 0 x.length, (⟨#[c]⟩ : Str), strSub z (x.length + (⟨#[c]⟩ : Str).length) z.length) = _
  rw [e1, e2]
end Km
set_option maxHeartbeats 1000000
namespace St
open PySem PySem.Spec PyProof.Rows L2 Lo Km PySem.NumText
def tEx {ι : Type} (t : ι → TE) : TE := fun σ H Q => ∃ i, t i σ H Q
theorem pe_ex {X : Cx} {e : Expr} {ι : Type} {t : ι → TE} (h : ∀ i, PE X e (t i)) : PE X e (tEx t) := fun pins s σ H Q I q => by
  obtain ⟨i, q⟩ := q
  exact h i pins s σ H Q I q
abbrev Stp := Wd × List Int
def StsP (CW : Wd → Addr) (H : Hp) (xs : List Stp) (us : List V) : Prop := Paired (fun (x : Stp) v => StO CW H x.1 x.2 v) xs us
theorem StsP.keep {CW : Wd → Addr} {H H' : Hp} {xs : List Stp} {us : List V} (e : Same H H') (h : StsP CW H xs us) : StsP CW H' xs us := Paired.mapP h fun _ _ z => z.keep e
def ArS (xs : List Stp) : Prop := ∀ x ∈ xs, Ar x.1 x.2
def sx (x : Stp) : Str := txt x.1 x.2
def pf (m : Str) (sl tp : Addr) : List (Str × V) := putF "parts" (.ref tp) (putF "steps" (.ref sl) (putF "manner" (.str m) []))
theorem pf_p (m : Str) (sl tp : Addr) : (pf m sl tp).lookup ("parts" : Str) = some (.ref tp) := lk_hit
theorem pf_m (m : Str) (sl tp : Addr) : (pf m sl tp).lookup ("manner" : Str) = some (.str m) := by
  unfold pf
  rw [lk_miss (by decide +kernel), lk_miss (by decide +kernel), lk_hit]
structure PaU (CP : Addr) (CW : Wd → Addr) (H : Hp) (m : Str) (xs : List Stp) (a dx sl tp : Addr) (us : List V) : Prop where
  ins : H a = some (.ins CP dx (pf m sl tp))
  sl : H sl = some (.lst us)
  tp : H tp = some (.tup us)
  st : StsP CW H xs us
theorem PaU.keep {CP : Addr} {CW : Wd → Addr} {H H' : Hp} {m : Str} {xs : List Stp} {a dx sl tp : Addr} {us : List V} (e : Same H H') (h : PaU CP CW H m xs a dx sl tp us) : PaU CP CW H' m xs a dx sl tp us := ⟨e _ _ h.ins, e _ _ h.sl, e _ _ h.tp, h.st.keep e⟩
def PaO (CP : Addr) (CW : Wd → Addr) (H : Hp) (m : Str) (xs : List Stp) (v : V) : Prop := ∃ a dx sl tp us, v = .ref a ∧ PaU CP CW H m xs a dx sl tp us
theorem PaO.keep {CP : Addr} {CW : Wd → Addr} {H H' : Hp} {m : Str} {xs : List Stp} {v : V} (e : Same H H') (h : PaO CP CW H m xs v) : PaO CP CW H' m xs v := by
  obtain ⟨a, dx, sl, tp, us, rfl, h⟩ := h
  exact ⟨a, dx, sl, tp, us, rfl, h.keep e⟩
structure TxP (K : PySem.W.Frag) (CP : Addr) : Prop where
  cl : Cls K CP
  nm : NoAttr K CP "manner"
  ns : NoAttr K CP "steps"
  np : NoAttr K CP "parts"
def ptx (m : Str) (xs : List Stp) : Str := m ++ Str.ofString " " ++ Str.join (Str.ofString "; ") (xs.map sx)
theorem txt_short {x : Stp} (h : Ar x.1 x.2) : (sx x).length ≤ 1000 := by
  obtain ⟨wd, ns⟩ := x
  have e2 : (txt wd ns).cps.toList = joinC 32 ((wS wd :: ns.map iS).map fun y => y.cps.toList) := by
    unfold txt
    rw [sep_eq]
    exact join_one_cs 32 _
  have e3 : (txt wd ns).length = (txt wd ns).cps.toList.length := by simp [Str.length]
  have h1 := joinC_len 32 ((wS wd :: ns.map iS).map fun y => y.cps.toList)
  have h2 := words_sum (w := wd) (ns := ns) h
  have e4 : ((wS wd :: ns.map iS).map fun y => y.cps.toList).map (·.length) = (wS wd :: ns.map iS).map (·.length) := by
    rw [List.map_map]
    refine List.map_congr_left fun y _ => ?_
    simp [Str.length]
  have e5 : (Str.ofString " ").length = 1 := by decide +kernel
  rw [e4, List.length_map] at h1
  rw [e5, Nat.mul_one] at h2
  show (txt wd ns).length ≤ 1000
  rw [e3, e2]
  omega
theorem join_len (y : Str) : ∀ ys : List Str, (Str.join y ys).length ≤ (ys.map (·.length)).sum + ys.length * y.length
  | [] => Nat.zero_le _
  | [x] => by simp [Str.join]
  | a :: u :: ys => by
    have ih := join_len y (u :: ys)
    rw [join_cons_cons]
    have e : (a ++ y ++ Str.join y (u :: ys)).length = a.length + y.length + (Str.join y (u :: ys)).length := by
      show ((a.cps ++ y.cps) ++ (Str.join y (u :: ys)).cps).size = _
      rw [Array.size_append, Array.size_append]
      rfl
    rw [e, List.map_cons, List.sum_cons, List.length_cons (a := a), Nat.succ_mul]
    omega
theorem sep2 : Str.ofString "; " = ⟨#[59, 32]⟩ := by decide +kernel
theorem sx_sum {xs : List Stp} (h : ArS xs) : ((xs.map sx).map (·.length)).sum ≤ xs.length * 1000 := by
  have := sum_le (ys := xs.map sx) (k := 1000) fun y hy => by
    obtain ⟨x, hx, rfl⟩ := List.mem_map.mp hy
    exact txt_short (h x hx)
  rw [List.length_map] at this
  exact this
theorem join_short {xs : List Stp} (h : ArS xs) (hl : xs.length ≤ 20) : (Str.join (Str.ofString "; ") (xs.map sx)).length ≤ 30000 := by
  have h1 := join_len (Str.ofString "; ") (xs.map sx)
  have h2 := sx_sum h
  have e : (Str.ofString "; ").length = 2 := by decide +kernel
  rw [e, List.length_map] at h1
  omega
theorem sx_59 (x : Stp) : 59 ∉ (sx x).cps.toList := by
  obtain ⟨wd, ns⟩ := x
  have e2 : (txt wd ns).cps.toList = joinC 32 ((wS wd :: ns.map iS).map fun y => y.cps.toList) := by
    unfold txt
    rw [sep_eq]
    exact join_one_cs 32 _
  show 59 ∉ (txt wd ns).cps.toList
  rw [e2]
  have key : ∀ ls : List (List Nat), (∀ l ∈ ls, 59 ∉ l) → 59 ∉ joinC 32 ls := by
    intro ls
    induction ls with
    | nil => intro _ h; cases h
    | cons a r ih =>
      intro h hm
      cases r with
      | nil => exact h a List.mem_cons_self hm
      | cons b r =>
        rcases List.mem_append.mp (show 59 ∈ a ++ 32 :: joinC 32 (b :: r) from hm) with z | z
        · exact h a List.mem_cons_self z
        · rcases List.mem_cons.mp z with z | z
          · cases z
          · exact ih (fun l hl => h l (List.mem_cons_of_mem _ hl)) z
  refine key _ fun l hl => ?_
  obtain ⟨y, hy, rfl⟩ := List.mem_map.mp hl
  rcases List.mem_cons.mp hy with rfl | hy
  · cases wd <;> decide +kernel
  · obtain ⟨i, _, rfl⟩ := List.mem_map.mp hy
    rw [iS_cs]
    intro z
    rcases num_in z with z | z <;> omega
theorem split_ptx {xs : List Stp} (h0 : xs ≠ []) : Txt.split (Str.join (Str.ofString "; ") (xs.map sx)) (Str.ofString "; ") = xs.map sx := by
  rw [sep2]
  rw [split_two (c := 59) (d := 32) (ps := (xs.map sx).map fun y => y.cps.toList) (by decide) (by decide) (by decide) (join_two_cs 59 32 _) (by simp [h0]) fun p hp => by
    obtain ⟨y, hy, rfl⟩ := List.mem_map.mp hp
    obtain ⟨x, _, rfl⟩ := List.mem_map.mp hy
    exact sx_59 x]
  rw [List.map_map]
  have e3 : ((fun p : List Nat => (⟨p.toArray⟩ : Str)) ∘ fun y : Str => y.cps.toList) = id := by
    funext y
    obtain ⟨a⟩ := y
    simp
  rw [e3, List.map_id]
def mS (b : Bool) : Str := if b then "walked" else "held"
theorem mS_32 (b : Bool) : 32 ∉ (mS b).cps.toList := by cases b <;> decide +kernel
theorem mS_len (b : Bool) : (mS b).length ≤ 6 := by cases b <;> decide +kernel
theorem part_ptx (b : Bool) (xs : List Stp) : Txt.partition (ptx (mS b) xs) (Str.ofString " ") = (mS b, Str.ofString " ", Str.join (Str.ofString "; ") (xs.map sx)) := by
  rw [sep_eq]
  have e : (ptx (mS b) xs).cps.toList = (mS b).cps.toList ++ 32 :: (Str.join (Str.ofString "; ") (xs.map sx)).cps.toList := by
    unfold ptx
    rw [sep_eq]
    show (((mS b).cps ++ #[32]) ++ (Str.join (Str.ofString "; ") (xs.map sx)).cps).toList = _
    rw [Array.toList_append, Array.toList_append]
    simp
  rw [part_at e (mS_32 b)]
section
variable (CP : Addr) (CW : Wd → Addr)
def spPInit : Sp := fun vs H Q _ => ∃ l dx m q us, vs = [.ref l, .str m, .ref q] ∧ H l = some (.ins CP dx []) ∧ H q = some (.lst us) ∧ ∀ sl tp H', H' l = some (.ins CP dx (pf m sl tp)) → H' sl = some (.lst us) → H' tp = some (.tup us) → H sl = none → H tp = none → Kp l H H' → Q .non H'
def spRPart : Sp := fun vs H Q _ => ∃ x k, vs = [.str (sx x), .int k] ∧ Ar x.1 x.2 ∧ ∀ v H', Same H H' → StO CW H' x.1 x.2 v → Q v H'
def spRPact : Sp := fun vs H Q _ => ∃ b xs, vs = [.str (ptx (mS b) xs)] ∧ ArS xs ∧ xs ≠ [] ∧ xs.length ≤ 12 ∧ ∀ a dx sl tp us H', Same H H' → H sl = none → PaU CP CW H' (mS b) xs a dx sl tp us → Q (.ref a) H'
def hvI : V → Option Int
  | .int i => some i
  | _ => none
def turnOf (xs : List Stp) : Nat := xs.findIdx fun x => decide (x.1 = .give)
def spTurn : Sp := fun vs H Q _ => ∃ v b xs, vs = [v] ∧ PaO CP CW H (mS b) xs v ∧ xs.length ≤ 20 ∧ Q (.int (turnOf xs : Nat)) H
end
end St
namespace L2
open PySem PySem.Spec PyProof.Rows
set_option maxHeartbeats 1600000 in
theorem ps_lcset {X : Cx} {iy : Nat} {y : Str} {py spos : Pos} {elt iter : Expr} {x : Str} {px : Pos} {ifs : List Expr} {scope : Scope} {pos : Pos} {N' : List Str} {fv : List Nat} {wi : TI} {tt : TT} {te : TE}
    (S : BlkScope X.N X.env.scope scope x N' fv) (hc : X.calm = true) (hi : PI X (.Name x px) iter wi)
    (ht : ∀ C fp s H, PTs (X.blk N' scope C fp s H) ifs tt) (he : ∀ C fp s H, PE (X.blk N' scope C fp s H) elt te)
    (hN : X.N.Nodup) (hiy : X.N[iy]? = some y) (hxl : Loc X.env.scope y) (hsw : swapsWith (.ListComp elt [⟨.Name x px, iter, ifs, 0⟩] scope pos) (some (.Name y py)) spos.line X.env = pure true := by rfl)
    (hs : ∀ x, foldedSetIterable iter X.env x = pure x := by intro _; rfl) (hf : X.fn y = true ∨ X.env.scope.names.lookup y = some .local := by first | exact .inl rfl | exact .inr rfl | assumption) :
    PS X (.Assign [.Name y py] (.ListComp elt [⟨.Name x px, iter, ifs, 0⟩] scope pos) spos) (tAsg (tLC wi fv tt te) (gName iy)) := by
  intro pins s σ H DE I h
  rw [exec_Assign_Name_used _ _ _ _ hsw]
  refine wpAny_bind (wpAny_standAt (wpAny_bind ?_))
  show wpAny _ X.A (do let _ ← comprehension (.ListComp elt [⟨.Name x px, iter, ifs, 0⟩] scope pos) scope X.env _ (newList []) false (eval iter X.env) (some (assign (.Name y py) X.env))) _ _ s
  refine wpAny_bind (wpAny_mono (wpAny_comprehension_free (use := some (assign (.Name y py) X.env)) (Q := fun _ s' => SP X pins DE .next s') rfl hs (closureFor_free fun y hy hk => I.ok.has y.1 (S.free y hy hk)) S.kind S.names
    (wpAny_mono (hi pins s σ H _ I h) (fun xv s1 h1 => wpAny_mono h1 (fun itv s2 h2 => ?_) fun _ _ e => e) fun _ _ e => e)) (fun _ s' hq => wpAny_pure (wpAny_pure hq)) fun _ _ e => e)
  obtain ⟨it, fp, tn, J, H2, rfl, I2, T, st2, f2, W, n, w0, hn, turn⟩ := h2
  refine wpAny_newObj_type (wpAny_newFunctionEnv S.nocell (by intro y hy; simp at hy) (fun h1 hns hsb => ?_) S.kind)
  dsimp only at hns hsb ⊢
  generalize hH : s2.heap.push { cls := .type "list", dict := none, data := .seq ([] : List Value).toArray } = G at hns hsb ⊢
  have hG : G.objs.size = s2.heap.objs.size + 1 := by rw [← hH, Heap.size_push]
  have kpG : ∀ b o, s2.heap.get? b = some o → G.get? b = some o := fun b o e => hH ▸ Heap.get?_push_of_some _ e
  have kp1 : ∀ b o, b < G.objs.size → G.get? b = some o → h1.get? b = some o := fun b o lt e => hsb.extBut b o (Nat.ne_of_lt lt) (Heap.get?_push_of_some _ e)
  have kp : ∀ b o, s2.heap.get? b = some o → h1.get? b = some o := fun b o e => kp1 b o (by rw [hG]; exact Nat.lt_succ_of_lt (Heap.lt_size e)) (kpG b o e)
  have hD : h1.PlainList s2.heap.objs.size #[] := ⟨_, kp1 _ _ (by rw [hG]; exact Nat.lt_succ_self _) (hH ▸ Heap.get?_push_size _ rfl)⟩
  have hDC : s2.heap.objs.size ≠ G.objs.size := by rw [hG]; exact Nat.ne_of_lt (Nat.lt_succ_self _)
  have hC : s2.heap.objs.size ≤ G.objs.size := by rw [hG]; exact Nat.le_succ _
  have hfo : ∀ b ∈ fp, b < s2.heap.objs.size := fun b hb => by obtain ⟨o, e, _⟩ := T.obj 0 _ st2 b hb; exact Heap.lt_size e
  have stat : ∀ {H' : Hp} {pl : List (Addr × Obj)}, (∀ b ∈ fp, H' b = none) → (∀ p ∈ pl, p.1 ∉ fp) → ∀ b ∈ fp, FpOk (X.blk N' scope G.objs.size fp s2 H2) pl H' b := fun {H' pl} hn hpl b hb => by
    obtain ⟨_, g1, g2, g3, g4, g5⟩ := f2 b hb
    refine ⟨hn b hb, Nat.ne_of_lt (Nat.lt_of_lt_of_le (hfo b hb) hC), fun z => ?_, .inl hb, fun y c e => g4 y c (cloOf_lookup_sub e), fun p hp e => ?_⟩
    · rcases List.mem_cons.mp (I2.stkSub b z) with q | q
      · exact g1 q
      · exact g2 q
    · exact hpl p hp (e ▸ hb)
  have hDf : s2.heap.objs.size ∉ fp := fun z => absurd (hfo _ z) (Nat.lt_irrefl _)
  have hlc : (X.blk N' scope G.objs.size fp s2 H2).env.scope.names.lookup x = some .local := lookup_relabel_local S.loc
  have hcl : ∀ y c, (X.blk N' scope G.objs.size fp s2 H2).env.cells.lookup y = some c → c ≠ s2.heap.objs.size := fun y c e z => by
    obtain ⟨v, q⟩ := I2.cell y c (cloOf_lookup_sub e)
    exact absurd q.lt (by rw [z]; exact Nat.lt_irrefl _)
  have pin1 : ∀ {s' : Shared} {H' : Hp} {ob : Obj} {i : Nat} {ys : List V}, Inv (X.blk N' scope G.objs.size fp s2 H2) [] (none :: blkVals fv σ) H' s' → s'.heap.get? s2.heap.objs.size = some ob → (∀ v, ob.data ≠ .cell v) → H' s2.heap.objs.size = none →
      Inv (X.blk N' scope G.objs.size fp s2 H2) [(s2.heap.objs.size, ob)] (none :: blkVals fv σ) H' s' := fun {s' H' ob i ys} J1 e d f => J1.pins_of fun p hp => by
    have z : p = (s2.heap.objs.size, ob) := by simpa using hp
    subst z
    refine ⟨e, f, hDC, fun z => ?_, d⟩
    rcases List.mem_cons.mp (I2.stkSub _ z) with q | q
    · exact absurd I2.lt (by rw [← q]; exact Nat.lt_irrefl _)
    · exact I2.nofs (Nat.le_refl _) q
  have loop : ∀ s3 : Shared, s3 = { s2 with heap := h1, toks := s2.toks + ([] : List (Str × Value)).length } →
      codeAny (model X.prog X.w) X.A (.compLoop (.ListComp elt [⟨.Name x px, iter, ifs, 0⟩] scope pos) 0 (.ref it) (.ref s2.heap.objs.size) (X.blk N' scope G.objs.size fp s2 H2).env)
        (compPost (model X.prog X.w) X.A X.xe (some (assign (.Name y py) X.env)) (fun _ s' => SP X pins DE .next s') (.ref s2.heap.objs.size) G.objs.size) s3 := by
    rintro s3 rfl
    refine codeAny_compLoop_tests (fun k s' => ∃ i ys H' its, k = n + 1 - i ∧ i ≤ n ∧ ys.length ≤ i ∧ Vals ys its ∧ s'.heap.PlainList s2.heap.objs.size its.toArray ∧
      Inv (X.blk N' scope G.objs.size fp s2 H2) [] (none :: blkVals fv σ) H' s' ∧ H' s2.heap.objs.size = none ∧ tn i s'.heap ∧ (∀ b ∈ fp, H' b = none) ∧ W i ys H') ?_ (n + 1)
      ⟨0, [], H2, [], rfl, Nat.zero_le _, Nat.le_refl _, .nil, hD, blk_inv S I2 f2 hfo hC kp hns (fun p hp => nomatch hp), I2.hok.fresh (Nat.le_refl _), T.keep _ _ _ st2 fun b _ o e => kp b o e, fun b hb => (f2 b hb).1, w0⟩
    rintro k s4 ⟨i, ys, H4, its, rfl, hin, hyi, rv, pl4, I4, fD4, st4, ff4, w4⟩
    obtain ⟨cnt, eD⟩ := id pl4
    have I4p := pin1 (i := i) (ys := ys) I4 eD (fun v z => by cases z) fD4
    have np : ∀ p ∈ [(s2.heap.objs.size, ({ cls := .type "list", data := .seq its.toArray cnt } : Obj))], p.1 ∉ fp := fun p hp => by
      have z : p = (s2.heap.objs.size, ({ cls := .type "list", data := .seq its.toArray cnt } : Obj)) := by simpa using hp
      subst z; exact hDf
    rcases turn i ys H4 w4 with ⟨stop, fin⟩ | ⟨go, hi2, step⟩
    · refine wpAny_mono (T.done (X.blk N' scope G.objs.size fp s2 H2) rfl rfl rfl hc i _ s4 _ H4 _ I4p (stat ff4 np) st4 stop) (fun r s5 ⟨hr, I5⟩ => ?_) fun _ _ e => e
      subst hr
      obtain ⟨m5, hm5, _⟩ := I5.loc
      have eD5 : s5.heap.get? s2.heap.objs.size = some { cls := .type "list", data := .seq its.toArray cnt } := (I5.pin _ (List.mem_append_right _ List.mem_cons_self)).1
      have IF : Inv X pins σ (upd H4 s2.heap.objs.size (.lst ys)) s5 := by
        have sb : Heap.SameBut G.objs.size s5.heap s5.heap := ⟨rfl, fun _ _ => rfl⟩
        have ltC : ∀ {b : Addr} {o : Obj}, s2.heap.get? b = some o → b ≠ G.objs.size := fun {b o} e => Nat.ne_of_lt (Nat.lt_of_lt_of_le (Heap.lt_size e) hC)
        have fD2 : H2 s2.heap.objs.size = none := I2.hok.fresh (Nat.le_refl _)
        have ltD : ∀ {b : Addr} {o : Obj}, s2.heap.get? b = some o → b ≠ s2.heap.objs.size := fun {b o} e => Nat.ne_of_lt (Heap.lt_size e)
        have B := I5.base
        refine I2.call' (s' := s5) (ch := fp) I5.os ⟨fun b o e nb hb hx => ?_, fun b o e nb hb hx => ?_, fun b o e nb hx => ?_, fun b o e hx => ?_, fun b xs e => ?_, fun b o u e => ?_, fun b ps e => ?_⟩ ?_ I5.bare fun b hb => ?_
        · exact sb.extBut b o (ltC e) (B.keep b o e nb hb hx)
        · obtain ⟨sl, q⟩ := B.slot b o e nb hb hx
          exact ⟨sl, sb.extBut b _ (ltC e) q⟩
        · rw [upd_ne (ltD e)]; exact B.free b o e nb hx
        · obtain ⟨o', q⟩ := B.there b o e hx
          exact ⟨o', sb.extBut b o' (ltC e) q⟩
        · have e' : H2 b = some (.tup xs) := e
          rw [upd_ne (ne_of_none e' fD2)]; exact B.tups b xs e
        · have e' : H2 b = some (.frz o u) := e
          rw [upd_ne (ne_of_none e' fD2)]; exact B.frzs b o u e
        · have e' : H2 b = some (.tbl ps) := e
          rw [upd_ne (ne_of_none e' fD2)]; exact B.tbls b ps e
        · intro b u e
          by_cases hb : b = s2.heap.objs.size
          · subst hb
            rw [upd_same] at e
            cases e
            exact ⟨Nat.le_trans hyi (Nat.le_trans hin hn), its, cnt, rv, sb.extBut _ _ hDC eD5⟩
          · rw [upd_ne hb] at e
            have fC : H4 G.objs.size = none := I5.free
            refine (I5.hok b u e).stay (fun c v hc' q => sb.extBut c v ?_ q) (fun c q => by rw [upd_ne (ne_of_none q fD4)]; exact q) fun c xs q => by rw [upd_ne (ne_of_none q fD4)]; exact q
            rcases hc' with z | z
            · subst z; exact ne_of_none e fC
            · exact ne_of_none z fC
        · obtain ⟨_, g1, g2, g3, g4, g5⟩ := f2 b hb
          exact ⟨g3, g1, g4, g5⟩
      obtain ⟨f0, f1, f2', f3, f4, f5⟩ := I2.fpOk (H' := H2) hC (I2.hok.fresh hC)
      show wpAny _ _ (assign (.Name y py) X.env (.ref s2.heap.objs.size)) _ _ s5
      refine wpAny_assign_Name (store_ok2 IF hN hiy hxl (v := .ref s2.heap.objs.size) rfl (fun s6 I6 ⟨a6, sb6, ha6⟩ => ?_) hf)
      have nC : G.objs.size ≠ a6 := fun z => by
        rcases ha6 with e | e
        · exact f1 (z.trans e)
        · exact f4 _ _ e z.symm
      have fC : (upd H4 s2.heap.objs.size (.lst ys)) G.objs.size = none := by
        rw [upd_ne (Ne.symm hDC)]
        exact I5.free
      exact ⟨m5, hm5.sameBut sb6 nC, fun h' sb' => ⟨_, _, I6.turned (t' := s6.toks) (it := G.objs.size) (fun b o hb e => (sb'.2 b hb).trans e) fC f1 f3 f4 f5, fin _ fD4⟩⟩
    · refine wpAny_mono (T.item (X.blk N' scope G.objs.size fp s2 H2) rfl rfl rfl hc i _ s4 _ H4 _ I4p (stat ff4 np) st4 go) (fun r s5 ⟨u, hr, h5⟩ => ?_) fun _ _ e => e
      subst hr
      show wpAny _ _ (letOwnedTupleGo (.Name x px) (.ref it) u >>= fun _ => assign (.Name x px) (X.blk N' scope G.objs.size fp s2 H2).env u) _ _ s5
      refine wpAny_bind (wpAny_mono h5 (fun _ s6 ⟨xv, H6, I6, r6, y6, st6, ff6⟩ => ?_) fun _ _ e => e)
      have I6' := I6.pinned (stat ff6 np) (T.obj _ _ st6)
      have out : ∀ {σ' : St} {H' : Hp} {s' : Shared}, Inv (X.blk N' scope G.objs.size fp s2 H2) ([(s2.heap.objs.size, ({ cls := .type "list", data := .seq its.toArray cnt } : Obj))] ++ pinsAt fp s6.heap) σ' H' s' →
          s'.heap.PlainList s2.heap.objs.size its.toArray ∧ H' s2.heap.objs.size = none ∧ (∀ b ∈ fp, H' b = none) ∧ (∀ b ∈ fp, ∀ o, s6.heap.get? b = some o → s'.heap.get? b = some o) := fun {σ' H' s'} J1 => by
        have q := J1.pin (s2.heap.objs.size, ({ cls := .type "list", data := .seq its.toArray cnt } : Obj)) (List.mem_append_right _ (List.mem_append_left _ List.mem_cons_self))
        refine ⟨⟨cnt, q.1⟩, q.2.1, fun b hb => ?_, fun b hb o e => (J1.pin (b, o) (List.mem_append_right _ (List.mem_append_right _ (mem_pinsAt hb e)))).1⟩
        obtain ⟨o, e, d⟩ := T.obj _ _ st6 b hb
        exact (J1.pin (b, o) (List.mem_append_right _ (List.mem_append_right _ (mem_pinsAt hb e)))).2.1
      refine nox ((pg_name (X := X.blk N' scope G.objs.size fp s2 H2) (i := 0) S.nd S.hd (.inl hlc) (.inr hlc)) _ s6 _ H6 xv u (fun σ' H' => σ' = some xv :: blkVals fv σ ∧ H' = H6) I6' r6 ⟨rfl, rfl⟩) fun _ s7 ⟨σ7, H7, I7, e7, e7'⟩ => ?_
      subst e7 e7'
      refine nox (ht _ _ _ _ _ s7 _ H7 _ I7 (step xv H7 y6)) fun ok s8 ⟨H8, I8, q8⟩ => ?_
      cases ok with
      | false =>
        obtain ⟨o1, o2, o3, o4⟩ := out I8
        exact ⟨n + 1 - (i + 1), by omega, i + 1, ys, H8, its, rfl, hi2, Nat.le_succ_of_le hyi, rv, o1, (I8.pins_of (pins' := []) fun p hp => nomatch hp).weak (σ' := none :: blkVals fv σ) rfl (fun j v e => by
          cases j with
          | zero => cases (show (none : Option V) = some v from Option.some.inj e)
          | succ j => exact e), o2, T.keep _ _ _ st6 o4, o3, q8⟩
      | true =>
        refine nox (he _ _ _ _ _ s8 _ H8 _ I8 q8) fun yv s9 ⟨y, H9, I9, r9, q9⟩ => ?_
        obtain ⟨o1, o2, o3, o4⟩ := out I9
        have hlen := rv.length
        refine wpAny_list_append_plain (hsz := by rw [List.size_toArray, ← hlen]; exact Nat.le_trans hyi (Nat.le_trans hin hn)) o1 fun h' pl' sb' => ?_
        have I9' : Inv (X.blk N' scope G.objs.size fp s2 H2) [] (some xv :: blkVals fv σ) H9 { s9 with heap := h' } :=
          (I9.pins_of (pins' := []) fun p hp => nomatch hp).turned (t' := s9.toks) (it := s2.heap.objs.size) (fun b o hb e => sb'.extBut b o hb e) o2 hDC (.inr (Nat.le_refl _)) hcl (fun p hp => nomatch hp)
        refine ⟨n + 1 - (i + 1), by omega, i + 1, ys ++ [y], H9, its ++ [yv], rfl, hi2, by rw [List.length_append]; exact Nat.succ_le_succ hyi, rv.append (.cons r9 .nil), ?_, I9'.weak (σ' := none :: blkVals fv σ) rfl (fun j v e => by
          cases j with
          | zero => cases (show (none : Option V) = some v from Option.some.inj e)
          | succ j => exact e), o2, T.keep _ _ _ st6 fun b hb o e => sb'.extBut b o (fun z => hDf (z ▸ hb)) (o4 b hb o e), o3, q9⟩
        have e9 : (its ++ [yv]).toArray = its.toArray.push yv := by simp
        rw [e9]
        exact pl'
  exact codeAny_compStart_list (loop _ rfl) (T.self _ 0 _ _ _ (T.keep _ _ _ st2 fun b _ o e => kp b o e) (loop _ rfl))
end L2
namespace XA
open PySem
def KD (od : Option Addr) (e : Addr) (h : Heap) : Prop := ∃ o, h.get? e = some o ∧ o.dict = od
theorem dict_mapF (o : Obj) (f) : (o.mapFields f).dict = o.dict := by
  unfold Obj.mapFields
  split <;> rfl
def tbO (head : Value) (L : Addr) (pl : List Value) : Obj :=
  { cls := .type "traceback", dict := none,
    data := .fields ([head, .ref L, .none, rawInt L, .none] ++ (if pl.isEmpty then List.replicate 6 Value.none else pl)).toArray }
section
variable {M : Model} {A : Around} {E : Value → Shared → Prop} {s : Shared} {base : Heap} {env : Env} {outer : List Env} {L e : Addr} {od : Option Addr} {cls a0 : Value}
theorem entryD {oe : Obj} {vs : Array Value} {head : Value} {hadNext : Bool} {Q : Unit → Shared → Prop} (hfr : A.frames = some (env :: outer))
    (hl : s.heap.FunFrames base (env :: outer)) (hf : env.frame = some L) (he : s.heap.get? e = some oe) (ho : oe.dict = od) (hkb : base.StaysIn s.heap)
    (hen : base.get? e = none) (hd : oe.data = .fields vs) (hsz : 1 < vs.size) (h0 : vs[0]? = some a0)
    (k : ∀ h', Heap.NotedW base (env :: outer) e oe.cls a0 (rawInt L) s.heap h' → KD od e h' → Q () { s with heap := h' }) :
    wpAny M A (do let a ← frameOf env; let pl ← entryPlaceOf L hadNext; let b ← EntryCells.newEntry head a .none (rawInt L) .none pl; setField (.ref e) 1 b) Q E s := by
  have ne : e ∉ (env :: outer).filterMap (·.frame) := fun z => by
    obtain ⟨_, o, q, nf⟩ := hl.mem z
    rw [he] at q; injection q with q; subst q; exact nf vs hd
  refine wpAny_bind (wpAny_frameOf_fun hfr hl hf fun g hg => wpAny_bind (wpAny_entryPlaceOf fun pl hpl => ?_))
  unfold EntryCells.newEntry newFields
  refine wpAny_bind (wpAny_newObj_type ?_ (hpl.sizeOk5 _ _ _ _ _))
  have e1 : g.get? e = some oe := (hg.2.1 e ne).trans he
  have k1 : base.StaysIn g := fun b o q => (hg.2.1 b fun z => by rw [(hl.mem z).1] at q; cases q).trans (hkb b o q)
  have e2 := Heap.get?_push_of_some (h := g) (tbO head L pl) e1
  refine wpAny_setField e2 hd hsz ?_
  have Te : g.objs.size ≠ e := Nat.ne_of_gt (Heap.lt_size e1)
  have d3 := Obj.data_mapFields hd (·.setIfInBounds 1 (Value.ref g.objs.size))
  have e3 := Heap.get?_update_self (Obj.mapFields (·.setIfInBounds 1 (Value.ref g.objs.size))) e2 (Obj.isFreed_of_fields d3)
  have T3 := (Heap.get?_update_other (g.push (tbO head L pl)) (Obj.mapFields (·.setIfInBounds 1 (Value.ref g.objs.size))) (Ne.symm Te)).trans (Heap.get?_push_size g rfl)
  have kp : ∀ b o, b ≠ e → g.get? b = some o → ((g.push (tbO head L pl)).update e (Obj.mapFields (·.setIfInBounds 1 (Value.ref g.objs.size)))).get? b = some o := fun b o n q => by
    rw [Heap.get?_update_other _ _ (Ne.symm n)]
    exact Heap.get?_push_of_some _ q
  have nr : ∀ b o, s.heap.get? b = some o → (∀ vs, o.data ≠ .fields vs) → b ≠ e := fun b o q nf z => by
    rw [z, he] at q; injection q with q; subst q; exact nf vs hd
  refine k _ ⟨fun b o q => kp b o (fun z => by rw [z, hen] at q; cases q) (k1 b o q), hl.of_keeps fun b o q nf => ?_, ?_, fun b o q nf => ?_⟩ ⟨_, e3, (dict_mapF _ _).trans ho⟩
  · obtain ⟨sl, z⟩ := hg.2.2 b o q
    exact ⟨_, kp b _ (nr b o q nf) z, rfl⟩
  · refine ⟨_, _, g.objs.size, _, _, e3, ⟨Obj.cls_mapFields _ _, ?_⟩, d3, by simp [hsz], k1.fresh, Te, T3, rfl, ?_⟩
    · rw [Array.getElem?_setIfInBounds_ne (by decide)]; exact h0
    · first | (simp; done) | (rcases hpl with rfl | ⟨_, _, _, _, _, _, _, rfl⟩ <;> simp)
  · obtain ⟨sl, z⟩ := hg.2.2 b o q
    exact ⟨sl, kp b _ (nr b o q nf) z⟩
theorem note1D {oe : Obj} {vs : Array Value} {Q : Unit → Shared → Prop} (hfr : A.frames = some (env :: outer)) (hl : s.heap.FunFrames base (env :: outer)) (hf : env.frame = some L)
    (he : s.heap.get? e = some oe) (ho : oe.dict = od) (hkb : base.StaysIn s.heap) (hen : base.get? e = none) (hd : oe.data = .fields vs) (h1 : vs[1]? = some .none) (h0 : vs[0]? = some a0)
    (k : ∀ h', Heap.NotedW base (env :: outer) e oe.cls a0 (rawInt L) s.heap h' → KD od e h' → Q () { s with heap := h' }) : wpAny M A (noteFrame (.ref e) env) Q E s := by
  unfold noteFrame
  simp only [hf]
  refine wpAny_bind (wpAny_field he hd h1 ?_)
  rw [if_neg (by decide)]
  exact entryD hfr hl hf he ho hkb hen hd (Array.getElem?_eq_some_iff.mp h1).1 h0 k
theorem noteD {Q : Unit → Shared → Prop} (hfr : A.frames = some (env :: outer)) (hl : s.heap.FunFrames base (env :: outer)) (hf : env.frame = some L) (ht : s.heap.TracedW base e cls a0) (kd : KD od e s.heap) (hkb : base.StaysIn s.heap) (hen : base.get? e = none)
    (k : ∀ h', Heap.NotedW base (env :: outer) e cls a0 (rawInt L) s.heap h' → KD od e h' → Q () { s with heap := h' }) : wpAny M A (noteFrame (.ref e) env) Q E s := by
  obtain ⟨oe, vs, T, oT, ts, he, ⟨rfl, h0⟩, hd, h1, hnT, hTe, hT, hdT, h3⟩ := ht
  obtain ⟨o2, z2, ho⟩ := kd
  rw [he] at z2; cases z2
  unfold noteFrame
  simp only [hf]
  refine wpAny_bind (wpAny_field he hd h1 ?_)
  rw [if_pos (show (Value.ref T != Value.none) = true from by simp)]
  refine wpAny_bind (wpAny_field hT hdT h3 ?_)
  rw [if_neg (show ¬ ((Value.none == rawInt L) = true) from by simp [rawInt])]
  refine wpAny_bind (wpAny_setField hT hdT (Array.getElem?_eq_some_iff.mp h3).1 ?_)
  have ot : ∀ b, b ≠ T → (s.heap.update T (Obj.mapFields (·.setIfInBounds 3 Value.none))).get? b = s.heap.get? b := fun b n => Heap.get?_update_other _ _ (Ne.symm n)
  have nr : ∀ b o, s.heap.get? b = some o → (∀ vs, o.data ≠ .fields vs) → b ≠ T := fun b o q nf z => by
    rw [z, hT] at q; injection q with q; subst q; exact nf ts hdT
  refine entryD hfr (hl.of_keeps fun b o q nf => ⟨o, (ot b (nr b o q nf)).trans q, rfl⟩) hf ((ot e (Ne.symm hTe)).trans he) ho
    (fun b o q => (ot b fun z => by rw [z, hnT] at q; cases q).trans (hkb b o q)) hen hd (Array.getElem?_eq_some_iff.mp h1).1 h0 fun h' ⟨x1, x2, x3, x4⟩ => k h' ⟨x1, x2, x3, fun b o q nf => x4 b o ((ot b (nr b o q nf)).trans q) nf⟩
theorem flightD {l : List Env} {fl : Value} {Q : Unit → Shared → Prop} (hkb : base.StaysIn s.heap) (hl : s.heap.FunFrames base l) (ht : s.heap.TracedAtW base e cls a0 fl) (kd : KD od e s.heap)
    (k : ∀ h', base.StaysIn h' → h'.FunFrames base l → h'.TracedW base e cls a0 → KD od e h' → (∀ b o, s.heap.get? b = some o → (∀ vs, o.data ≠ .fields vs) → h'.get? b = some o) → Q () { s with heap := h' }) :
    wpAny M A (setFlight (.ref e) none) Q E s := by
  obtain ⟨oe, vs, T, oT, ts, he, hcls, hd, h1, hnT, hTe, hT, hdT, h3⟩ := ht
  obtain ⟨o2, z2, ho⟩ := kd
  rw [he] at z2; cases z2
  have h3' : 3 < ts.size := (Array.getElem?_eq_some_iff.mp h3).1
  have ot : ∀ b, b ≠ T → (s.heap.update T (Obj.mapFields (·.setIfInBounds 3 ((none : Option Addr).elim Value.none fun f => rawInt f)))).get? b = s.heap.get? b := fun b n => Heap.get?_update_other _ _ (Ne.symm n)
  have nr : ∀ b o, s.heap.get? b = some o → (∀ vs, o.data ≠ .fields vs) → b ≠ T := fun b o q nf z => by
    rw [z, hT] at q; injection q with q; subst q; exact nf ts hdT
  unfold setFlight
  refine wpAny_bind (wpAny_field he hd h1 ?_)
  rw [if_pos (show (Value.ref T != Value.none) = true from by simp)]
  have ee := (ot e (Ne.symm hTe)).trans he
  refine wpAny_setField hT hdT h3' (k _ (fun b o q => (ot b fun z => by rw [z, hnT] at q; cases q).trans (hkb b o q)) (hl.of_keeps fun b o q nf => ⟨o, (ot b (nr b o q nf)).trans q, rfl⟩) ?_ ⟨oe, ee, ho⟩ fun b o q nf => (ot b (nr b o q nf)).trans q)
  exact ⟨oe, vs, T, _, _, ee, hcls, hd, h1, hnT, hTe, Heap.get?_update_self _ hT (Obj.isFreed_of_fields (Obj.data_mapFields hdT _)), Obj.data_mapFields hdT _, by simp [h3']⟩
def FlyD (base : Heap) (l : List Env) (e : Addr) (cls a0 : Value) (od : Option Addr) (h : Heap) : Prop := Heap.FlyingW base l e cls a0 h ∧ KD od e h
def HeldD (base : Heap) (l : List Env) (e : Addr) (cls a0 : Value) (od : Option Addr) (L : Addr) (h : Heap) : Prop := Heap.HeldW base l e cls a0 L h ∧ KD od e h
theorem looksD {Q : Unit → Shared → Prop} (hfr : A.frames = some (env :: outer)) (hf : env.frame = some L) (fl : FlyD base (env :: outer) e cls a0 od s.heap)
    (k : ∀ h', HeldD base (env :: outer) e cls a0 od L h' → s.heap.UpToSlots h' → Q () { s with heap := h' }) : wpAny M A (noteFrame (.ref e) env) Q E s := by
  obtain ⟨⟨f1, f2, f3, f4⟩, kd⟩ := fl
  exact noteD hfr f3 hf f4 kd f1 f2 fun h' ⟨k1, k2, k3, k4⟩ z => k h' ⟨⟨k1, f2, k2, k3⟩, z⟩ k4
theorem landsD {l : List Env} {Q : Unit → Shared → Prop} (hh : HeldD base l e cls a0 od L s.heap) (k : ∀ h', FlyD base l e cls a0 od h' → s.heap.UpToSlots h' → Q () { s with heap := h' }) : wpAny M A (setFlight (.ref e) none) Q E s := by
  obtain ⟨⟨f1, f2, f3, f4⟩, kd⟩ := hh
  exact flightD f1 f3 f4 kd fun h' k1 k2 k3 k4 k5 => k h' ⟨⟨k1, f2, k2, k3⟩, k4⟩ fun b o q nf => ⟨o.slots, k5 b o q nf⟩
theorem againD {l : List Env} {Q : Unit → Shared → Prop} (hh : FlyD base l e cls a0 od s.heap) (k : ∀ h', FlyD base l e cls a0 od h' → s.heap.UpToSlots h' → Q () { s with heap := h' }) : wpAny M A (setFlight (.ref e) none) Q E s := by
  obtain ⟨⟨f1, f2, f3, f4⟩, kd⟩ := hh
  exact flightD f1 f3 f4.at kd fun h' k1 k2 k3 k4 k5 => k h' ⟨⟨k1, f2, k2, k3⟩, k4⟩ fun b o q nf => ⟨o.slots, k5 b o q nf⟩
theorem leavesD {Q : Unit → Shared → Prop} (hfr : A.frames = some (env :: outer)) (hf : env.frame = some L) (fl : FlyD base (env :: outer) e cls a0 od s.heap)
    (k : ∀ h', FlyD base outer e cls a0 od h' → s.heap.UpToSlots h' → Q () { s with heap := h' }) : wpAny M A (leaving env (.ref e)) Q E s := by
  unfold leaving
  refine wpAny_bind (looksD hfr hf fl fun h1 hh u1 => landsD hh fun h2 ⟨⟨k1, k2, ⟨_, _, k3⟩, k4⟩, k5⟩ u2 => k h2 ⟨⟨k1, k2, k3, k4⟩, k5⟩ (u1.trans u2))
theorem leaves1D {oe : Obj} {vs : Array Value} {Q : Unit → Shared → Prop} (hfr : A.frames = some (env :: outer)) (hf : env.frame = some L) (hl : s.heap.FunFrames base (env :: outer))
    (he : s.heap.get? e = some oe) (ho : oe.dict = od) (hkb : base.StaysIn s.heap) (hen : base.get? e = none) (hd : oe.data = .fields vs) (h1 : vs[1]? = some .none) (h0 : vs[0]? = some a0)
    (k : ∀ h', FlyD base outer e oe.cls a0 od h' → s.heap.UpToSlots h' → Q () { s with heap := h' }) : wpAny M A (leaving env (.ref e)) Q E s := by
  unfold leaving
  refine wpAny_bind (note1D hfr hl hf he ho hkb hen hd h1 h0 fun h1 ⟨k1, k2, k3, k4⟩ kd => ?_)
  exact landsD (L := L) (l := env :: outer) ⟨⟨k1, hen, k2, k3⟩, kd⟩ fun h2 ⟨⟨j1, j2, ⟨_, _, j3⟩, j4⟩, j5⟩ u2 => k h2 ⟨⟨j1, j2, j3, j4⟩, j5⟩ (Heap.UpToSlots.trans k4 u2)
end
end XA
namespace XA
open PySem
section
variable {prog : Program} {w : World} {A : Around} {E : Value → Shared → Prop} {h : Heap} {g : Array GenState} {d : Drawn} {t : Nat} {os : OsState}
variable {nm q : Str} {C N : Addr} {bs tl bmB : List Value} {hdct : Bool} {sn : List Str} {sub : List Value} {ab : Bool} {col : Option Bool} {dd : Option Addr} {k0 k1 k2 k3 k5 : Option Value} {B new init : String}
abbrev argsO (vs : List Value) : Obj := { cls := .type "tuple", data := .seq vs.toArray }
abbrev rawO (C : Addr) (od : Option Addr) (t : Addr) : Obj := { cls := .ref C, dict := od, data := .fields #[.ref t, .none, .none, .none, .bool false, .none] }
theorem type_callJ (FB : ExcBaseFacts B new init bmB) (T : OwnTail h bmB tl) {mN : Str → Option Value} {vs : List Value} {fI : Addr} {oI : Obj} {Q : Fin → Shared → Prop}
    (hC : h.get? C = some (excClassObj nm q C N bs tl hdct sn sub ab col dd k0 k1 k2 k3 k5 new)) (hN : h.Ns N mN) (hi : mN "__init__" = some (.ref fI)) (hf : h.get? fI = some oI) (hc : oI.cls = .type "function") (hl : vs.length ≤ sizeLine)
    (k : ∀ h' e, Heap.MadeExcOf h h' e (.ref C) vs → wpAny (model prog w) A (call (.ref fI) (.ref e :: vs)) (fun r s' => r = .none ∧ Q (.done (.ret (.ref e))) s') E ⟨h', g, d, t, os⟩) :
    wpAny (model prog w) A (Builtin.«type.__call__» ⟨.ref C :: vs, []⟩) Q E ⟨h, g, d, t, os⟩ := by
  repeat (first | with_reducible refine wpAny_loadPart_at hC ?_ | with_reducible refine wpAny_madeBy_exc hC ?_ | wp_step)
  refine codeAny_call_builtin_code (Code.quiet_builtin _ FB.quiet) (wpAny_check_new_subT FB T hC (codeAny_exc_new_subT FB T hC ?_ hl))
  show wpAny _ _ _ _ _ _
  have up : ∀ {b : Addr} {o : Obj}, h.get? b = some o → ((h.push (argsO vs)).push (rawO C none h.objs.size)).get? b = some o := fun e => Heap.get?_push_of_some _ (Heap.get?_push_of_some _ e)
  have C1 := up hC
  have N1 : ((h.push (argsO vs)).push (rawO C none h.objs.size)).Ns N mN := let ⟨o, es, ep, e, r⟩ := hN; ⟨o, es, ep, up e, r⟩
  have T1 : OwnTail ((h.push (argsO vs)).push (rawO C none h.objs.size)) bmB tl := T.keeps fun b o e => up e
  have X1 : ((h.push (argsO vs)).push (rawO C none h.objs.size)).get? (h.objs.size + 1) = some (rawO C none h.objs.size) := by heap_get
  have own : (Value.ref C :: tl).contains (.ref C) = true := by simp
  unfold isInstance
  repeat (first | with_reducible refine wpAny_loadPart_at X1 ?_ | (with_reducible refine wpAny_isSubtype_exc C1 ?_; rw [own]) | wp_step)
  show wpAny _ _ (typeLookup (.ref C) _) _ _ _
  refine wpAny_typeLookup_tail C1 N1 T1 FB.mroIs FB.init.lookup ?_
  rw [hi]
  refine wpAny_holding (wpAny_bind ?_)
  unfold bindSpecial
  refine wpAny_bind (wpAny_typeOf (T := "function") ⟨_, up hf, hc⟩ ?_)
  rw [if_pos (by decide)]
  have mk : Heap.MadeExcOf h ((h.push (argsO vs)).push (rawO C none h.objs.size)) (h.objs.size + 1) (.ref C) vs :=
    ⟨fun b o e => up e, Heap.get?_none_of_le (Nat.le_succ _), h.objs.size, X1, Heap.get?_none_of_le (Nat.le_refl _), Heap.get?_push_of_some _ (Heap.get?_push_at rfl rfl)⟩
  refine wpAny_pure (wpAny_bind (wpAny_mono (k _ _ mk) (fun r s' hr => ?_) fun _ _ z => z))
  obtain ⟨rfl, hQ⟩ := hr
  wp_walk
  exact hQ
theorem callJ (FB : ExcBaseFacts B new init bmB) (T : OwnTail h bmB tl) {mN : Str → Option Value} {vs : List Value} {fI : Addr} {oI : Obj} {Q : Value → Shared → Prop}
    (hC : h.get? C = some (excClassObj nm q C N bs tl hdct sn sub ab col dd k0 k1 k2 k3 k5 new)) (hN : h.Ns N mN) (hi : mN "__init__" = some (.ref fI)) (hf : h.get? fI = some oI) (hc : oI.cls = .type "function") (hl : vs.length ≤ sizeLine)
    (k : ∀ h' e, Heap.MadeExcOf h h' e (.ref C) vs → wpAny (model prog w) (A.under (.builtin "type.__call__" ⟨.ref C :: vs, []⟩)) (call (.ref fI) (.ref e :: vs)) (fun r s' => r = .none ∧ Q (.ref e) s') E ⟨h', g, d, t, os⟩) :
    wpAny (model prog w) A (call (.ref C) vs) Q E ⟨h, g, d, t, os⟩ := by
  have f1 := tc_lookup
  have f2 := tc_bind (.ref C)
  have hT : (⟨h, g, d, t, os⟩ : Shared).TypeIs (.ref C) "type" := ⟨_, hC, rfl⟩
  refine wpAny_call (codeAny_of_tree ?_)
  show wpAny _ _ (callAny (.ref C) _) _ _ _
  repeat (any_goals (first | assumption | with_reducible refine wpAny_loadPart_at hC ?_ | wp_step))
  exact ⟨rfl, codeAny_call_builtin_at (Code.quiet_builtin _ (by decide +kernel)) entry_typeCall (wpAny_check_type_call_sub hC (type_callJ FB T hC hN hi hf hc hl fun h' e hm => k h' e hm))⟩
end
section
variable {prog : Program} {w : World} {M : Model} {A : Around} {E : Value → Shared → Prop} {env : Env}
variable {nm q : Str} {C N : Addr} {bs tl : List Value} {hdct : Bool} {sn : List Str} {sub : List Value} {ab : Bool} {col : Option Bool} {dd : Option Addr} {k0 k1 k2 k3 k5 : Option Value} {new : String}
theorem raiseJ {s : Shared} {x : Sem Value} {Q : Flow → Shared → Prop} (hh : A.handled = none)
    (k : wpAny M A x (fun v s1 => ∃ e t od tl N nm q bs hdct sn sub ab col dd k0 k1 k2 k3 k5 new, v = .ref e ∧ s1.heap.get? C = some (excClassObj nm q C N bs tl hdct sn sub ab col dd k0 k1 k2 k3 k5 new) ∧ tl.contains (.type "BaseException") = true ∧
      s1.heap.get? e = some (rawO C od t) ∧ E (.ref e) s1) E s) : wpAny M A (raiseStmt env (some x) none) Q E s := by
  unfold raiseStmt
  refine wpAny_bind (wpAny_mono k (fun v s1 h1 => ?_) fun _ _ z => z)
  obtain ⟨e, t, od, tl, N, nm, q, bs, hdct, sn, sub, ab, col, dd, k0, k1, k2, k3, k5, new, rfl, hC, hb, he, hE⟩ := h1
  have hB : (Value.ref C :: tl).contains (.type "BaseException") = true := by rw [List.contains_cons, hb, Bool.or_true]
  obtain ⟨hp, g, d, tk, os⟩ := s1
  repeat (first | with_reducible refine wpAny_loadPart_at he ?_ | with_reducible refine wpAny_loadPart_at hC ?_ | (with_reducible refine wpAny_isSubtype_exc hC ?_; rw [hB]) | wp_step)
  exact wpAny_raiseNew_none hh hE
theorem exec_raiseJ {s : Shared} {e : Expr} {pos : Pos} {Q : Flow → Shared → Prop} (hh : A.handled = none)
    (k : wpAny (model prog w) A (eval e env) (fun v s1 => ∃ e t od tl N nm q bs hdct sn sub ab col dd k0 k1 k2 k3 k5 new, v = .ref e ∧ s1.heap.get? C = some (excClassObj nm q C N bs tl hdct sn sub ab col dd k0 k1 k2 k3 k5 new) ∧ tl.contains (.type "BaseException") = true ∧
      s1.heap.get? e = some (rawO C od t) ∧ E (.ref e) s1) E s) : wpAny (model prog w) A (exec (.Raise (some e) none pos) env) Q E s := by
  rw [arm_exec_Raise]
  first
    | refine wpAny_bind (wpAny_standAt (raiseJ (C := C) hh (wpAny_bind (wpAny_mono k (fun v s3 h3 => wpAny_bind (wpAny_standAt (wpAny_pure h3))) fun _ _ x => x))))
    | (simp only [evalOpt, Option.map]; refine wpAny_bind (wpAny_standAt (raiseJ (C := C) hh (wpAny_bind (wpAny_mono k (fun v s3 h3 => wpAny_bind (wpAny_standAt (wpAny_pure h3))) fun _ _ x => x)))))
    | (simp only [evalOpt, Option.map]; exact wpAny_bind (wpAny_standAt (raiseJ (C := C) hh k)))
    | exact wpAny_bind (wpAny_standAt (raiseJ (C := C) hh k))
end
abbrev bmX : List Value := [.type "ValueError", .type "Exception", .type "BaseException", .type "object"]
def mroX : List Value → Bool
  | .ref _ :: r => mroX r
  | l => l == bmX
theorem mroX_cases {v : Value} {r : List Value} (e : mroX (v :: r) = true) : (∃ c, v = .ref c ∧ mroX r = true) ∨ v :: r = bmX := by
  unfold mroX at e
  split at e
  · rename_i c r' z
    cases z
    exact .inl ⟨_, rfl, e⟩
  · exact .inr (beq_iff_eq.mp e)
theorem mroX_nil : mroX [] = false := by decide +kernel
theorem mroX_refuse (self : Value) : ∀ {l : List Value}, mroX l = true → refuseLoop self "__setattr__" l = pure ()
  | [], e => by rw [mroX_nil] at e; cases e
  | v :: r, e => by
    rcases mroX_cases e with ⟨c, rfl, e2⟩ | z
    · rw [refuseLoop_ref]
      exact mroX_refuse self e2
    · rw [z]
      exact F.store_ValueError.passes self
theorem mroX_has {n : String} (hn : bmX.contains (.type n) = true) : ∀ {l : List Value}, mroX l = true → l.contains (.type n) = true
  | [], e => by rw [mroX_nil] at e; cases e
  | v :: r, e => by
    rcases mroX_cases e with ⟨c, rfl, e2⟩ | z
    · rw [List.contains_cons, mroX_has hn e2, Bool.or_true]
    · rw [z]; exact hn
end XA
namespace L2.XA
open PySem PySem.Spec PyProof.Rows _root_.XA PySem.Builtin PySem.Builtin.ObjectAttr
def clsX (K : PySem.W.Frag) (C : Addr) : Bool := (PySem.W.clsIn K C).any fun cd => mroX cd.mro && cd.hasDict
structure ClsX (K : PySem.W.Frag) (C : Addr) : Prop where
  cl : clsX K C = true
  sa : PySem.W.findIn K (.ref C) "__setattr__" = some (some (.builtin "object.__setattr__"))
  na : PySem.W.findIn K (.ref C) "at" = some none
  ek : ExcK K C
section
variable {prog : Program} {w : World} {A : Around} {E : Value → Shared → Prop} {s : Shared} {K : PySem.W.Frag} {x C : Addr} {v : Value}
theorem osaX {ox : Obj} {od : Option Obj} {name : Str} {tk : Tok} {R : Result → Shared → Prop} (X : K.In s.heap) (I : PySem.W.InstAt s.heap x ox C od) (hp : clsX K C = true) (ht : PySem.W.findIn K (.ref C) name = some none)
    (k : wpAny (model prog w) A.in1 (storeInOwnDict (.ref x) (.ref C) (.str name tk) name v false)
      (fun fin s' => match fin with | .done f => R (.ok f) s' | .again c' => c'.quiet = true ∧ codeAny (model prog w) A c' R s') (fun e s' => R (.error e) s') s) :
    codeAny (model prog w) A (.call (.builtin "object.__setattr__") ⟨[.ref x, .str name tk, v], []⟩) R s := by
  obtain ⟨cd, hc, q⟩ := PySem.W.any_some hp
  obtain ⟨hm, _⟩ := (Bool.and_eq_true _ _).mp q
  have ne : cd.mro.isEmpty = false := by
    cases z : cd.mro with
    | nil => rw [z, mroX_nil] at hm; cases hm
    | cons _ _ => rfl
  have sub : PySem.W.Looks (model prog w) s.heap (isInstance (.ref x) (.type "object")) true :=
    I.type.andThen (PySem.W.looks_mroIn X (by unfold PySem.W.mroIn; rw [hc, Option.bind_some, if_neg (by rw [ne]; decide), mroX_has (by decide +kernel) hm]))
  refine codeAny_call_builtin PySem.F.store_object.slot.plain PySem.F.store_object.entry (@PySem.W.check_slot (model prog w) _ _ s "object.__setattr__" "object" "__setattr__" (.ref x) [.str name tk, v] [] _ PySem.F.store_object.kind PySem.F.store_object.split sub (PySem.F.store_object.args (.ref x) (.str name tk) v) ?_)
  have mr : PySem.W.Looks (model prog w) s.heap (mroOf (.ref C)) cd.mro := (PySem.W.looks_clsIn X hc).andThen .now
  rw [PySem.W.osa_eq, refuse_eq]
  refine wpAny_bind (wpAny_bind (I.type.here (wpAny_bind (mr.here ?_))))
  rw [mroX_refuse _ hm]
  refine wpAny_pure (wpAny_bind (I.type.here (wpAny_bind ((PySem.W.looks_findIn X ht).here (wpAny_bind (wpAny_pure ?_))))))
  exact k
theorem setX {t : Addr} {Q : Unit → Shared → Prop} (X : K.In s.heap) (hx : s.heap.get? x = some (rawO C none t)) (c : ClsX K C)
    (k : ∀ h', h'.Ns1 s.heap.objs.size (fun y => if y = "at" then some v else none) → h'.get? x = some (rawO C (some s.heap.objs.size) t) → (∀ b ob, b ≠ x → s.heap.get? b = some ob → h'.get? b = some ob) → Q () { s with heap := h', toks := s.toks + 2 }) :
    wpAny (model prog w) A (setAttr (.ref x) "at" v) Q E s := by
  have J : PySem.W.InstAt s.heap x (rawO C none t) C none := ⟨hx, rfl, rfl, True.intro⟩
  refine PySem.W.set_plain X J c.sa (osaX (s := { s with toks := s.toks + 1 }) X J c.cl c.na ?_)
  obtain ⟨cd, hc, q⟩ := PySem.W.any_some c.cl
  obtain ⟨_, hd⟩ := (Bool.and_eq_true _ _).mp q
  have x1 : (s.heap.push PySem.W.emptyDict).get? x = some (rawO C none t) := Heap.get?_push_of_some _ hx
  have xs : x ≠ s.heap.objs.size := Nat.ne_of_lt (Heap.lt_size hx)
  refine wpAny_bind (wpAny_pure (wpAny_bind (wpAny_bind (wpAny_loadPart hx (wpAny_bind (PySem.W.Looks.here (s := { s with toks := s.toks + 1 }) (PySem.W.looks_clsIn X hc) ?_))))))
  rw [hd]
  refine wpAny_bind (wpAny_alloc (s := { s with toks := s.toks + 1 }) (wpAny_bind (wpAny_update x1 (wpAny_pure ?_))))
  have gx := Heap.get?_update_self (fun o : Obj => { o with dict := some s.heap.objs.size }) x1 rfl
  have gd : ((s.heap.push PySem.W.emptyDict).update x fun o => { o with dict := some s.heap.objs.size }).get? s.heap.objs.size = some PySem.W.emptyDict :=
    (Heap.get?_update_other _ _ xs).trans (Heap.get?_push_at rfl rfl)
  have nd : ((s.heap.push PySem.W.emptyDict).update x fun o => { o with dict := some s.heap.objs.size }).Ns s.heap.objs.size (fun _ => none) := ⟨_, #[], _, gd, rfl, fun e he => absurd he (by simp), fun _ => rfl⟩
  refine wpAny_bind (wpAny_pure (wpAny_bind ?_))
  refine wpAny_nsSet1 (Heap.Ns1.of_empty nd) fun h' n2 sb => ?_
  obtain ⟨oD, esD, epD, hoD, hdD, hcD⟩ := n2.count (PySem.Within.cons "at" v PySem.Within.nil)
  refine wpAny_bind (wpAny_lookBehind hoD (by rw [hdD]; exact pastItsLine_dict (Nat.le_trans hcD (by rw [List.length_cons, List.length_nil, sizeLine_eq]; omega))) ?_)
  refine wpAny_pure (k _ n2 ((sb.2 x xs).trans gx) fun b ob nb e => ?_)
  exact (sb.2 b (Nat.ne_of_lt (Heap.lt_size e))).trans ((Heap.get?_update_other _ _ (Ne.symm nb)).trans (Heap.get?_push_of_some _ e))
theorem getX {ox : Obj} {dx : Addr} {mA : Str → Option Value} {expr : Bool} {Q : Value → Shared → Prop} (X : K.In s.heap) (hx : s.heap.get? x = some ox) (hc : ox.cls = .ref C) (hn : PySem.W.notCls ox = true) (hd : ox.dict = some dx)
    (n : s.heap.Ns1 dx mA) (hv : mA "at" = some v) (hh : PySem.W.handedIn v = true) (c : ClsX K C) (k : Q v { s with toks := s.toks + 1 }) : wpAny (model prog w) A (getAttr (.ref x) "at" expr) Q E s := by
  obtain ⟨od, ho, hl⟩ := lookIn_ns n
  have J : PySem.W.InstAt s.heap x ox C (some od) := ⟨hx, hc, hn, by rw [hd]; exact ho⟩
  obtain ⟨cd, hcd, q⟩ := PySem.W.any_some c.cl
  obtain ⟨_, hdd⟩ := (Bool.and_eq_true _ _).mp q
  have hf : PySem.W.findObj K C (some od) "at" = some (.value v) := by
    unfold PySem.W.findObj PySem.W.ownOf
    rw [hcd, c.na]
    simp only [Option.bind_some, hdd, if_true, hl, hv]
  have L0 := J.type (M := model prog w)
  have L1 := PySem.W.looks_findIn (M := model prog w) X c.ek.ga
  have L2 := PySem.W.looks_findIn (M := model prog w) X c.ek.gh
  have L3 := PySem.W.looks_find (M := model prog w) X J hf
  obtain ⟨h0, g, d, t, os⟩ := s
  have f3 := F.excAttr_ValueError.ga.bind (.ref x)
  have b2 : (Value.builtin "BaseException.__getattribute__" == Value.builtin "object.__getattribute__") = false := by decide +kernel
  have b1 : (onTheHeap (Value.ref C) && Value.builtin "BaseException.__getattribute__" == Value.builtin "object.__getattribute__") = false := by rw [b2]; rfl
  unfold getAttr getAttrBy
  refine wpAny_bind (wpAny_mkText (wpAny_holding (wpAny_bind (L0.at (wpAny_bind (L1.at ?_))))))
  dsimp only
  rw [if_neg (by rw [b1]; decide)]
  unfold getAttrByItsOwn hookBefore
  refine wpAny_bind ?_
  rw [if_pos (show onTheHeap (Value.ref C) = true from rfl)]
  refine L2.at (wpAny_bind (wpAny_attempt ?_))
  refine wpAny_holding ?_
  unfold callGetattribute boundAndCalled
  have b3 : ¬ ((expr && onTheHeap (Value.builtin "BaseException.__getattribute__")) = true) := by cases expr <;> decide
  rw [if_neg b3, f3]
  refine wpAny_bind (wpAny_pure (wpAny_call (codeAny_call_builtin F.excAttr_ValueError.ga.plain F.entry_bexc_ga (exc_ga_check (s := ⟨h0, g, d, t + 1, os⟩) c.ek X hx hc ?_))))
  unfold Builtin.«object.__getattribute__»
  repeat (first | with_reducible refine PySem.W.Looks.at (by assumption) ?_ | with_reducible refine wpAny_bind ?_ | lk)
  repeat (any_goals (first | assumption | wp_step))
  show wpAny _ _ (handedOut v) _ _ _
  rw [PySem.W.handedOut_of hh]
  exact wpAny_pure k
end
def ExcN (ea C : Addr) : HO := .ext fun h => ∃ t, h.get? ea = some (rawO C none t)
def ExcM (ea C dd : Addr) : HO := .ext fun h => ∃ t, h.get? ea = some (rawO C (some dd) t)
def ExcA (ea C dd : Addr) : HO := .ext fun h => ∃ o, h.get? ea = some o ∧ o.cls = .ref C ∧ o.dict = some dd ∧ PySem.W.notCls o = true
def IsX (H : Hp) (ea C dd : Addr) : Prop := H ea = some (ExcM ea C dd) ∨ H ea = some (ExcA ea C dd)
def atX (n : Int) : HO := .xd [("at", .int n)]
theorem lk_hit1 {f : Str} {v : V} : List.lookup f [(f, v)] = some v := by simp [List.lookup]
theorem lk_miss1 {f g : Str} {v : V} (h : ¬ g = f) : List.lookup g [(f, v)] = none := by
  have b : (g == f) = false := beq_eq_false_iff_ne.mpr h
  simp only [List.lookup, b]
section
variable {P : Program} {w : World} {H : Hp} {h : Heap} {ea C dd : Addr}
theorem HOk.raw (x : HOk P w H h) (e : H ea = some (ExcN ea C)) : ∃ t, h.get? ea = some (rawO C none t) := (x ea _ e).1
theorem HOk.made (x : HOk P w H h) (e : H ea = some (ExcM ea C dd)) : ∃ t, h.get? ea = some (rawO C (some dd) t) := (x ea _ e).1
theorem HOk.isX (x : HOk P w H h) (e : IsX H ea C dd) : ∃ o, h.get? ea = some o ∧ o.cls = .ref C ∧ o.dict = some dd ∧ PySem.W.notCls o = true := by
  rcases e with e | e
  · obtain ⟨t, q⟩ := HOk.made x e
    exact ⟨_, q, rfl, rfl, rfl⟩
  · exact (x ea _ e).1
theorem ok_excM {t : Addr} (e : h.get? ea = some (rawO C (some dd) t)) : ObjOk P w H h ea (ExcM ea C dd) := ⟨⟨t, e⟩, ⟨_, e⟩, fun h1 h2 ⟨t, q⟩ k => ⟨t, k _ q⟩⟩
theorem ok_excN {t : Addr} (e : h.get? ea = some (rawO C none t)) : ObjOk P w H h ea (ExcN ea C) := ⟨⟨t, e⟩, ⟨_, e⟩, fun h1 h2 ⟨t, q⟩ k => ⟨t, k _ q⟩⟩
theorem ok_excA {o : Obj} (e : h.get? ea = some o) (hc : o.cls = .ref C) (hd : o.dict = some dd) (hn : PySem.W.notCls o = true) : ObjOk P w H h ea (ExcA ea C dd) := ⟨⟨o, e, hc, hd, hn⟩, ⟨_, e⟩, fun h1 h2 ⟨o, q, r⟩ k => ⟨o, k _ q, r⟩⟩
end
section
variable {X : Cx} {pins : List (Addr × Obj)} {σ : St} {H : Hp} {s : Shared} {a C dd : Addr} {A : Around} {E : Value → Shared → Prop}
theorem setattrX {n : Int} {u : Value} {Q : Unit → Shared → Prop} (I : Inv X pins σ H s) (e : H a = some (ExcN a C)) (c : ClsX X.K C) (ry : RelV (.int n) u)
    (k : ∀ dd s', H dd = none → dd ≠ a → Inv X pins σ (upd (upd H dd (atX n)) a (ExcM a C dd)) s' → Q () s') : wpAny (model X.prog X.w) A (setAttr (.ref a) "at" u) Q E s := by
  obtain ⟨t, ha⟩ := HOk.raw I.hok e
  refine setX I.kIn ha c fun h' n1 hx hk => ?_
  have nd : s.heap.objs.size ≠ a := Nat.ne_of_gt (Heap.lt_size ha)
  refine k s.heap.objs.size _ (I.hok.fresh (Nat.le_refl _)) nd ?_
  have gm := Heap.get?_update_self (fun o : Obj => { o with dict := none }) hx rfl
  have other : ∀ b, b ≠ a → (h'.update a fun o => { o with dict := none }).get? b = h'.get? b := fun b z => Heap.get?_update_other _ _ (Ne.symm z)
  have I1 : Inv X pins σ (upd H s.heap.objs.size (atX n)) { s with heap := h'.update a fun o => { o with dict := none }, toks := s.toks + 1 } := by
    refine I.laid (fun b ob q => ?_) (Nat.le_refl _) ⟨_, n1.at fun o q => (other _ nd).trans q, fun f => ?_⟩
    · by_cases z : b = a
      · subst z
        rw [ha] at q
        cases q
        exact gm
      · exact (other b z).trans (hk b ob z q)
    · by_cases z : f = "at"
      · subst z
        rw [if_pos rfl, lk_hit1]
        exact ry
      · rw [if_neg z, lk_miss1 z]
        exact True.intro
  refine I1.write (x := a) (e := a) ?_ (.inl rfl) (fun b ob z q => ?_) ⟨_, hx⟩ (ok_excM hx)
  · rw [upd_ne (Ne.symm nd), e]
    exact True.intro
  · exact (other b z).symm.trans q
theorem getattrX {n : Int} {b : Bool} {Q : Value → Shared → Prop} (I : Inv X pins σ H s) (e : IsX H a C dd) (hd : H dd = some (atX n)) (c : ClsX X.K C) (k : ∀ u s', Inv X pins σ H s' → RelV (.int n) u → Q u s') :
    wpAny (model X.prog X.w) A (getAttr (.ref a) "at" b) Q E s := by
  obtain ⟨o, ho, hc, hdd, hn⟩ := HOk.isX I.hok e
  obtain ⟨mA, n1, r⟩ := (show ObjOk X.prog X.w H s.heap dd (.xd [("at", .int n)]) from I.hok dd _ hd)
  have r1 := r "at"
  rw [lk_hit1] at r1
  obtain ⟨u, hu, ru⟩ := RelO.some_of r1
  exact getX I.kIn ho hc hn hdd n1 hu (handed_of ru) c (k u _ (I.tok _) ru)
end
end L2.XA
namespace L2.XA
open PySem PySem.Spec PyProof.Rows _root_.XA
def sAtX (K : PySem.W.Frag) (ta tv : TE) : TS := fun D σ H => tv σ H fun y H1 => ta σ H1 fun x H2 => ∃ a C n, y = .int n ∧ x = .ref a ∧ H2 a = some (ExcN a C) ∧ ClsX K C ∧
  ∀ dd, H2 dd = none → dd ≠ a → D.nx σ (upd (upd H2 dd (atX n)) a (ExcM a C dd))
def tAtX (K : PySem.W.Frag) (ta : TE) : TE := fun σ H Q => ta σ H fun x H1 => ∃ a C dd n, x = .ref a ∧ IsX H1 a C dd ∧ H1 dd = some (atX n) ∧ ClsX K C ∧ Q (.int n) H1
section
variable {X : Cx} {o e value : Expr} {pos pos' : Pos} {ta tv : TE}
theorem ps_atX (ha : PE X o ta) (hv : PE X value tv) (hs : swapsWith value (some (.Attribute o "at" pos')) pos.line X.env = pure false) : PS X (.Assign [.Attribute o "at" pos'] value pos) (sAtX X.K ta tv) := by
  intro pins s σ H D I h
  refine plainObj_wpAny_Assign_Attribute (thn (hv pins s σ H _ I h) fun u s1 ⟨y, H1, I1, ry, q⟩ => thn (ha pins s1 σ H1 _ I1 q) fun ov s2 ⟨x, H2, I2, rx, a, C, n, ey, ex, ea, c, q2⟩ => ?_) hs
  subst ex ey
  obtain rfl : ov = Value.ref a := rx
  exact setattrX I2 ea c ry fun dd s3 h1 h2 I3 => ⟨σ, _, I3, q2 dd h1 h2⟩
theorem pe_atX {f : Str} {K : PySem.W.Frag} (he : PE X e ta) (hb : attributeBase e f X.env (eval e X.env) = eval e X.env) (hK : X.K = K := by rfl) (hf : f = "at" := by rfl) : PE X (.Attribute e f pos) (tAtX K ta) := by
  subst hf hK
  intro pins s σ H Q I h
  refine attr_of hb (thn (he pins s σ H _ I h) fun u s1 ⟨x, H1, I1, rx, a, C, dd, n, ex, ea, ed, c, q⟩ => ?_)
  subst ex
  obtain rfl : u = Value.ref a := rx
  exact getattrX I1 ea ed c fun u' s2 I2 ru => ⟨.int n, H1, I2, ru, q⟩
def rIsX (K : PySem.W.Frag) : List V → Hp → VK → Prop := fun xs H Q => ∃ ea C dd t b, (xs = [.ref ea, .ref t] ∧ PySem.W.kitOne K (.ref C) (.ref t) = some b ∨ ∃ n, xs = [.ref ea, .ty n] ∧ PySem.W.kitOne K (.ref C) (.type n) = some b) ∧ IsX H ea C dd ∧ ClsX K C ∧ Q (.bl b) H
theorem call_isX {K : PySem.W.Frag} (hK : X.K = K) : CallR X (.builtin "isinstance") (rIsX K) := by
  subst hK
  intro pins s σ H xs us Q I r h
  obtain ⟨ea, C, dd, t, b, hxs, ix, c, q⟩ := h
  obtain ⟨o, ho, hc, _, _⟩ := HOk.isX I.hok ix
  rcases hxs with ⟨rfl, ek⟩ | ⟨n, rfl, ek⟩
  · obtain ⟨u, u2, rfl, rx, r2⟩ := vals2 r
    cases (show u2 = Value.ref t from r2)
    cases (show u = Value.ref ea from rx)
    exact PySem.W.kia_one (kitx_exc c.ek) I.kIn ⟨o, ho, hc⟩ ek (fun z => nomatch z) fun tk => ⟨.bl b, H, I.tok _, rfl, q⟩
  · obtain ⟨u, u2, rfl, rx, r2⟩ := vals2 r
    cases (show u2 = Value.type n from r2)
    cases (show u = Value.ref ea from rx)
    exact PySem.W.kia_one (kitx_exc c.ek) I.kIn ⟨o, ho, hc⟩ ek (fun z => nomatch z) fun tk => ⟨.bl b, H, I.tok _, rfl, q⟩
end
def excJ (K : PySem.W.Frag) (C fI : Addr) (new : String) : Bool := match K.lookup C with
  | none => false
  | some ob => ob.cls == .type "type" && (match ob.data with
    | .cls cd => (match cd.mro with
      | .ref C2 :: tl => (match ob.slots.toList with
        | [_, _, _, _, some (.builtin n), _] => C2 == C && n == new && !cd.hasDel && PySem.W.tailIn K bmX tl && PySem.W.nsOkIn K cd.ns && PySem.W.nsIn K cd.ns "__init__" == some (some (.ref fI))
        | _ => false)
      | _ => false)
    | _ => false)
theorem ns_someX {K : PySem.W.Frag} {h : Heap} {N : Addr} {m : Str → Option Value} {n : Str} {v : Value} (X : K.In h) (G : h.Ns N m) (e : PySem.W.nsIn K N n = some (some v)) : m n = some v := by
  obtain ⟨o, es, ep, ho, hd, _, hf⟩ := G
  unfold PySem.W.nsIn at e
  split at e
  · rename_i c d es' n' sl q
    have z := X _ _ q
    rw [ho] at z
    cases z
    cases hd
    split at e
    · rename_i y hy
      cases e
      rw [← hf n]
      unfold nsFind findBy
      rw [← Array.find?_toList, hy]
      rfl
    · split at e <;> cases e
  · cases e
theorem own_J {K : PySem.W.Frag} {h : Heap} {C fI : Addr} {new : String} (kin : K.In h) (q : excJ K C fI new = true) :
    ∃ tl N nm qn bs hdct sn sub ab col dd k0 k1 k2 k3 k5 mN, h.get? C = some (excClassObj nm qn C N bs tl hdct sn sub ab col dd k0 k1 k2 k3 k5 new) ∧ h.Ns N mN ∧ mN "__init__" = some (.ref fI) ∧ OwnTail h bmX tl := by
  unfold excJ at q
  cases lk : K.lookup C with
  | none => rw [lk] at q; cases q
  | some ob =>
    rw [lk] at q
    obtain ⟨oc, od, odt, osl⟩ := ob
    dsimp only at q
    obtain ⟨q0, qb⟩ := (Bool.and_eq_true _ _).mp q
    clear q
    split at qb
    · rename_i cd
      obtain ⟨nm, bs, mro, ns, qn, hd, sn, sub, ab, col, del⟩ := cd
      dsimp only at qb
      split at qb
      · rename_i C2 tl
        split at qb
        · rename_i k0 k1 k2 k3 n2 k5 es
          simp only [Bool.and_eq_true, beq_iff_eq, Bool.not_eq_true'] at qb q0
          obtain ⟨⟨⟨⟨⟨q1, q2⟩, q3⟩, q4⟩, q5⟩, q6⟩ := qb
          subst q1 q2 q3 q0
          have esl : osl = #[k0, k1, k2, k3, some (.builtin n2), k5] := Array.toList_inj.mp es
          subst esl
          have G := Heap.Ns.of_isNs (PySem.W.isNs_of_in kin q5)
          exact ⟨tl, ns, nm, qn, bs, hd, sn, sub, ab, col, od, k0, k1, k2, k3, k5, _, kin _ _ lk, G, ns_someX kin G q6, PySem.W.tail_of_in kin q4⟩
        · cases qb
      · cases qb
    · cases qb
structure MkX (K : PySem.W.Frag) (C fI : Addr) : Prop where
  own : excJ K C fI "ValueError.__new__" = true
  fn : PySem.W.isFn K (.ref fI) = true
  kp : PySem.W.keepIn K (.ref C) = true
  cx : ClsX K C
def spXI (C : Addr) : Sp := fun vs H Q _ => ∃ ea n, vs = [.ref ea, .int n] ∧ H ea = some (ExcN ea C) ∧ ∀ dd, H dd = none → dd ≠ ea → Q .non (upd (upd H dd (atX n)) ea (ExcM ea C dd))
section
variable {X : Cx} {pins : List (Addr × Obj)} {σ : St} {H : Hp} {s : Shared}
theorem Inv.track {ea : Addr} {φ : Heap → Prop} (I : Inv X pins σ H s) (hx : H ea = none) (ok : ∀ H', ObjOk X.prog X.w H' s.heap ea (.ext φ)) (h0 : X.s₀.heap.get? ea = none) (hL : ea ≠ X.env.locals) (hcl : ∀ y c, X.env.cells.lookup y = some c → c ≠ ea)
    (hp : ∀ p ∈ X.pn ++ pins, p.1 ≠ ea) : Inv X pins σ (upd H ea (.ext φ)) s := by
  refine ⟨I.ok, I.os, I.bare, ⟨I.base.keep, I.base.slot, fun b o e z nx => ?_, I.base.there, fun b xs e => ?_, fun b o u e => ?_, fun b ps e => ?_⟩, I.loc, I.cell, ?_, fun y c e => ?_, fun p hp' => ?_, fun b u e => ?_, I.len⟩
  · rw [upd_ne (fun z2 => by rw [z2, h0] at e; cases e)]
    exact I.base.free b o e z nx
  · have q := I.base.tups b xs e
    rw [upd_ne (ne_of_none q hx)]
    exact q
  · have q := I.base.frzs b o u e
    rw [upd_ne (ne_of_none q hx)]
    exact q
  · obtain ⟨more, q⟩ := I.base.tbls b ps e
    refine ⟨more, ?_⟩
    rw [upd_ne (ne_of_none q hx)]
    exact q
  · rw [upd_ne hL.symm]
    exact I.free
  · rw [upd_ne (hcl y c e)]
    exact I.freeC y c e
  · obtain ⟨e, f, r⟩ := I.pin p hp'
    refine ⟨e, ?_, r⟩
    rw [upd_ne (hp p hp')]
    exact f
  · by_cases hb : b = ea
    · subst hb
      rw [upd_same] at e
      cases e
      exact ok _
    · rw [upd_ne hb] at e
      refine (I.hok b u e).stay (fun c v _ q => q) (fun c q => ?_) fun c xs q => ?_
      · rw [upd_ne (ne_of_none q hx)]; exact q
      · rw [upd_ne (ne_of_none q hx)]; exact q
theorem Inv.drop {ea : Addr} {φ : Heap → Prop} (I : Inv X pins σ (upd H ea (.ext φ)) s) (hx : H ea = none) (h0 : X.s₀.heap.get? ea = none) : Inv X pins σ H s := by
  have dn : ∀ {b : Addr}, upd H ea (.ext φ) b = none → H b = none := fun {b} q => by
    by_cases hb : b = ea
    · rw [hb]; exact hx
    · rw [upd_ne hb] at q; exact q
  have ds : ∀ {b : Addr} {u : HO}, upd H ea (.ext φ) b = some u → u ≠ .ext φ → H b = some u := fun {b u} q n => by
    by_cases hb : b = ea
    · rw [hb, upd_same] at q
      exact absurd (Option.some.inj q).symm n
    · rw [upd_ne hb] at q; exact q
  refine ⟨I.ok, I.os, I.bare, ⟨I.base.keep, I.base.slot, fun b o e z nx => dn (I.base.free b o e z nx), I.base.there, fun b xs e => ds (I.base.tups b xs e) (by intro z; cases z), fun b o u e => ds (I.base.frzs b o u e) (by intro z; cases z), fun b ps e => ?_⟩,
    I.loc, I.cell, dn I.free, fun y c e => dn (I.freeC y c e), fun p hp' => ?_, fun b u e => ?_, I.len⟩
  · obtain ⟨more, q⟩ := I.base.tbls b ps e
    exact ⟨more, ds q (by intro z; cases z)⟩
  · obtain ⟨e, f, r⟩ := I.pin p hp'
    exact ⟨e, dn f, r⟩
  · have nb : b ≠ ea := ne_of_none e hx
    have e2 : upd H ea (.ext φ) b = some u := by rw [upd_ne nb]; exact e
    exact (I.hok b u e2).stay (fun c v _ q => q) (fun c q => ds q (by intro z; cases z)) fun c xs q => ds q (by intro z; cases z)
variable {C fI : Addr} {fd : FuncData} {k : Nat}
theorem none_old {ea : Addr} (I : Inv X pins σ H s) (hex : X.ex = []) (h1 : s.heap.get? ea = none) : H ea = none ∧ X.s₀.heap.get? ea = none ∧ ea ≠ X.env.locals ∧ (∀ y c, X.env.cells.lookup y = some c → c ≠ ea) ∧ ∀ p ∈ X.pn ++ pins, p.1 ≠ ea := by
  refine ⟨?_, ?_, ?_, fun y c e z => ?_, fun p hp z => ?_⟩
  · cases q : H ea with
    | none => rfl
    | some u =>
      obtain ⟨o, e⟩ := (I.hok ea u q).there
      rw [h1] at e; cases e
  · cases q : X.s₀.heap.get? ea with
    | none => rfl
    | some u =>
      obtain ⟨o', e'⟩ := I.base.there ea u q (by rw [hex]; simp)
      rw [h1] at e'; cases e'
  · obtain ⟨m, ⟨o, _, _, ho, _⟩, _⟩ := I.loc
    intro z
    rw [z, ho] at h1; cases h1
  · obtain ⟨v, o, e', _⟩ := I.cell y c e
    rw [z, h1] at e'; cases e'
  · have := (I.pin p hp).1
    rw [z, h1] at this; cases this
theorem run_makeX {n : Int} {u : Value} {Q : Value → Shared → Prop} {E : Value → Shared → Prop} (M : MkX X.K C fI) (F : FnOk X.prog X.w X.K X.mg X.base CX0 k fI fd ["self", "at"] (spXI C)) (hb : Binds X.K fd ["self", "at"] []) (hr : Room (k + 1) X.A) (hex : X.ex = [])
    (I : Inv X pins σ H s) (r : RelV (.int n) u)
    (h : ∀ ea dd s', s.heap.get? ea = none → H ea = none → H dd = none → dd ≠ ea → Inv X pins σ (upd (upd H dd (atX n)) ea (ExcM ea C dd)) s' → Q (.ref ea) s') : wpAny (model X.prog X.w) X.A (call (.ref C) [u]) Q E s := by
  obtain ⟨tl, N, nm, qn, bs, hdct, sn, sub, ab, col, dd0, k0, k1, k2, k3, k5, mN, hC, hN, hi, T⟩ := own_J I.kIn M.own
  obtain ⟨oI, hI, hIc⟩ : ∃ oI, s.heap.get? fI = some oI ∧ oI.cls = .type "function" := by
    have z := beq_iff_eq.mp M.fn
    unfold PySem.W.typeIn at z
    obtain ⟨oI, e1, e2⟩ := Option.map_eq_some_iff.mp z
    exact ⟨oI, I.kIn _ _ e1, e2⟩
  obtain ⟨s1, s2, s3, s4, s5⟩ := s
  refine callJ PySem.F.excBase_ValueError T hC hN hi hI hIc (by show 1 ≤ sizeLine; decide) fun h' e hm => ?_
  obtain ⟨t, he, ht0, ht⟩ := hm.there
  obtain ⟨o1, o2, o3, o4, o5⟩ := none_old I hex hm.new
  have I1 : Inv X pins σ H ⟨h', s2, s3, s4, s5⟩ := I.kept (t' := s4) hm.keeps
  have I2 : Inv X pins σ (upd H e (ExcN e C)) ⟨h', s2, s3, s4, s5⟩ := Inv.track I1 o1 (fun H' => ok_excN he) o2 o3 o4 o5
  have hsp : spXI C [.ref e, .int n] (upd H e (ExcN e C)) (fun v H2 => v = .non ∧ ∃ dd, H dd = none ∧ dd ≠ e ∧ H2 = upd (upd H dd (atX n)) e (ExcM e C dd)) E0 := by
    refine ⟨e, n, rfl, upd_same, fun dd hd nd => ⟨rfl, dd, ?_, nd, ?_⟩⟩
    · rw [upd_ne nd] at hd; exact hd
    · funext b
      by_cases z : b = e
      · rw [z, upd_same, upd_same]
      · rw [upd_ne z, upd_ne z]
        unfold upd
        rw [if_neg z]
  refine wpAny_call (codeAny_mono (F.run _ X.stack _ _ ⟨[.ref e, u], []⟩ [.ref e, u] [.ref e, .int n] _ E0 (hr.make C [u] []) (I2.env0.make C [u] []) ?_ (.cons rfl (.cons r .nil)) hsp) fun rr s' hq' => ?_)
  · have z := hb ⟨h', s2, s3, s4, s5⟩ [.ref e, u] I2.kIn rfl
    rw [List.append_nil] at z
    exact z
  cases rr with
  | error e => exact False.elim hq'
  | ok fl =>
    cases fl with
    | ret u2 =>
      obtain ⟨v, H', I3, rv, ev, dd, q1, q2, q3⟩ := I2.after hq'
      subst ev q3
      exact ⟨rv, h e dd s' hm.new o1 q1 q2 I3⟩
    | next => exact False.elim hq'
    | brk => exact False.elim hq'
    | cont => exact False.elim hq'
variable {x : Str} {p pos cpos : Pos} {e : Expr} {t : TA}
def tMakeX (C : Addr) (t : TA) : TE := fun σ H Q => t σ H fun vs H1 => ∃ n, vs = [.int n] ∧ ∀ ea dd, H1 ea = none → H1 dd = none → dd ≠ ea → Q (.ref ea) (upd (upd H1 dd (atX n)) ea (ExcM ea C dd))
theorem pe_makeX (M : MkX X.K C fI) (F : FnOk X.prog X.w X.K X.mg X.base CX0 k fI fd ["self", "at"] (spXI C)) (hb : Binds X.K fd ["self", "at"] []) (hr : Room (k + 1) X.A) (hex : X.ex = []) (hg : Gl X x) (hm : X.mg x = some (.ref C))
    (ha : PA X [e] t) (hdb : (x == ("__debug__" : Str)) = false := by decide) (he : starEach [e] X.env = (false, eval e X.env) :: starEach [] X.env := by rfl) (hpl : (backTo pos (starEach [] X.env)).any (·.1) = false := by rfl) : PE X (.Call (.Name x p) [e] [] pos) (tMakeX C t) := by
  intro pins s σ H Q I h
  refine wpAny_Call_Name_kw (ld_glob I hg hm ?_ hdb)
  refine PySem.W.callWith_K (h₀ := X.base) I.ok.mod.kin M.kp (thn (ha pos pins s σ H _ I h) fun us s1 ⟨vs, H1, I1, r, n, ev, q⟩ => ⟨I1.kIn, ?_⟩) he hpl
  subst ev
  obtain ⟨u, rfl, ru⟩ := vals1 r
  exact run_makeX M F hb hr hex I1 ru fun ea dd s' _ h1 h2 h3 I2 => ⟨.ref ea, _, I2, rfl, q ea dd h1 h2 h3⟩
end
end L2.XA
namespace L2.XA
open PySem PySem.Spec PyProof.Rows _root_.XA
def FlyA (l : List Env) (h0 : Heap) (H : Hp) (ea C dd : Addr) (h : Heap) : Prop := ∃ B a0, FlyD B l ea (.ref C) a0 (some dd) h ∧ Cov l h0 H B h
def CXA (P : Program) (w : World) : CXT := fun outer H s E e s' => ∃ ea C dd n tk H', e = .ref ea ∧ s'.os = s.os ∧ AllBare s'.gens ∧ Un (frs outer) [] H H' s.heap s'.heap ∧ HOk P w H' s'.heap ∧ FlyA outer s.heap H' ea C dd s'.heap ∧
  H' dd = some (atX n) ∧ E (.int n tk) (some C) H'
structure DefA (X : Cx) (E : XK) : Prop where
  stk : X.stack = X.env :: X.outer
  fr : X.env.frame = some X.env.locals
  ex : X.ex = []
  xe : X.xe = fun e s' => wpAny (model X.prog X.w) X.A (leaving X.env e) (fun _ s'' => CXA X.prog X.w X.outer X.H₀ X.s₀ E e s'') (fun e' s'' => CXA X.prog X.w X.outer X.H₀ X.s₀ E e' s'') s'
section
variable {X : Cx} {E : XK} {pins : List (Addr × Obj)} {σ : St} {H H' : Hp} {s s' : Shared} {ea C dd : Addr} {n : Int} {tk : Tok}
theorem leavesA {B h2 hc : Heap} {a0 : Value} (D : DefA X E) (I : Inv X pins σ H s) (c : Cov X.stack hc H B s.heap) (hc0 : ∀ b o, X.s₀.heap.get? b = some o → ∃ o', hc.get? b = some o') (ff : s.heap.FunFrames B X.stack)
    (fl : FlyD B X.outer ea (.ref C) a0 (some dd) h2) (sm : s.heap.UpToSlots h2) (hd : H dd = some (atX n)) (q : E (.int n tk) (some C) H) : CXA X.prog X.w X.outer X.H₀ X.s₀ E (.ref ea) { s with heap := h2 } := by
  have st := fl.1.1
  have fc := frs_cons D.stk D.fr
  have b0 : Un X.fs [] X.H₀ H X.s₀.heap s.heap := by
    have z := I.base
    rw [D.ex] at z
    exact z
  have nL : ∀ b o, X.s₀.heap.get? b = some o → b ≠ X.env.locals := fun b o e z => absurd (Heap.lt_size e) (by rw [z]; exact Nat.not_lt.mpr I.ok.above)
  refine ⟨ea, C, dd, n, tk, H, rfl, I.os, I.bare, b0.moved c st sm ff hc0 (fun b hb => ?_) (fun b o e hb => ?_), I.hok.moved c st I.stkFree, ⟨B, a0, fl, c.moved st I.hok b0 hc0 fun b nb hb => ?_⟩, hd, q⟩
  · rw [fc]
    exact List.mem_cons_of_mem _ hb
  · rw [fc] at hb
    exact (List.mem_cons.mp hb).elim (fun z => absurd z (nL b o e)) id
  · rw [fc]
    intro z
    rcases List.mem_cons.mp z with z | z
    · subst z
      rcases hb with y | ⟨o0, y⟩
      · exact y I.free
      · exact nL _ o0 y rfl
    · exact nb z
theorem cameA {e : Value} {E' : XK} (I : Inv X pins σ H s) (h : CXA X.prog X.w X.stack H s E' e s') : ∃ ea C dd n tk H', e = .ref ea ∧ Inv X pins σ H' s' ∧ FlyA X.stack s.heap H' ea C dd s'.heap ∧ H' dd = some (atX n) ∧ E' (.int n tk) (some C) H' := by
  obtain ⟨ea, C, dd, n, tk, H', rfl, os, bare, un, hok, fl, hd, q⟩ := h
  exact ⟨ea, C, dd, n, tk, H', rfl, I.call' os un hok bare (fun b z => absurd z (by simp)), fl, hd, q⟩
theorem passA (D : DefA X E) (hE : X.A.frames = some X.stack) : Passes (CXA X.prog X.w) X E := by
  intro pins σ H s e s' I h
  obtain ⟨ea, C, dd, n, tk, H', rfl, I', ⟨B, a0, fl, c⟩, hd, q⟩ := cameA I h
  rw [D.xe]
  have hfr : X.A.frames = some (X.env :: X.outer) := by rw [hE, D.stk]
  have ff := fl.1.2.2.1
  rw [D.stk] at fl
  refine leavesD hfr D.fr fl fun h2 fl2 sm => ?_
  have sub : ∀ b o, X.s₀.heap.get? b = some o → ∃ o', s.heap.get? b = some o' := fun b o e => I.base.there b o e (by rw [D.ex]; simp)
  exact leavesA D I' c sub ff fl2 sm hd q
theorem madeA (D : DefA X E) (I : Inv X pins σ (upd H ea (ExcM ea C dd)) s) (hx : H ea = none) (h0 : X.s₀.heap.get? ea = none) (hd : H dd = some (atX n)) (q : E (.int n tk) (some C) H) : X.xe (.ref ea) s := by
  rw [D.xe]
  obtain ⟨t, he⟩ := HOk.made I.hok upd_same
  have I1 : Inv X pins σ H s := Inv.drop I hx h0
  have hfr : X.A.frames = some (X.env :: X.outer) := by rw [I.ok.frames, D.stk]
  have inh : ∀ env ∈ X.stack, ∀ b, env.frame = some b → b ∈ ea :: frs X.stack := fun env z b hb => List.mem_cons_of_mem _ (List.mem_filterMap.mpr ⟨env, z, hb⟩)
  have ff : s.heap.FunFrames (PySem.W.hideAll s.heap (ea :: frs X.stack)) X.stack := PySem.W.funFrames_hide I.stack inh
  have ff1 := ff
  rw [D.stk] at ff1
  rw [← D.stk] at ff1
  refine leaves1D (base := PySem.W.hideAll s.heap (ea :: frs X.stack)) hfr D.fr (by rw [← D.stk]; exact ff) he rfl (fun b o e => PySem.W.of_hideAll _ e) (PySem.W.hideAll_none _ List.mem_cons_self) rfl rfl rfl fun h2 fl sm => ?_
  refine leavesA (hc := X.s₀.heap) D I1 (fun b o e nb hb => PySem.W.hideAll_get _ e fun z => ?_) (fun b o e => ⟨o, e⟩) ff fl sm hd q
  rcases List.mem_cons.mp z with z | z
  · subst z
    rcases hb with y | ⟨o0, y⟩
    · exact y hx
    · rw [h0] at y; cases y
  · exact nb z
end
theorem def_cxA {P : Program} {w : World} {K : PySem.W.Frag} {mg : Str → Option Value} {base : Heap} {N : List Str} {qual : Str} {scope : Scope} {f : Addr} {cd : Value} {A : Around} {outer : List Env} {s : Shared} {H : Hp} {E : XK} :
    DefA (cxOf (CXA P w) P w K mg base N qual scope f cd A outer s H E) E := ⟨rfl, rfl, rfl, rfl⟩
section
variable {P : Program} {w : World} {K : PySem.W.Frag} {mg : Str → Option Value} {base : Heap}
theorem okA {x qual : Str} {st : Stmt} {f : Addr} {fd : FuncData} {N ps : List Str} {k : Nat} {sp : Sp} (F : Fun K x qual st f fd) (S : FnScope N ps (defScope st)) (len : ∀ vs H Q E, sp vs H Q E → vs.length = ps.length)
    (hbody : ∀ (cdv : Value) (A : Around) (outer : List Env) (s : Shared) (H : Hp) (vs : List V) (Q : VK) (E : XK), Room k (A.deeper (envOfC qual (defScope st) s.heap.objs.size f cdv)) → sp vs H Q E →
      ∃ t, PSs (cxOf (CXA P w) P w K mg base N qual (defScope st) f cdv A outer s H E) (defBody st) t ∧ t { nx := fun _ H' => Q .non H', rt := Q } (start N vs) H) : FnOk P w K mg base (CXA P w) (k + 1) f fd ps sp := by
  obtain ⟨oc, od, kV, doc, pm, an, cdv, ct, osl, rfl, lk, hcd⟩ := F.ex
  exact fn_of lk hcd S len fun A outer s H vs Q E hr hsp => hbody cdv A outer s H vs Q E hr hsp
theorem passXA {N : List Str} {qual : Str} {scope : Scope} {f : Addr} {cd : Value} {A : Around} {outer : List Env} {s : Shared} {H : Hp} {E : XK} : Passes (CXA P w) (cxOf (CXA P w) P w K mg base N qual scope f cd A outer s H E) E := by
  intro pins σ H1 s1 e s' I h
  exact passA def_cxA I.ok.frames pins σ H1 s1 e s' I h
end
section
variable {X : Cx} {E : XK} {C fI : Addr} {fd : FuncData} {k : Nat} {x : Str} {p pos cpos : Pos} {e : Expr} {t : TA}
def tRaiseA (C : Addr) (E : XK) (t : TA) : TS := fun _ σ H => t σ H fun vs H1 => ∃ n, vs = [.int n] ∧ ∀ dd tk, H1 dd = none → E (.int n tk) (some C) (upd H1 dd (atX n))
theorem ps_raiseA (D : DefA X E) (hc : X.calm = true) (M : MkX X.K C fI) (F : FnOk X.prog X.w X.K X.mg X.base CX0 k fI fd ["self", "at"] (spXI C)) (hb : Binds X.K fd ["self", "at"] []) (hr : Room (k + 1) X.A) (hg : Gl X x) (hm : X.mg x = some (.ref C))
    (ha : PA X [e] t) (hdb : (x == ("__debug__" : Str)) = false := by decide) (he : starEach [e] X.env = (false, eval e X.env) :: starEach [] X.env := by rfl) (hpl : (backTo cpos (starEach [] X.env)).any (·.1) = false := by rfl) :
    PS X (.Raise (some (.Call (.Name x p) [e] [] cpos)) none pos) (tRaiseA C E t) := by
  intro pins s σ H D' I h
  refine exec_raiseJ (C := C) (I.ok.hd hc) (wpAny_Call_Name_kw (ld_glob I hg hm ?_ hdb))
  refine PySem.W.callWith_K (h₀ := X.base) I.ok.mod.kin M.kp (thn (ha cpos pins s σ H _ I h) fun us s1 ⟨vs, H1, I1, r, n, ev, q⟩ => ⟨I1.kIn, ?_⟩) he hpl
  subst ev
  obtain ⟨u, rfl, ru⟩ := vals1 r
  refine run_makeX M F hb hr D.ex I1 ru fun ea dd s' e0 h1 h2 h3 I2 => ?_
  obtain ⟨tl, N, nm, qn, bs, hdct, sn, sub, ab, col, dd0, k0, k1, k2, k3, k5, mN, hC, hN, hi, T⟩ := own_J I2.kIn M.own
  obtain ⟨t, he⟩ := HOk.made I2.hok upd_same
  have hx : upd H1 dd (atX n) ea = none := by rw [upd_ne (Ne.symm h3)]; exact h1
  exact ⟨ea, t, some dd, tl, N, nm, qn, bs, hdct, sn, sub, ab, col, dd0, k0, k1, k2, k3, k5, _, rfl, hC, T.hasType (by decide +kernel), he, madeA D I2 hx (none_old I1 D.ex e0).2.1 upd_same (q dd 0 h2)⟩
end
def MatchX (X : Cx) (C CB : Addr) (b : Bool) : Prop := ∀ (A : Around) (s : Shared) (ea : Addr) (ob : Obj) (Q : Bool → Shared → Prop) (E : Value → Shared → Prop), X.K.In s.heap → s.heap.get? ea = some ob → ob.cls = .ref C → Q b s → wpAny (model X.prog X.w) A (excMatches (.ref ea) (.ref CB)) Q E s
section
variable {X : Cx} {C CB : Addr} {b : Bool}
theorem matchC {A : Around} {s : Shared} {ea : Addr} {ob : Obj} {Q : Bool → Shared → Prop} {E : Value → Shared → Prop} {nm qn : Str} {N : Addr} {bs tl : List Value} {hdct : Bool} {sn : List Str} {sub : List Value} {ab : Bool} {col : Option Bool} {dd : Option Addr} {k0 k1 k2 k3 k5 : Option Value} {new : String}
    (kin : X.K.In s.heap) (hC : s.heap.get? CB = some (excClassObj nm qn CB N bs tl hdct sn sub ab col dd k0 k1 k2 k3 k5 new)) (hb : tl.contains (.type "BaseException") = true) (he : s.heap.get? ea = some ob) (hcls : ob.cls = .ref C)
    (hs : PySem.W.mroIn X.K C (.ref CB) = some b) (q : Q b s) : wpAny (model X.prog X.w) A (excMatches (.ref ea) (.ref CB)) Q E s := by
  obtain ⟨h, g, d, t, os⟩ := s
  have hcB : (Value.ref CB :: tl).contains (.type "BaseException") = true := by rw [List.contains_cons, hb, Bool.or_true]
  have f := tc_notTuple
  have L1 := PySem.W.looks_mroIn (M := model X.prog X.w) kin hs
  unfold excMatches
  repeat (first | (with_reducible refine wpAny_loadPart_at he ?_; rw [hcls]) | with_reducible refine wpAny_loadPart_at hC ?_ | (with_reducible refine wpAny_isSubtype_exc hC ?_; rw [hcB]) | (with_reducible refine PySem.W.Looks.at (by assumption) ?_) | wp_step)
  cases b
  · repeat (first | exact q | wp_step)
  · repeat (first | exact q | wp_step)
theorem match_J {fI : Addr} {new : String} (q : excJ X.K CB fI new = true) (hs : PySem.W.mroIn X.K C (.ref CB) = some b) : MatchX X C CB b := by
  intro A s ea ob Q E kin he hcls hq
  obtain ⟨tl, N, nm, qn, bs, hdct, sn, sub, ab, col, dd0, k0, k1, k2, k3, k5, mN, hC, hN, hi, T⟩ := own_J kin q
  exact matchC kin hC (T.hasType (by decide +kernel)) he hcls hs hq
theorem match_in {x : Str} {new : String} (hm : X.mg x = some (.ref CB)) (q : PySem.W.excIn X.K CB bmX new = true) (hs : PySem.W.mroIn X.K C (.ref CB) = some b) : MatchX X C CB b := by
  intro A s ea ob Q E kin he hcls hq
  obtain ⟨tl, N, nm, qn, bs, hdct, sn, sub, ab, col, dd, k0, k1, k2, k3, k5, mN, hC, hN, hni, T⟩ := (own_in kin hm q).obj
  exact matchC kin hC (T.hasType (by decide +kernel)) he hcls hs hq
end
structure AtH (X : Cx) (pins : List (Addr × Obj)) (σ : St) (H : Hp) (ea C dd : Addr) (s : Shared) : Prop where
  inv : Inv X pins σ H s
  new : H ea = none
  old : X.s₀.heap.get? ea = none
  nl : ea ≠ X.env.locals
  nc : ∀ y c, X.env.cells.lookup y = some c → c ≠ ea
  np : ∀ p ∈ X.pn ++ pins, p.1 ≠ ea
  fly : ∃ B a0, FlyD B (X.env :: X.outer) ea (.ref C) a0 (some dd) s.heap ∧ ∀ h', B.StaysIn h' → s.heap.UpToSlots h' → Inv X pins σ H { s with heap := h' }
section
variable {X : Cx} {pins : List (Addr × Obj)} {σ : St} {H H1 : Hp} {s s1 : Shared} {ea C CB dd : Addr} {D : Ends} {E : Value → Shared → Prop}
theorem comesA {hs : List ExceptHandler} {Q : Flow → Shared → Prop} (I1 : Inv X pins σ H1 s1) (I : Inv X pins σ H s) (hst : X.stack = X.env :: X.outer) (fr : X.env.frame = some X.env.locals) (hex : X.ex = []) (fly : FlyA X.stack s1.heap H ea C dd s.heap)
    (k : ∀ h5, AtH X pins σ H ea C dd { s with heap := h5 } → wpAny (model X.prog X.w) X.A (handleBy (.ref ea) X.env hs) Q E { s with heap := h5 }) :
    wpAny (model X.prog X.w) X.A (noteFrame (.ref ea) X.env) (fun _ s₂ => wpAny (model X.prog X.w) X.A (setFlight (.ref ea) none) (fun _ s₃ => wpAny (model X.prog X.w) X.A (handleBy (.ref ea) X.env hs) Q E s₃) E s₂) E s := by
  obtain ⟨B, a0, fl, c⟩ := fly
  have hfr : X.A.frames = some (X.env :: X.outer) := by rw [I.ok.frames, hst]
  have ff := fl.1.2.2.1
  have fl' := fl
  rw [hst] at fl'
  obtain ⟨oe, ws, hoe, hoec, hoed, hoe0⟩ := fl.1.first
  have nfr : ea ∉ frs X.stack := fun z => by
    obtain ⟨_, o', e', d'⟩ := ff.mem (show ea ∈ X.stack.filterMap (·.frame) from z)
    rw [hoe] at e'
    cases e'
    exact d' ws hoed
  have hB := fl.1.2.1
  have h1e : s1.heap.get? ea = none := by
    cases z : s1.heap.get? ea with
    | none => rfl
    | some u =>
      have y := c ea oe hoe nfr (.inr ⟨u, z⟩)
      rw [hB] at y; cases y
  have hHe : H ea = none := by
    cases z : H ea with
    | none => rfl
    | some u =>
      have y := c ea oe hoe nfr (.inl (by rw [z]; intro y; cases y))
      rw [hB] at y; cases y
  obtain ⟨_, o2, o3, o4, o5⟩ := none_old I1 hex h1e
  refine looksD hfr fr fl' fun h4 held sm4 => landsD held fun h5 fl5 sm5 => ?_
  have sm := sm4.trans sm5
  exact k h5 ⟨Inv.moved I1 I hst fr hex c fl5.1.1 sm ff, hHe, o2, o3, o4, o5, B, a0, fl5, fun h' st sm' => Inv.moved (s := s) I1 I hst fr hex c st (sm.trans sm') ff⟩
theorem AtH.there (a : AtH X pins σ H ea C dd s) : ∃ ob, s.heap.get? ea = some ob ∧ ob.cls = .ref C := by
  obtain ⟨B, a0, fl, _⟩ := a.fly
  exact fl.1.there
variable {cx n : Str} {np hpos : Pos} {nm : Option Str} {body : List Stmt} {rest : List ExceptHandler} {b₀ : Stmt} {suite : List Stmt} {th : TS} {i : Nat}
theorem missA {Q : Flow → Shared → Prop} (a : AtH X pins σ H ea C dd s) (hg : Gl X cx) (hm : X.mg cx = some (.ref CB)) (mt : MatchX X C CB false) (hd : (cx == ("__debug__" : Str)) = false)
    (k : wpAny (model X.prog X.w) X.A (handleBy (.ref ea) X.env rest) Q E s) : wpAny (model X.prog X.w) X.A (handleBy (.ref ea) X.env (.ExceptHandler (some (.Name cx np)) nm body hpos :: rest)) Q E s := by
  obtain ⟨ob, ho, hc⟩ := a.there
  refine wpAny_handleBy_cons (codeAny_handlers_test (ld_glob (X := X.hnd (.ref ea)) (a.inv.hnd (.ref ea)) hg hm ?_ hd)) (by intro z; cases z)
  exact mt _ _ ea ob _ _ a.inv.kIn ho hc k
theorem hitA (a : AtH X pins σ H ea C dd s) (hg : Gl X cx) (hm : X.mg cx = some (.ref CB)) (mt : MatchX X C CB true) (hd : (cx == ("__debug__" : Str)) = false) (hs : ∀ ev, PSs (X.hnd ev) (b₀ :: suite) th) (hN : X.N.Nodup) (hi : X.N[i]? = some n) (hk : X.env.scope.names.lookup n = some .local)
    (q : th (D.gone i) (σ.set i (some (.ref ea))) (upd H ea (ExcA ea C dd))) : wpAny (model X.prog X.w) X.A (handleBy (.ref ea) X.env (.ExceptHandler (some (.Name cx np)) (some n) (b₀ :: suite) hpos :: rest)) (SP X pins D) E s := by
  obtain ⟨ob, ho, hc⟩ := a.there
  obtain ⟨B, a0, fl, mv⟩ := a.fly
  refine wpAny_handleBy_cons (codeAny_handlers_test (ld_glob (X := X.hnd (.ref ea)) (a.inv.hnd (.ref ea)) hg hm ?_ hd)) (by intro z; cases z)
  refine mt _ _ ea ob _ _ a.inv.kIn ho hc (codeAny_handlers_suite_as ?_)
  refine againD fl fun h6 fl6 sm6 => ?_
  have I6 := mv h6 fl6.1.1 sm6
  obtain ⟨oe, ws, hoe, hoec, hoed, hoe0⟩ := fl6.1.first
  obtain ⟨o2, z2, hdd⟩ := fl6.2
  rw [hoe] at z2
  cases z2
  have ncls : PySem.W.notCls oe = true := by
    unfold PySem.W.notCls
    rw [hoed]
  have I7 := Inv.track I6 a.new (fun H' => ok_excA (H := H') hoe hoec hdd ncls) a.old a.nl a.nc a.np
  refine store_ok I7 hN hi (.inl hk) (v := .ref ea) rfl (fun s7 I8 => ?_) (.inr hk)
  refine wpAny_mono (hs (.ref ea) pins _ _ _ (D.gone i) (I8.hnd _) q) (fun f s8 h8 => ?_) fun _ _ z => z.elim
  have h9 := SP.unhnd a.inv.ok h8
  cases f with
  | next => obtain ⟨σ', H', I', q'⟩ := h9; exact goes_ok I' hN hi hk fun s9 I9 => ⟨_, H', I9, q'⟩
  | brk => obtain ⟨σ', H', I', q'⟩ := h9; exact goes_ok I' hN hi hk fun s9 I9 => ⟨_, H', I9, q'⟩
  | cont => obtain ⟨σ', H', I', q'⟩ := h9; exact goes_ok I' hN hi hk fun s9 I9 => ⟨_, H', I9, q'⟩
  | ret v => obtain ⟨x, σ', H', I', r, q'⟩ := h9; exact goes_ok I' hN hi hk fun s9 I9 => ⟨x, _, H', I9, r, q'⟩
end
def XPA (X : Cx) (pins : List (Addr × Obj)) (σ : St) (E : XK) (ev : Value) (s' : Shared) : Prop := ∃ s1 H1 ea C dd n tk H', Inv X pins σ H1 s1 ∧ ev = .ref ea ∧ Inv X pins σ H' s' ∧ FlyA X.stack s1.heap H' ea C dd s'.heap ∧ H' dd = some (atX n) ∧ E (.int n tk) (some C) H'
def PEXA (X : Cx) (e : Expr) (t : TX) : Prop :=
  ∀ (pins : List (Addr × Obj)) (s : Shared) (σ : St) (H : Hp) (Q : VK) (E : XK), Inv X pins σ H s → t σ H Q E → wpAny (model X.prog X.w) X.A (eval e X.env) (EP X pins σ Q) (XPA X pins σ E) s
section
variable {X : Cx} {k : Nat} {f C : Addr} {fd : FuncData} {ps : List Str} {sp : Sp} {x : Str} {p pos : Pos} {e : Expr} {es : List Expr} {t : TA}
theorem pexA_call (F : FnOk X.prog X.w X.K X.mg X.base (CXA X.prog X.w) k f fd ps sp) (hr : Room k X.A) (hg : Gl X x) (hm : X.mg x = some (.ref f)) (hk : PySem.W.keepIn X.K (.ref f) = true) (hb : Binds X.K fd ps [])
    (ha : PA X.nox (e :: es) t) (hdb : (x == ("__debug__" : Str)) = false := by decide) (he : starEach (e :: es) X.env = (false, eval e X.env) :: starEach es X.env := by rfl) (hpl : (backTo pos (starEach es X.env)).any (·.1) = false := by rfl) :
    PEXA X (.Call (.Name x p) (e :: es) [] pos) (xCall sp [] t) := by
  intro pins s σ H Q E I h
  refine wpAny_Call_Name_kw (ld_glob I hg hm ?_ hdb)
  refine PySem.W.callWith_K (h₀ := X.base) I.ok.mod.kin hk (nox (ha pos pins s σ H _ (I.wish _) h) fun us s1 ⟨vs, H1, I1, r, q⟩ => ⟨I1.unwish.kIn, ?_⟩) he hpl
  have I2 := I1.unwish
  have r2 : Vals (vs ++ []) (us ++ []) := r.append .nil
  have hl : (us ++ ([] : List Value)).length = ps.length := by rw [← r2.length]; exact F.len _ _ _ _ q
  refine wpAny_call (codeAny_mono (F.run X.A X.stack s1 H1 ⟨us, []⟩ (us ++ []) (vs ++ []) Q E hr I2.env0 (hb s1 us I2.kIn hl) r2 q) fun rr s' hq => ?_)
  cases rr with
  | error e =>
    obtain ⟨ea, C, dd, n, tk, H', e1, I', fl, hd, q⟩ := cameA I2 hq
    exact ⟨s1, H1, ea, C, dd, n, tk, H', I2, e1, I', fl, hd, q⟩
  | ok fl =>
    cases fl with
    | ret u => exact I2.after hq
    | next => exact False.elim hq
    | brk => exact False.elim hq
    | cont => exact False.elim hq
end
section
variable {X : Cx} {e : Expr} {t : TX} {c1 c2 y n : Str} {np np2 hpos hpos2 pos py apos epos : Pos} {b₁ b₂ o₀ : Stmt} {s₁ s₂ os : List Stmt} {th th2 to : TS} {i j : Nat} {B1 B2 : Addr}
def xAt (i : Nat) (th : TS) (n : Int) (C : Addr) (D : Ends) (σ : St) (H : Hp) : Prop := ∀ ea dd, H ea = none → H dd = some (atX n) → th (D.gone i) (σ.set i (some (.ref ea))) (upd H ea (ExcA ea C dd))
def tTry2 (X : Cx) (i j : Nat) (B1 B2 : Addr) (t : TX) (th th2 to : TS) : TS := fun D σ H => t σ H (fun v H1 => to D (σ.set j (some v)) H1) fun ev c H1 => ∃ m tk C, ev = .int m tk ∧ c = some C ∧
  ((MatchX X C B1 true ∧ xAt i th m C D σ H1) ∨ (MatchX X C B1 false ∧ MatchX X C B2 true ∧ xAt i th2 m C D σ H1))
theorem ps_try2 (hst : X.stack = X.env :: X.outer) (fr : X.env.frame = some X.env.locals) (hex : X.ex = []) (hN : X.N.Nodup) (hj : X.N[j]? = some y) (hy : Loc X.env.scope y) (hi : X.N[i]? = some n) (hk : X.env.scope.names.lookup n = some .local)
    (he : PEXA X e t) (hg1 : Gl X c1) (hm1 : X.mg c1 = some (.ref B1)) (hg2 : Gl X c2) (hm2 : X.mg c2 = some (.ref B2)) (hs : ∀ ev, PSs (X.hnd ev) (b₁ :: s₁) th) (hs2 : ∀ ev, PSs (X.hnd ev) (b₂ :: s₂) th2) (ho : PSs X (o₀ :: os) to)
    (hd1 : (c1 == ("__debug__" : Str)) = false := by decide) (hd2 : (c2 == ("__debug__" : Str)) = false := by decide) (hsw : swapsWith e (some (.Name y py)) apos.line X.env = pure false := by rfl)
    (hf : X.fn y = true ∨ X.env.scope.names.lookup y = some .local := by first | exact .inl rfl | exact .inr rfl | assumption) :
    PS X (.Try [.Assign [.Name y py] e apos] [.ExceptHandler (some (.Name c1 np)) (some n) (b₁ :: s₁) hpos, .ExceptHandler (some (.Name c2 np2)) (some n) (b₂ :: s₂) hpos2] (o₀ :: os) [] pos) (tTry2 X i j B1 B2 t th th2 to) := by
  intro pins s σ H D I h
  refine wpAny_Try_except (wpAny_execs_cons (wpAny_mono (wpAny_Assign_Name (Q := fun f s1 => f = .next ∧ ∃ v H1, Inv X pins (σ.set j (some v)) H1 s1 ∧ to D (σ.set j (some v)) H1) (wpAny_mono (he pins s σ H _ _ I h) (fun v s1 ⟨y1, H1, I1, r1, q1⟩ => ?_) fun ev s1 hx => ?_) hsw) (fun f s1 hq => ?_) fun _ _ z => z))
  · exact store_ok I1 hN hj hy r1 (fun s2 I2 => ⟨rfl, _, H1, I2, q1⟩) hf
  · obtain ⟨s0, H0, ea, C', dd, m0, tk0, H', I0, rfl, I', fl, hdd, m, tk, C, e1, e2, q⟩ := hx
    obtain rfl : C' = C := Option.some.inj e2
    cases e1
    refine comesA I0 I' hst fr hex fl fun h5 a => ?_
    rcases q with ⟨mt, q⟩ | ⟨mt, mt2, q⟩
    · exact hitA a hg1 hm1 mt hd1 hs hN hi hk (q ea dd a.new hdd)
    · exact missA a hg1 hm1 mt hd1 (hitA a hg2 hm2 mt2 hd2 hs2 hN hi hk (q ea dd a.new hdd))
  · obtain ⟨rfl, v, H1, I1, q1⟩ := hq
    exact wpAny_execs_nil (ho pins s1 _ H1 D I1 q1)
def tTry1 (X : Cx) (i : Nat) (B1 : Addr) (t : TX) (th : TS) : TS := fun D σ H => t σ H (fun v H1 => D.nx σ H1) fun ev c H1 => ∃ m tk C, ev = .int m tk ∧ c = some C ∧ MatchX X C B1 true ∧ xAt i th m C D σ H1
theorem ps_try1 (hst : X.stack = X.env :: X.outer) (fr : X.env.frame = some X.env.locals) (hex : X.ex = []) (hN : X.N.Nodup) (hi : X.N[i]? = some n) (hk : X.env.scope.names.lookup n = some .local)
    (he : PEXA X e t) (hg1 : Gl X c1) (hm1 : X.mg c1 = some (.ref B1)) (hs : ∀ ev, PSs (X.hnd ev) (b₁ :: s₁) th) (hd1 : (c1 == ("__debug__" : Str)) = false := by decide) (hsw : swapsWith e none epos.line X.env = pure false := by rfl) :
    PS X (.Try [.Expr e epos] [.ExceptHandler (some (.Name c1 np)) (some n) (b₁ :: s₁) hpos] [] [] pos) (tTry1 X i B1 t th) := by
  intro pins s σ H D I h
  refine wpAny_Try_except (wpAny_execs_cons (wpAny_mono (wpAny_Expr_any (Q := fun f s1 => f = .next ∧ SP X pins D .next s1) (wpAny_mono (he pins s σ H _ _ I h) (fun v s1 ⟨y1, H1, I1, r1, q1⟩ => ?_) fun ev s1 hx => ?_) I.quiet hsw) (fun f s1 hq => ?_) fun _ _ z => z))
  · exact ⟨rfl, _, H1, I1, q1⟩
  · obtain ⟨s0, H0, ea, C', dd, m0, tk0, H', I0, rfl, I', fl, hdd, m, tk, C, e1, e2, mt, q⟩ := hx
    obtain rfl : C' = C := Option.some.inj e2
    cases e1
    exact comesA I0 I' hst fr hex fl fun h5 a => hitA a hg1 hm1 mt hd1 hs hN hi hk (q ea dd a.new hdd)
  · obtain ⟨rfl, hq⟩ := hq
    exact wpAny_execs_nil (wpAny_execs_nil hq)
end
end L2.XA
namespace L2.XA
open PySem PySem.Spec PyProof.Rows _root_.XA
structure FnH (P : Program) (w : World) (K : PySem.W.Frag) (mg : Str → Option Value) (base : Heap) (k : Nat) (f : Addr) (fd : FuncData) (ps : List Str) (sp : Sp) : Prop where
  len : ∀ vs H Q E, sp vs H Q E → vs.length = ps.length
  run : ∀ (ev : Value) (A : Around) (outer : List Env) (s : Shared) (H : Hp) (args : Args) (us : List Value) (vs : List V) (Q : VK) (E : XK), Room k A → Env0 P w K mg base A outer s H → BindsTo s fd args (ps.zip us) → Vals vs us → sp vs H Q E →
    codeAny (model P w) (A.mark (some ev)) (.call (.ref f) args) (CR CX0 outer P w H s Q E) s
section
variable {P : Program} {w : World} {K : PySem.W.Frag} {mg : Str → Option Value} {base : Heap}
theorem okH {x qual : Str} {st : Stmt} {f : Addr} {fd : FuncData} {N ps : List Str} {k : Nat} {sp : Sp} (F : Fun K x qual st f fd) (S : FnScope N ps (defScope st)) (len : ∀ vs H Q E, sp vs H Q E → vs.length = ps.length)
    (hb : ∀ (ev : Value) (cdv : Value) (A : Around) (outer : List Env) (s : Shared) (H : Hp) (vs : List V) (Q : VK) (E : XK), Room k (A.deeper (envOfC qual (defScope st) s.heap.objs.size f cdv)) → sp vs H Q E →
      ∃ t, PSs ((cxOf CX0 P w K mg base N qual (defScope st) f cdv A outer s H E).hnd ev) (defBody st) t ∧ t { nx := fun _ H' => Q .non H', rt := Q } (start N vs) H) : FnH P w K mg base (k + 1) f fd ps sp := by
  obtain ⟨oc, od, kV, doc, pm, an, cdv, ct, osl, rfl, lk, hcd⟩ := F.ex
  refine ⟨len, fun ev A outer s H args us vs Q E hr e0 hbi r hsp => ?_⟩
  have kin : K.In s.heap := e0.mod.kin.keeps fun b o e => (e0.bs b o e).1
  have nol : s.heap.NoLimit := e0.mod.nolimit.keeps fun b o e => (e0.bs b o e).1
  have kinds : ∀ y ∈ ps.zip us, (defScope st).names.lookup y.1 = some .local ∨ ((defScope st).names.lookup y.1 = some .cell ∧ ((cellsFrom (s.heap.objs.size + 1) (defScope st).names []).lookup y.1).isSome = true) := fun y hy =>
    (S.par y.1 (List.of_mem_zip (show (y.1, y.2) ∈ ps.zip us from hy)).1).imp id fun q => ⟨q, PySem.W.cellsFrom_some _ _ _ (.inl q)⟩
  refine codeAny_call_function (A := A.mark (some ev)) hr.depth (kin _ _ lk) rfl S.co S.gen rfl (PySem.W.codeRec_of kin hcd) (hbi _ _ _ _ (wpAny_newFunctionEnv_cells S.kind kinds fun env he s1 x => ?_))
  subst he
  obtain ⟨t, ht, hq⟩ := hb ev cdv A outer s H vs Q E (hr.deeper _) hsp
  have I := inv_start (CX := CX0) (E := E) (qual := qual) (f := f) (cd := cdv) S hr.hd e0 (len _ _ _ _ hsp) r x
  refine ⟨nol.keeps x.toInCall.keep, codeAny_func (wpAny_mono (ht [] s1 (start N vs) H _ (I.hnd ev) hq) (fun fl s' hs => ?_) fun e s' hs => hs.elim)⟩
  cases fl with
  | ret u =>
    obtain ⟨v, σ', H', J, rv, q⟩ := hs
    exact ⟨v, H', J.os, J.bare, J.base, J.hok, rv, q⟩
  | next =>
    obtain ⟨σ', H', J, q⟩ := hs
    exact ⟨.non, H', J.os, J.bare, J.base, J.hok, rfl, q⟩
  | brk =>
    obtain ⟨_, _, _, q⟩ := hs
    exact False.elim q
  | cont =>
    obtain ⟨_, _, _, q⟩ := hs
    exact False.elim q
end
structure GH (P : Program) (w : World) (K : PySem.W.Frag) (mg : Str → Option Value) (base : Heap) (k : Nat) (x : Str) (ps : List Str) (sp : Sp) : Prop where
  ex : ∃ f fd, FnH P w K mg base k f fd ps sp ∧ Binds K fd ps [] ∧ mg x = some (.ref f) ∧ PySem.W.keepIn K (.ref f) = true
section
variable {Y : Cx} {A0 : Around} {ev : Value} {j k : Nat} {ps : List Str} {sp : Sp} {x : Str} {p pos : Pos} {e : Expr} {es : List Expr} {t : TA}
theorem pcH (G : GH Y.prog Y.w Y.K Y.mg Y.base j x ps sp) (hr : Room k A0) (hY : Y.A = A0.mark (some ev)) (ha : PA Y (e :: es) t) (hk : j ≤ k := by decide) (hg : Gl Y x := by rfl)
    (hdb : (x == ("__debug__" : Str)) = false := by decide) (he : starEach (e :: es) Y.env = (false, eval e Y.env) :: starEach es Y.env := by rfl) (hpl : (backTo pos (starEach es Y.env)).any (·.1) = false := by rfl) :
    PE Y (.Call (.Name x p) (e :: es) [] pos) (tCall sp [] E0 t) := by
  obtain ⟨f, fd, F, hb, hm, hkp⟩ := G.ex
  intro pins s σ H Q I h
  refine wpAny_Call_Name_kw (ld_glob I hg hm ?_ hdb)
  refine PySem.W.callWith_K (h₀ := Y.base) I.ok.mod.kin hkp (thn (ha pos pins s σ H _ I h) fun us s1 ⟨vs, H1, I1, r, q⟩ => ⟨I1.kIn, ?_⟩) he hpl
  have r2 : Vals (vs ++ []) (us ++ []) := r.append .nil
  have hl : (us ++ ([] : List Value)).length = ps.length := by rw [← r2.length]; exact F.len _ _ _ _ q
  have e1 := I1.env0
  have ef : A0.frames = some Y.stack := by
    have z := e1.frames
    rw [hY] at z
    exact z
  have e2 : Env0 Y.prog Y.w Y.K Y.mg Y.base A0 Y.stack s1 H1 := ⟨ef, e1.mod, e1.bs, e1.bsz, e1.funs, e1.frf, e1.hok, e1.bare⟩
  have z := F.run ev A0 Y.stack s1 H1 ⟨us, []⟩ (us ++ []) (vs ++ []) Q E0 (hr.mono hk) e2 (hb s1 us I1.kIn hl) r2 q
  rw [← hY] at z
  refine wpAny_call (codeAny_mono z fun rr s' hq => ?_)
  cases rr with
  | error e => exact False.elim hq
  | ok fl =>
    cases fl with
    | ret u => exact I1.after hq
    | next => exact False.elim hq
    | brk => exact False.elim hq
    | cont => exact False.elim hq
end
end L2.XA
set_option maxHeartbeats 1000000
namespace St
open PySem PySem.Spec PyProof.Rows L2 Lo Km PySem.NumText
def lastI : Wd → List Int → Int
  | .sum, [_, _, b] => b
  | _, _ :: c :: _ => c
  | _, _ => 0
def thereB (sz : List Int) (x : Stp) : Bool := match hvI (houseV x.1 x.2) with
  | none => true
  | some h => decide (h < (sz.length : Nat)) && decide (lastI x.1 x.2 < (sz[h.toNat]?).getD 0)
def thereAll (sz : List Int) (xs : List Stp) (k : Nat) : Prop := ∀ j, j < k → ∀ x, xs[j]? = some x → thereB sz x = true
def noNeed (xs : List Stp) (k : Nat) : Prop := ∀ j, turnOf xs < j → j < k → ∀ x, xs[j]? = some x → x.1 ≠ .need
inductive Due (b : Bool) (sz : List Int) (xs : List Stp) : Option (Bool × Nat) → Prop
  | place {k : Nat} {x : Stp} : xs[k]? = some x → thereB sz x = false → thereAll sz xs k → Due b sz xs (some (true, k))
  | way {k : Nat} {x : Stp} : thereAll sz xs xs.length → b = true → turnOf xs < k → xs[k]? = some x → x.1 = .need → noNeed xs k → Due b sz xs (some (false, k))
  | calm : thereAll sz xs xs.length → (b = true → noNeed xs xs.length) → Due b sz xs none
theorem lt_of_at {α : Type} {xs : List α} {k : Nat} {x : α} (h : xs[k]? = some x) : k < xs.length := (List.getElem?_eq_some_iff.mp h).1
theorem Due.one {b : Bool} {sz : List Int} {xs : List Stp} {o o' : Option (Bool × Nat)} (h : Due b sz xs o) (h' : Due b sz xs o') : o = o' := by
  have bad : ∀ {k x}, xs[k]? = some x → thereB sz x = false → thereAll sz xs xs.length → False := fun {k x} e n a => by
    rw [a k (lt_of_at e) x e] at n
    cases n
  cases h with
  | place e n a =>
    cases h' with
    | place e' n' a' =>
      rename_i k x k' x'
      rcases Nat.lt_trichotomy k k' with z | z | z
      · rw [a' k z x e] at n; cases n
      · rw [z]
      · rw [a k' z x' e'] at n'; cases n'
    | way a' _ _ _ _ _ => exact (bad e n a').elim
    | calm a' _ => exact (bad e n a').elim
  | way a hb t e n nn =>
    cases h' with
    | place e' n' _ => exact (bad e' n' a).elim
    | way a2 hb2 t' e' n' nn' =>
      rename_i k x k' x'
      rcases Nat.lt_trichotomy k k' with z | z | z
      · exact absurd n (nn' k t z x e)
      · rw [z]
      · exact absurd n' (nn k' t' z x' e')
    | calm _ c => exact absurd n (c hb _ t (lt_of_at e) _ e)
  | calm a c =>
    cases h' with
    | place e' n' _ => exact (bad e' n' a).elim
    | way _ hb t e n _ => exact absurd n (c hb _ t (lt_of_at e) _ e)
    | calm _ _ => rfl
def rDu (H : Hp) : Option (Bool × Nat) → V → Prop
  | none, u => u = .non
  | some (p, k), u => ∃ a, u = .ref a ∧ H a = some (.tup [.str (if p then "place" else "way"), .int (k : Nat)])
theorem rDu.keep {H H' : Hp} {o : Option (Bool × Nat)} {u : V} (e : Same H H') (h : rDu H o u) : rDu H' o u := by
  cases o with
  | none => exact h
  | some x =>
    obtain ⟨p, k⟩ := x
    obtain ⟨a, rfl, q⟩ := h
    exact ⟨a, rfl, e _ _ q⟩
def Sz (H : Hp) (q : Addr) (sz : List Int) : Prop := H q = some (.lst (sz.map V.int))
theorem house_there {x : Stp} (h : Ar x.1 x.2) : (houseV x.1 x.2 = .non ∧ lockO x.1 x.2 = none) ∨ ∃ i, houseV x.1 x.2 = .int i ∧ 0 ≤ i ∧ ∃ k f, lockO x.1 x.2 = some (k, f, lastI x.1 x.2) := by
  obtain ⟨wd, ns⟩ := x
  cases wd with
  | take => obtain ⟨a, b, e, h1, _⟩ := Ar.c (w := .take) rfl h; have e' : ns = [a, b] := e; subst e'; exact .inr ⟨a, rfl, h1.1, _, _, rfl⟩
  | mean => obtain ⟨a, b, e, h1, _⟩ := Ar.c (w := .mean) rfl h; have e' : ns = [a, b] := e; subst e'; exact .inr ⟨a, rfl, h1.1, _, _, rfl⟩
  | give => obtain ⟨a, b, e, h1, _⟩ := Ar.c (w := .give) rfl h; have e' : ns = [a, b] := e; subst e'; exact .inr ⟨a, rfl, h1.1, _, _, rfl⟩
  | sum => obtain ⟨a, b, c, e, h1, _⟩ := Ar.s h; have e' : ns = [a, b, c] := e; subst e'; exact .inr ⟨a, rfl, h1.1, _, _, rfl⟩
  | add => obtain ⟨a, b, c, e, h1, _⟩ := Ar.a h; have e' : ns = [a, b, c] := e; subst e'; exact .inr ⟨a, rfl, h1.1, _, _, rfl⟩
  | plus => exact .inl ⟨rfl, rfl⟩
  | need => exact .inl ⟨rfl, rfl⟩
section
variable (CP : Addr) (CW : Wd → Addr)
def spThere : Sp := fun vs H Q _ => ∃ v q x sz, vs = [v, .ref q] ∧ Ar x.1 x.2 ∧ StO CW H x.1 x.2 v ∧ Sz H q sz ∧ ∀ H', Same H H' → Q (.bl (thereB sz x)) H'
def spLkB (CB : Addr) : Sp := fun vs H Q E => ∃ v b xs, vs = [v] ∧ PaO CP CW H (mS b) xs v ∧ xs.length ≤ 20 ∧ (noNeed xs xs.length → ∀ H', Same H H' → Q .non H') ∧
  ∀ k x H' tk, turnOf xs < k → xs[k]? = some x → x.1 = .need → noNeed xs k → Same H H' → E (.int (k : Nat) tk) (some CB) H'
def spLook (CA CB : Addr) : Sp := fun vs H Q E => ∃ v q b xs sz, vs = [v, .ref q] ∧ PaO CP CW H (mS b) xs v ∧ ArS xs ∧ xs.length ≤ 20 ∧ Sz H q sz ∧ (Due b sz xs none → ∀ H', Same H H' → Q .non H') ∧
  ∀ p k H' tk, Due b sz xs (some (p, k)) → Same H H' → E (.int (k : Nat) tk) (some (if p then CA else CB)) H'
def spFound : Sp := fun vs H Q _ => ∃ v q b xs sz, vs = [v, .ref q] ∧ PaO CP CW H (mS b) xs v ∧ ArS xs ∧ xs.length ≤ 20 ∧ Sz H q sz ∧ ∀ o u H', Due b sz xs o → Same H H' → rDu H' o u → Q u H'
def spAny : Sp := fun vs H Q _ => ∃ v q b xs sz p k, vs = [v, .ref q] ∧ PaO CP CW H (mS b) xs v ∧ ArS xs ∧ xs.length ≤ 20 ∧ Sz H q sz ∧ Due b sz xs (some (p, k)) ∧ ∀ H', Same H H' → Q (.bl true) H'
end
def spHand : Sp := fun vs H Q _ => ∃ n, vs = [.int n] ∧ ∀ H', Same H H' → Q (.bl true) H'
def spPlace : Sp := fun vs H Q _ => ∃ n m, vs = [.int n, .int m] ∧ 0 ≤ n ∧ n < 2147483647 ∧ 1 ≤ m ∧ m ≤ 8 ∧ ∀ r, inN r → Q (.int r) H
def SzOk (sz : List Int) : Prop := 1 ≤ sz.length ∧ sz.length ≤ 5 ∧ ∀ m ∈ sz, 1 ≤ m ∧ m ≤ 8
def spLSt2 : Sp := fun vs H Q _ => ∃ c q sz, vs = [.int c, .ref q] ∧ Sz H q sz ∧ SzOk sz ∧ ∀ wd ns v H', Ar wd ns → Same H H' → tSt H' wd ns v → Q v H'
def spLThere : Sp := fun vs H Q _ => ∃ v q x sz, vs = [v, .ref q] ∧ Ar x.1 x.2 ∧ tSt H x.1 x.2 v ∧ Sz H q sz ∧ Q (.bl (thereB sz x)) H
end St
set_option maxHeartbeats 4000000
namespace K26
open PySem L2 Lo
def top (i : Nat) : Stmt := PySem.Challenge.pw_pactroom_k26_looked_at.main.body.getD i (.Pass ⟨0, 0, 0, 0⟩)
abbrev m_NoText_init : Stmt := inClass (top 4) 0
abbrev m_NoPlace_init : Stmt := inClass (top 5) 0
abbrev m_NoWayBack_init : Stmt := inClass (top 6) 0
abbrev m_NoFit_init : Stmt := inClass (top 7) 0
abbrev m_Lock_init : Stmt := inClass (top 9) 0
abbrev m_Lock_told : Stmt := inClass (top 9) 4
abbrev m_Read_kind : Stmt := inClass (top 10) 0
abbrev m_Mean_kind : Stmt := inClass (top 11) 0
abbrev m_Change_kind : Stmt := inClass (top 12) 0
abbrev s_is_whole : Stmt := top 22
abbrev s_read_thing : Stmt := top 23
abbrev s_is_sign : Stmt := top 24
abbrev m_Reader_init : Stmt := inClass (top 25) 0
abbrev m_Reader_passes : Stmt := inClass (top 25) 1
abbrev m_Reader_read_any : Stmt := inClass (top 25) 2
abbrev m_Reader_read_below : Stmt := inClass (top 25) 4
abbrev m_Reader_read_number : Stmt := inClass (top 25) 5
abbrev m_Reader_read_signs : Stmt := inClass (top 25) 6
abbrev m_Step_house : Stmt := inClass (top 29) 0
abbrev m_Step_lock : Stmt := inClass (top 29) 1
abbrev m_Step_sure : Stmt := inClass (top 29) 4
abbrev m_CellStep_init : Stmt := inClass (top 30) 0
abbrev m_CellStep_house : Stmt := inClass (top 30) 1
abbrev m_TakeStep_lock : Stmt := inClass (top 31) 0
abbrev m_MeanStep_lock : Stmt := inClass (top 32) 0
abbrev m_SumStep_init : Stmt := inClass (top 33) 0
abbrev m_SumStep_house : Stmt := inClass (top 33) 1
abbrev m_SumStep_lock : Stmt := inClass (top 33) 2
abbrev m_GiveStep_lock : Stmt := inClass (top 34) 0
abbrev m_GiveStep_sure : Stmt := inClass (top 34) 2
abbrev m_AddStep_init : Stmt := inClass (top 35) 0
abbrev m_AddStep_lock : Stmt := inClass (top 35) 1
abbrev m_PlusStep_init : Stmt := inClass (top 36) 0
abbrev m_NeedStep_init : Stmt := inClass (top 37) 0
abbrev s_read_step : Stmt := top 38
abbrev s_read_number : Stmt := top 39
abbrev s_made_step : Stmt := top 40
abbrev s_made_sum : Stmt := top 41
abbrev m_Pact_init : Stmt := inClass (top 45) 0
abbrev s_read_pact : Stmt := top 46
abbrev s_read_part : Stmt := top 47
abbrev s_turning : Stmt := top 48
abbrev s_look : Stmt := top 49
abbrev s_is_there : Stmt := top 50
abbrev s_look_behind : Stmt := top 51
abbrev s__law_cell : Stmt := top 53
abbrev s__law_whole : Stmt := top 54
abbrev s__law_mixed : Stmt := top 55
abbrev s__law_place : Stmt := top 56
abbrev s__law_step : Stmt := top 57
abbrev s__law_is_there : Stmt := top 58
abbrev s__law_due : Stmt := top 59
abbrev s__law_found : Stmt := top 60
abbrev s__law_any : Stmt := top 61
abbrev s__law_by_hand : Stmt := top 62
abbrev s_law : Stmt := top 63
theorem sc_NoText_init : FnScope ["self", "at"] ["self", "at"] (defScope m_NoText_init) := ⟨rfl, rfl, rfl, by decide +kernel, rfl, by decide +kernel, by decide +kernel⟩
theorem sc_NoPlace_init : FnScope ["self", "at"] ["self", "at"] (defScope m_NoPlace_init) := ⟨rfl, rfl, rfl, by decide +kernel, rfl, by decide +kernel, by decide +kernel⟩
theorem sc_NoWayBack_init : FnScope ["self", "at"] ["self", "at"] (defScope m_NoWayBack_init) := ⟨rfl, rfl, rfl, by decide +kernel, rfl, by decide +kernel, by decide +kernel⟩
theorem sc_NoFit_init : FnScope ["self", "at"] ["self", "at"] (defScope m_NoFit_init) := ⟨rfl, rfl, rfl, by decide +kernel, rfl, by decide +kernel, by decide +kernel⟩
theorem sc_Lock_init : FnScope ["self", "first", "last"] ["self", "first", "last"] (defScope m_Lock_init) := ⟨rfl, rfl, rfl, by decide +kernel, rfl, by decide +kernel, by decide +kernel⟩
theorem sc_Lock_told : FnScope ["self"] ["self"] (defScope m_Lock_told) := ⟨rfl, rfl, rfl, by decide +kernel, rfl, by decide +kernel, by decide +kernel⟩
theorem sc_Read_kind : FnScope ["self"] ["self"] (defScope m_Read_kind) := ⟨rfl, rfl, rfl, by decide +kernel, rfl, by decide +kernel, by decide +kernel⟩
theorem sc_Mean_kind : FnScope ["self"] ["self"] (defScope m_Mean_kind) := ⟨rfl, rfl, rfl, by decide +kernel, rfl, by decide +kernel, by decide +kernel⟩
theorem sc_Change_kind : FnScope ["self"] ["self"] (defScope m_Change_kind) := ⟨rfl, rfl, rfl, by decide +kernel, rfl, by decide +kernel, by decide +kernel⟩
theorem sc_Step_house : FnScope ["self"] ["self"] (defScope m_Step_house) := ⟨rfl, rfl, rfl, by decide +kernel, rfl, by decide +kernel, by decide +kernel⟩
theorem sc_Step_lock : FnScope ["self"] ["self"] (defScope m_Step_lock) := ⟨rfl, rfl, rfl, by decide +kernel, rfl, by decide +kernel, by decide +kernel⟩
theorem sc_Step_sure : FnScope ["self"] ["self"] (defScope m_Step_sure) := ⟨rfl, rfl, rfl, by decide +kernel, rfl, by decide +kernel, by decide +kernel⟩
theorem sc_CellStep_init : FnScope ["self", "where", "cell"] ["self", "where", "cell"] (defScope m_CellStep_init) := ⟨rfl, rfl, rfl, by decide +kernel, rfl, by decide +kernel, by decide +kernel⟩
theorem sc_CellStep_house : FnScope ["self"] ["self"] (defScope m_CellStep_house) := ⟨rfl, rfl, rfl, by decide +kernel, rfl, by decide +kernel, by decide +kernel⟩
theorem sc_TakeStep_lock : FnScope ["self"] ["self"] (defScope m_TakeStep_lock) := ⟨rfl, rfl, rfl, by decide +kernel, rfl, by decide +kernel, by decide +kernel⟩
theorem sc_MeanStep_lock : FnScope ["self"] ["self"] (defScope m_MeanStep_lock) := ⟨rfl, rfl, rfl, by decide +kernel, rfl, by decide +kernel, by decide +kernel⟩
theorem sc_SumStep_init : FnScope ["self", "where", "low", "high"] ["self", "where", "low", "high"] (defScope m_SumStep_init) := ⟨rfl, rfl, rfl, by decide +kernel, rfl, by decide +kernel, by decide +kernel⟩
theorem sc_SumStep_house : FnScope ["self"] ["self"] (defScope m_SumStep_house) := ⟨rfl, rfl, rfl, by decide +kernel, rfl, by decide +kernel, by decide +kernel⟩
theorem sc_SumStep_lock : FnScope ["self"] ["self"] (defScope m_SumStep_lock) := ⟨rfl, rfl, rfl, by decide +kernel, rfl, by decide +kernel, by decide +kernel⟩
theorem sc_GiveStep_lock : FnScope ["self"] ["self"] (defScope m_GiveStep_lock) := ⟨rfl, rfl, rfl, by decide +kernel, rfl, by decide +kernel, by decide +kernel⟩
theorem sc_GiveStep_sure : FnScope ["self"] ["self"] (defScope m_GiveStep_sure) := ⟨rfl, rfl, rfl, by decide +kernel, rfl, by decide +kernel, by decide +kernel⟩
theorem sc_AddStep_init : FnScope ["self", "where", "cell", "amount"] ["self", "where", "cell", "amount"] (defScope m_AddStep_init) := ⟨rfl, rfl, rfl, by decide +kernel, rfl, by decide +kernel, by decide +kernel⟩
theorem sc_AddStep_lock : FnScope ["self"] ["self"] (defScope m_AddStep_lock) := ⟨rfl, rfl, rfl, by decide +kernel, rfl, by decide +kernel, by decide +kernel⟩
theorem sc_PlusStep_init : FnScope ["self", "amount"] ["self", "amount"] (defScope m_PlusStep_init) := ⟨rfl, rfl, rfl, by decide +kernel, rfl, by decide +kernel, by decide +kernel⟩
theorem sc_NeedStep_init : FnScope ["self", "amount"] ["self", "amount"] (defScope m_NeedStep_init) := ⟨rfl, rfl, rfl, by decide +kernel, rfl, by decide +kernel, by decide +kernel⟩
theorem sc_read_step : FnScope ["text", "words", "shape"] ["text"] (defScope s_read_step) := ⟨rfl, rfl, rfl, by decide +kernel, rfl, by decide +kernel, by decide +kernel⟩
def cm_read_step_0 : Scope := match defBody s_read_step with
  | _ :: _ :: _ :: .Return (some (.Call _ [_, .ListComp _ _ sc _] _ _)) _ :: _ => sc
  | _ => default
theorem sb_read_step_0 : BlkScope ["text", "words", "shape"] (defScope s_read_step) cm_read_step_0 "k" ["k", "words", "shape"] [1, 2] := ⟨by decide +kernel, rfl, by decide +kernel, rfl, by decide +kernel, by decide +kernel, rfl, rfl, by decide +kernel⟩
theorem sc_read_number : FnScope ["word", "letter", "number"] ["word", "letter"] (defScope s_read_number) := ⟨rfl, rfl, rfl, by decide +kernel, rfl, by decide +kernel, by decide +kernel⟩
theorem sc_made_step : FnScope ["word", "numbers"] ["word", "numbers"] (defScope s_made_step) := ⟨rfl, rfl, rfl, by decide +kernel, rfl, by decide +kernel, by decide +kernel⟩
theorem sc_made_sum : FnScope ["where", "low", "high"] ["where", "low", "high"] (defScope s_made_sum) := ⟨rfl, rfl, rfl, by decide +kernel, rfl, by decide +kernel, by decide +kernel⟩
theorem sc_Pact_init : FnScope ["self", "manner", "steps"] ["self", "manner", "steps"] (defScope m_Pact_init) := ⟨rfl, rfl, rfl, by decide +kernel, rfl, by decide +kernel, by decide +kernel⟩
theorem sc_read_pact : FnScope ["text", "pieces", "texts"] ["text"] (defScope s_read_pact) := ⟨rfl, rfl, rfl, by decide +kernel, rfl, by decide +kernel, by decide +kernel⟩
def cm_read_pact_0 : Scope := match defBody s_read_pact with
  | _ :: _ :: _ :: _ :: .Return (some (.Call _ [_, .ListComp _ _ sc _] _ _)) _ :: _ => sc
  | _ => default
theorem sb_read_pact_0 : BlkScope ["text", "pieces", "texts"] (defScope s_read_pact) cm_read_pact_0 "k" ["k", "texts"] [2] := ⟨by decide +kernel, rfl, by decide +kernel, rfl, by decide +kernel, by decide +kernel, rfl, rfl, by decide +kernel⟩
theorem sc_read_part : FnScope ["text", "number"] ["text", "number"] (defScope s_read_part) := ⟨rfl, rfl, rfl, by decide +kernel, rfl, by decide +kernel, by decide +kernel⟩
theorem sc_turning : FnScope ["pact", "k"] ["pact"] (defScope s_turning) := ⟨rfl, rfl, rfl, by decide +kernel, rfl, by decide +kernel, by decide +kernel⟩
theorem sc_look : FnScope ["pact", "sizes", "k"] ["pact", "sizes"] (defScope s_look) := ⟨rfl, rfl, rfl, by decide +kernel, rfl, by decide +kernel, by decide +kernel⟩
theorem sc_is_there : FnScope ["step", "sizes", "house"] ["step", "sizes"] (defScope s_is_there) := ⟨rfl, rfl, rfl, by decide +kernel, rfl, by decide +kernel, by decide +kernel⟩
theorem sc_look_behind : FnScope ["pact", "k"] ["pact"] (defScope s_look_behind) := ⟨rfl, rfl, rfl, by decide +kernel, rfl, by decide +kernel, by decide +kernel⟩
theorem sc__law_cell : FnScope ["_law_script", "_law_k"] ["_law_script", "_law_k"] (defScope s__law_cell) := ⟨rfl, rfl, rfl, by decide +kernel, rfl, by decide +kernel, by decide +kernel⟩
theorem sc__law_whole : FnScope ["_law_found_here"] ["_law_found_here"] (defScope s__law_whole) := ⟨rfl, rfl, rfl, by decide +kernel, rfl, by decide +kernel, by decide +kernel⟩
theorem sc__law_mixed : FnScope ["_law_cell_here", "_law_k", "_law_number"] ["_law_cell_here", "_law_k"] (defScope s__law_mixed) := ⟨rfl, rfl, rfl, by decide +kernel, rfl, by decide +kernel, by decide +kernel⟩
theorem sc__law_place : FnScope ["_law_number", "_law_size"] ["_law_number", "_law_size"] (defScope s__law_place) := ⟨rfl, rfl, rfl, by decide +kernel, rfl, by decide +kernel, by decide +kernel⟩
theorem sc__law_step : FnScope ["_law_cell_here", "_law_sizes", "_law_word", "_law_where", "_law_size", "_law_one", "_law_other"] ["_law_cell_here", "_law_sizes"] (defScope s__law_step) := ⟨rfl, rfl, rfl, by decide +kernel, rfl, by decide +kernel, by decide +kernel⟩
theorem sc__law_is_there : FnScope ["_law_step_here", "_law_sizes", "_law_last"] ["_law_step_here", "_law_sizes"] (defScope s__law_is_there) := ⟨rfl, rfl, rfl, by decide +kernel, rfl, by decide +kernel, by decide +kernel⟩
theorem sc__law_due : FnScope ["_law_manner", "_law_steps", "_law_sizes", "_law_k", "_law_given"] ["_law_manner", "_law_steps", "_law_sizes"] (defScope s__law_due) := ⟨rfl, rfl, rfl, by decide +kernel, rfl, by decide +kernel, by decide +kernel⟩
theorem sc__law_found : FnScope ["_law_pact", "_law_sizes", "_law_found_here", "_law_e"] ["_law_pact", "_law_sizes"] (defScope s__law_found) := ⟨rfl, rfl, rfl, by decide +kernel, rfl, by decide +kernel, by decide +kernel⟩
theorem sc__law_any : FnScope ["_law_pact", "_law_sizes", "_law_e"] ["_law_pact", "_law_sizes"] (defScope s__law_any) := ⟨rfl, rfl, rfl, by decide +kernel, rfl, by decide +kernel, by decide +kernel⟩
theorem sc__law_by_hand : FnScope ["_law_number", "_law_some", "_law_e"] ["_law_number"] (defScope s__law_by_hand) := ⟨rfl, rfl, rfl, by decide +kernel, rfl, by decide +kernel, by decide +kernel⟩
theorem sc_law : FnScope ["_law_script", "_law_sizes", "_law_manner", "_law_steps", "_law_texts", "_law_pact", "_law_handed", "_law_due_here"] ["_law_script"] (defScope s_law) := ⟨rfl, rfl, rfl, by decide +kernel, rfl, by decide +kernel, by decide +kernel⟩
def cm_law_0 : Scope := match defBody s_law with
  | _ :: .Assign _ (.ListComp _ _ sc _) _ :: _ => sc
  | _ => default
theorem sb_law_0 : BlkScope ["_law_script", "_law_sizes", "_law_manner", "_law_steps", "_law_texts", "_law_pact", "_law_handed", "_law_due_here"] (defScope s_law) cm_law_0 "_law_k" ["_law_k", "_law_script"] [0] := ⟨by decide +kernel, rfl, by decide +kernel, rfl, by decide +kernel, by decide +kernel, rfl, rfl, by decide +kernel⟩
def cm_law_1 : Scope := match defBody s_law with
  | _ :: _ :: _ :: .Assign _ (.ListComp _ _ sc _) _ :: _ => sc
  | _ => default
theorem sb_law_1 : BlkScope ["_law_script", "_law_sizes", "_law_manner", "_law_steps", "_law_texts", "_law_pact", "_law_handed", "_law_due_here"] (defScope s_law) cm_law_1 "_law_cell_here" ["_law_cell_here", "_law_sizes"] [1] := ⟨by decide +kernel, rfl, by decide +kernel, rfl, by decide +kernel, by decide +kernel, rfl, rfl, by decide +kernel⟩
def cm_law_2 : Scope := match defBody s_law with
  | _ :: _ :: _ :: _ :: _ :: .Assign _ (.ListComp _ _ sc _) _ :: _ => sc
  | _ => default
theorem sb_law_2 : BlkScope ["_law_script", "_law_sizes", "_law_manner", "_law_steps", "_law_texts", "_law_pact", "_law_handed", "_law_due_here"] (defScope s_law) cm_law_2 "_law_step_here" ["_law_step_here"] [] := ⟨by decide +kernel, rfl, by decide +kernel, rfl, by decide +kernel, by decide +kernel, rfl, rfl, fun j h => absurd h (Nat.not_lt_zero j)⟩
end K26
set_option maxHeartbeats 4000000
namespace K26T
open PySem L2 Km PySem.NumText
abbrev sWhole : Stmt := K26.s_is_whole
abbrev sRead : Stmt := K26.s_read_thing
abbrev sSign : Stmt := K26.s_is_sign
abbrev sInit : Stmt := K26.m_Reader_init
abbrev sPass : Stmt := K26.m_Reader_passes
abbrev sAny : Stmt := K26.m_Reader_read_any
abbrev sBelow : Stmt := K26.m_Reader_read_below
abbrev sNum : Stmt := K26.m_Reader_read_number
abbrev sSigns : Stmt := K26.m_Reader_read_signs
theorem tp : ¬ (("text" : Str) = "place") := by decide +kernel
def rf (z : Str) (k : Int) : List (Str × V) := putF "place" (.int k) (putF "text" (.str z) [])
theorem rf_eq (z : Str) (k : Int) : rf z k = ([("text", V.str z), ("place", V.int k)] : List (Str × V)) := by
  show (if ("text" : Str) = "place" then [(("text" : Str), V.int k)] else (("text" : Str), V.str z) :: putF "place" (V.int k) []) = ([("text", V.str z), ("place", V.int k)] : List (Str × V))
  rw [if_neg tp]
  all_goals rfl
theorem rf_text (z : Str) (k : Int) : (rf z k).lookup ("text" : Str) = some (.str z) := by
  unfold rf
  rw [lookup_putF, if_neg tp, lookup_putF, if_pos rfl]
theorem rf_place (z : Str) (k : Int) : (rf z k).lookup ("place" : Str) = some (.int k) := by
  unfold rf
  rw [lookup_putF, if_pos rfl]
theorem rf_no (z : Str) (k : Int) {m : Str} (h1 : ¬ m = "place") (h2 : ¬ m = "text") : (rf z k).lookup m = none := by
  unfold rf
  rw [lookup_putF, if_neg h1, lookup_putF, if_neg h2]
  all_goals rfl
theorem rf_put (z : Str) (k j : Int) : putF "place" (.int j) (rf z k) = rf z j := by
  rw [rf_eq, rf_eq]
  show (if ("text" : Str) = "place" then _ else (("text" : Str), V.str z) :: (if ("place" : Str) = "place" then [(("place" : Str), V.int j)] else _)) = ([("text", V.str z), ("place", V.int j)] : List (Str × V))
  rw [if_neg tp, if_pos rfl]
theorem rf_len (z : Str) (k : Int) : (rf z k).length = 2 := by rw [rf_eq]; rfl
structure Tx (K : PySem.W.Frag) (mg : Str → Option Value) (C : Addr) : Prop where
  cl : Cls K C
  nT : NoAttr K C "text"
  nP : NoAttr K C "place"
  mgC : mg "Reader" = some (.ref C)
  isi : mg "isinstance" = none
  int : mg "int" = none
  bool : mg "bool" = none
  str : mg "str" = none
  len : mg "len" = none
  ord : mg "ord" = none
  all : mg "all" = none
  range : mg "range" = none
  cFig : ∃ t, mg "MOST_FIGURES_things" = some (.int 400 t)
  cSig : ∃ t, mg "MOST_SIGNS" = some (.int 2000 t)
  cDeep : ∃ t, mg "MOST_DEEP" = some (.int 8 t)
  cLong : ∃ t, mg "LONGEST" = some (.int 100000 t)
  cBl : ∃ t, mg "BLANK" = some (.int 32 t)
  cPc : ∃ t, mg "PERCENT" = some (.int 37 t)
  cTi : ∃ t, mg "TILDE" = some (.int 126 t)
theorem gint {X : Cx} {x : Str} {i : Int} {pos : Pos} (hm : ∃ t, X.mg x = some (.int i t)) (hg : Gl X x) (hd : (x == ("__debug__" : Str)) = false := by decide) : PE X (.Name x pos) (tC (.int i)) := by
  obtain ⟨t, e⟩ := hm
  exact pe_glob hg e ⟨t, rfl⟩ hd
section
variable {K : PySem.W.Frag}
theorem kit_ii : PySem.W.kitOne K (.type "int") (.type "int") = some true := rfl
theorem kit_bb : PySem.W.kitOne K (.type "bool") (.type "bool") = some true := rfl
theorem kit_ib : PySem.W.kitOne K (.type "int") (.type "bool") = some false := by kernel_rfl
theorem kit_si : PySem.W.kitOne K (.type "str") (.type "int") = some false := by kernel_rfl
theorem kit_bi : PySem.W.kitOne K (.type "bool") (.type "int") = some true := by kernel_rfl
theorem kit_ni : PySem.W.kitOne K (.type "NoneType") (.type "int") = some false := by kernel_rfl
theorem kit_ti : PySem.W.kitOne K (.type "tuple") (.type "int") = some false := by kernel_rfl
end
section
variable {P : Program} {w : World} {K : PySem.W.Frag} {mg : Str → Option Value} {base : Heap} {f C : Addr} {fd : FuncData}
def wholeV (H : Hp) : V → Option Bool
  | .int _ => some true
  | .str _ => some false
  | .bl _ => some false
  | .non => some false
  | .ref a => match H a with
    | some (.tup _) => some false
    | _ => none
  | _ => none
def spWhole : Sp := fun vs H Q _ => ∃ x b, vs = [x] ∧ wholeV H x = some b ∧ Q (.bl b) H
theorem scWhole : FnScope ["thing"] ["thing"] (defScope sWhole) := ⟨rfl, rfl, rfl, by decide +kernel, rfl, by decide +kernel, by decide +kernel⟩
theorem ok_whole (F : Fun K "is_whole" "is_whole" sWhole f fd) (T : Tx K mg C) : FnOk P w K mg base CX0 1 f fd ["thing"] spWhole := by
  refine F.ok scWhole (fun vs H Q E h => ?_) (fun cdv A outer s H vs Q E hr h => ?_)
  · obtain ⟨x, b, rfl, _⟩ := h
    rfl
  obtain ⟨x, b, rfl, hb, q⟩ := h
  refine ⟨_, pss_one (ps_ret (pe_and (pe_callB call_isinst rfl T.isi PyProof.Rows.boot_isinstance (pa_cons (pv 0) (pa_cons (pe_bltn (v := .ty "int") rfl T.int PyProof.Rows.boot_int rfl) pa_nil)))
    (pe_one (pe_not (pe_callB call_isinst rfl T.isi PyProof.Rows.boot_isinstance (pa_cons (pv 0) (pa_cons (pe_bltn (v := .ty "bool") rfl T.bool PyProof.Rows.boot_bool rfl) pa_nil))))))), ?_⟩
  cases x with
  | int i =>
    cases (Option.some.inj hb)
    refine ⟨_, rfl, _, _, _, _, rfl, TyOf.int i, kit_ii, _, rfl, iteT ?_⟩
    exact ⟨_, rfl, _, _, _, _, rfl, TyOf.int i, kit_ib, _, rfl, q⟩
  | str z =>
    cases (Option.some.inj hb)
    exact ⟨_, rfl, _, _, _, _, rfl, TyOf.str z, kit_si, _, rfl, iteF q⟩
  | bl c =>
    cases (Option.some.inj hb)
    refine ⟨_, rfl, _, _, _, _, rfl, TyOf.bl c, kit_bi, _, rfl, iteT ?_⟩
    exact ⟨_, rfl, _, _, _, _, rfl, TyOf.bl c, kit_bb, _, rfl, q⟩
  | non =>
    cases (Option.some.inj hb)
    exact ⟨_, rfl, _, _, _, _, rfl, TyOf.non, kit_ni, _, rfl, iteF q⟩
  | ref a =>
    have hb' : (match H a with | some (.tup _) => some false | _ => none) = some b := hb
    cases e : H a with
    | none => rw [e] at hb'; cases hb'
    | some o =>
      rw [e] at hb'
      cases o with
      | tup xs =>
        cases (Option.some.inj hb')
        exact ⟨_, rfl, _, _, _, _, rfl, TyOf.tup e, kit_ti, _, rfl, iteF q⟩
      | _ => cases hb'
  | _ => cases hb
theorem line_big : 1000000 ≤ sizeLine := by decide
def spSign : Sp := fun vs H Q _ => ∃ c : Nat, vs = [.str ⟨#[c]⟩] ∧ Q (.bl (okSign c)) H
theorem scSign : FnScope ["sign", "number"] ["sign"] (defScope sSign) := ⟨rfl, rfl, rfl, by decide +kernel, rfl, by decide +kernel, by decide +kernel⟩
theorem ok_sign (F : Fun K "is_sign" "is_sign" sSign f fd) (T : Tx K mg C) : FnOk P w K mg base CX0 1 f fd ["sign"] spSign := by
  refine F.ok scSign (fun vs H Q E h => ?_) (fun cdv A outer s H vs Q E hr h => ?_)
  · obtain ⟨c, rfl, _⟩ := h
    rfl
  obtain ⟨c, rfl, q⟩ := h
  refine ⟨_, pss_cons (ps_set (i := 1) scSign.nd rfl (Or.inl rfl) (pe_callB call_ord rfl T.ord PyProof.Rows.boot_ord (pa_cons (pv 0) pa_nil)))
    (pss_one (ps_ret (pe_and (pe_chain op_le op_le (gint T.cBl rfl) (pv 1) (gint T.cTi rfl)) (pe_one (pe_cmpR op_ne (pv 1) (gint T.cPc rfl) (nomark _)))))), ?_⟩
  refine ⟨_, rfl, _, rfl, rfl, ?_⟩
  refine ⟨_, rfl, _, _, rfl, rfl, _, rfl, ?_⟩
  have e0 : ((({ cps := #[c] } : Str).cps.getD 0 0 : Nat) : Int) = (c : Int) := rfl
  unfold okSign at q
  by_cases h1 : 32 ≤ c
  · have d1 : decide ((32 : Int) ≤ (({ cps := #[c] } : Str).cps.getD 0 0 : Nat)) = true := decide_eq_true (by rw [e0]; omega)
    rw [d1]
    refine iteT ⟨_, _, rfl, rfl, _, rfl, ?_⟩
    by_cases h2 : c ≤ 126
    · have d2 : decide (((({ cps := #[c] } : Str).cps.getD 0 0 : Nat) : Int) ≤ 126) = true := decide_eq_true (by rw [e0]; omega)
      rw [d2]
      refine iteT ⟨_, rfl, rfl, ?_⟩
      have e3 : (!decide (V.int (({ cps := #[c] } : Str).cps.getD 0 0 : Nat) = V.int 37)) = (decide (32 ≤ c) && decide (c ≤ 126) && decide (c ≠ 37)) := by
        rw [decide_eq_true h1, decide_eq_true h2, dec_int, e0]
        by_cases h3 : c = 37
        · subst h3; rfl
        · have : ((c : Int) == 37) = false := beq_eq_false_iff_ne.mpr (by omega)
          rw [this, decide_eq_true h3]; rfl
      rw [e3]
      exact q
    · have d2 : decide (((({ cps := #[c] } : Str).cps.getD 0 0 : Nat) : Int) ≤ 126) = false := decide_eq_false (by rw [e0]; omega)
      rw [d2]
      refine iteF ?_
      rw [decide_eq_false h2, Bool.and_false, Bool.false_and] at q
      exact q
  · have d1 : decide ((32 : Int) ≤ (({ cps := #[c] } : Str).cps.getD 0 0 : Nat)) = false := decide_eq_false (by rw [e0]; omega)
    rw [d1]
    refine iteF ⟨_, rfl, iteF ?_⟩
    rw [decide_eq_false h1, Bool.false_and, Bool.false_and] at q
    exact q
def spInit (C : Addr) : Sp := fun vs H Q _ => ∃ p dx z, vs = [.ref p, .str z] ∧ H p = some (.ins C dx []) ∧ Q .non (upd (upd H p (.ins C dx (putF "text" (.str z) []))) p (.ins C dx (rf z 0)))
theorem scInit : FnScope ["self", "text"] ["self", "text"] (defScope sInit) := ⟨rfl, rfl, rfl, by decide +kernel, rfl, by decide +kernel, by decide +kernel⟩
theorem ok_init (F : Fun K "__init__" "Reader.__init__" sInit f fd) (T : Tx K mg C) : FnOk P w K mg base CX0 1 f fd ["self", "text"] (spInit C) := by
  refine F.ok scInit (fun vs H Q E h => ?_) (fun cdv A outer s H vs Q E hr h => ?_)
  · obtain ⟨p, dx, z, rfl, _⟩ := h
    rfl
  obtain ⟨p, dx, z, rfl, hp, q⟩ := h
  refine ⟨_, pss_cons (ps_fld (pv 0) (pv 1) rfl) (pss_one (ps_fld (pv 0) pe_int rfl)), ?_⟩
  exact ⟨_, rfl, _, rfl, p, C, dx, [], rfl, hp, T.cl, T.nT, (by show 0 < 1000; decide), _, rfl, p, C, dx, _, rfl, upd_same, T.cl, T.nP, (by show 1 < 1000; decide), q⟩
theorem starts_one (z : Str) (c k : Nat) : Txt.startswith3 z ⟨#[c]⟩ (k : Int) = decide (z.cps.toList[k]? = some c) := by
  have e1 : fromIndex z.length (k : Int) = k := by
    unfold fromIndex
    rw [if_neg (by omega)]
    omega
  unfold Txt.startswith3
  rw [e1]
  have e2 : (({ cps := #[c] } : Str)).length = 1 := rfl
  rw [e2]
  by_cases h : k < z.length
  · have h' : k < z.cps.size := h
    have e3 : Builtin.Str.subAt z ⟨#[c]⟩ k = (z.cps[k] == c) := by
      unfold Builtin.Str.subAt
      rw [e2]
      have e4 : z.cps.extract k (k + 1) = #[z.cps[k]] := by
        apply Array.ext
        · simp; omega
        · intro i h1 h2
          have : i = 0 := by simp at h2; omega
          subst this
          simp
      rw [e4]
      simp
    rw [e3]
    have e5 : decide (k + 1 ≤ z.length) = true := decide_eq_true h
    rw [e5, Bool.true_and]
    have e6 : z.cps.toList[k]? = some z.cps[k] := by rw [Array.getElem?_toList]; exact Array.getElem?_eq_getElem h'
    rw [e6]
    simp [Bool.beq_eq_decide_eq]
  · have e5 : decide (k + 1 ≤ z.length) = false := decide_eq_false (by omega)
    rw [e5, Bool.false_and]
    have e6 : z.cps.toList[k]? = none := by rw [Array.getElem?_toList]; exact Array.getElem?_eq_none (by show z.length ≤ k; omega)
    rw [e6]
    simp
def spPass (C : Addr) : Sp := fun vs H Q _ => ∃ p dx z c, ∃ k : Nat, vs = [.ref p, .str ⟨#[c]⟩] ∧ H p = some (.ins C dx (rf z k)) ∧ 
  (if z.cps.toList[k]? = some c then Q (.bl true) (upd H p (.ins C dx (rf z ((k + 1 : Nat) : Int)))) else Q (.bl false) H)
theorem scPass : FnScope ["self", "sign"] ["self", "sign"] (defScope sPass) := ⟨rfl, rfl, rfl, by decide +kernel, rfl, by decide +kernel, by decide +kernel⟩
theorem ok_pass (F : Fun K "passes" "Reader.passes" sPass f fd) (T : Tx K mg C) : FnOk P w K mg base CX0 1 f fd ["self", "sign"] (spPass C) := by
  refine F.ok scPass (fun vs H Q E h => ?_) (fun cdv A outer s H vs Q E hr h => ?_)
  · obtain ⟨p, dx, z, c, k, rfl, _⟩ := h
    rfl
  obtain ⟨p, dx, z, c, k, rfl, hp, q⟩ := h
  refine ⟨_, pss_cons (ps_if (pt_not (pt_val (pe_bm PySem.F.plainAttrs_str PySem.F.slot_str_startswith PySem.F.type_str_startswith mt_startswith3 (pe_fld (pv 0) rfl) (pa_cons (pv 1) (pa_cons (pe_fld (pv 0) rfl) pa_nil))))) (pss_one (ps_ret pe_bl)) pss_nil)
    (pss_cons (ps_fldaug (pv 0) pe_int in_add) (pss_one (ps_ret pe_bl))), ?_⟩
  refine ⟨_, rfl, p, C, dx, _, _, rfl, hp, T.cl, T.nT, rf_text _ _, rfl, _, rfl, _, rfl, p, C, dx, _, _, rfl, hp, T.cl, T.nP, rf_place _ _, _, _, _, rfl, rfl, _, rfl, ?_⟩
  rw [starts_one]
  by_cases hk : z.cps.toList[k]? = some c
  · rw [if_pos hk] at q
    rw [decide_eq_true hk]
    refine iteF ?_
    refine ⟨_, rfl, p, C, dx, _, _, rfl, hp, T.cl, T.nP, rf_place _ _, _, _, rfl, rfl, dx, _, hp, (by rw [rf_len]; decide), ?_⟩
    rw [rf_put]
    have e : ((k : Int) + 1) = ((k + 1 : Nat) : Int) := by omega
    rw [e]
    exact q
  · rw [if_neg hk] at q
    rw [decide_eq_false hk]
    exact iteT q
end
theorem str_ext {x y : Str} (h : x.cps.toList = y.cps.toList) : x = y := by
  obtain ⟨a⟩ := x
  obtain ⟨b⟩ := y
  have : a = b := Array.toList_inj.mp h
  rw [this]
theorem len_cps (z : Str) : z.length = z.cps.toList.length := by simp [Str.length]
theorem slice_mid {z : Str} {pre ds post : List Nat} (e : z.cps.toList = pre ++ ds ++ post) : Txt.slice z (some ((pre.length : Nat) : Int)) (some (((pre.length + ds.length : Nat)) : Int)) = ⟨ds.toArray⟩ := by
  have hl : z.cps.toList.length = pre.length + ds.length + post.length := by rw [e]; simp; omega
  have q := PyProof.Rows.slice_closes (x := z) (i := ((pre.length : Nat) : Int)) (j := ((pre.length + ds.length : Nat) : Int)) ⟨by omega, by omega, by omega⟩
  rw [eq_of_beq q]
  refine str_ext ?_
  have e1 : (((pre.length + ds.length : Nat) : Int) - ((pre.length : Nat) : Int)).toNat = ds.length := by omega
  have e2 : (((pre.length : Nat) : Int)).toNat = pre.length := by omega
  rw [e1, e2, e, List.append_assoc, List.drop_left, List.take_left]
theorem slice_mid' {z : Str} {pre ds post : List Nat} {i j : Int} (e : z.cps.toList = pre ++ ds ++ post) (hi : i = ((pre.length : Nat) : Int)) (hj : j = ((pre.length + ds.length : Nat) : Int)) : Txt.slice z (some i) (some j) = ⟨ds.toArray⟩ := by
  subst hi hj
  exact slice_mid e
theorem uni_dig : ∀ c : Nat, c < 128 → Unicode.isDigit c = isDig c := by decide +kernel
theorem isdigit_one {c : Nat} (h : c < 128) : Txt.isdigit ⟨#[c]⟩ = isDig c := by
  rw [← uni_dig c h]
  unfold Txt.isdigit
  simp [Str.length]
def NumDs (ds : List Nat) : Prop := AllDigits ds ∧ ds ≠ [] ∧ ds.length ≤ 400 ∧ (ds = [48] ∨ ∀ c r, ds = c :: r → c ≠ 48)
def Stops (post : List Nat) : Prop := ∀ c r, post = c :: r → c < 128 ∧ isDig c = false
def But (p : Addr) (H H' : Hp) : Prop := ∀ b o, H b = some o → b ≠ p → H' b = some o
theorem But.refl (p : Addr) (H : Hp) : But p H H := fun _ _ e _ => e
theorem But.upd {p : Addr} {H H' : Hp} (h : But p H H') (o : HO) : But p H (L2.upd H' p o) := fun b u e n => by rw [upd_ne n]; exact h b u e n
theorem But.trans {p : Addr} {H H1 H2 : Hp} (a : But p H H1) (b : But p H1 H2) : But p H H2 := fun c o e n => b c o (a c o e n) n
theorem starts0 (x y : Str) : Txt.startswith x y = Txt.startswith3 x y ((0 : Nat) : Int) := by
  unfold Txt.startswith Txt.startswith3
  have e : fromIndex x.length ((0 : Nat) : Int) = 0 := by unfold fromIndex; simp
  rw [e]
section
variable {P : Program} {w : World} {K : PySem.W.Frag} {mg : Str → Option Value} {base : Heap} {f C : Addr} {fd : FuncData}
def spNum (C : Addr) : Sp := fun vs H Q _ => ∃ p dx z pre ds post, vs = [.ref p] ∧ z.cps.toList = pre ++ ds ++ post ∧ H p = some (.ins C dx (rf z (pre.length : Nat))) ∧ z.length ≤ 100000 ∧ NumDs ds ∧ Stops post ∧
  ∀ H', H' p = some (.ins C dx (rf z ((pre.length + ds.length : Nat) : Int))) → But p H H' → Q (.int (digitsVal ds : Nat)) H'
theorem scNum : FnScope ["self", "start", "figures"] ["self"] (defScope sNum) := ⟨rfl, rfl, rfl, by decide +kernel, rfl, by decide +kernel, by decide +kernel⟩
theorem e_empty : (Str.ofString "") = ⟨#[]⟩ := by decide +kernel
theorem e_zero : (Str.ofString "0") = ⟨#[48]⟩ := by decide +kernel
def tNumTest (K : PySem.W.Frag) : TT := tAnd (tTest (tOp (rI0 fun i j => .bl (decide (i < j))) (tFld K (tVar 0) "place") (tCB (fun xs H Q => ∃ z, xs = [.str z] ∧ z.length ≤ sizeLine ∧ Q (.int z.length) H) (tCons (tFld K (tVar 0) "text") tNil))))
  (tB (tBM0 K "str" (fun x vs H Q => ∃ z, x = .str z ∧ vs = [] ∧ Q (.bl (Txt.isdigit z)) H) (tOp rIxS (tFld K (tVar 0) "text") (tFld K (tVar 0) "place"))))
theorem num_test {p dx : Addr} {z : Str} {pre ds post : List Nat} {j : Nat} {σ : St} {H1 : Hp} {R : Bool → Hp → Prop} (T : Tx K mg C) (ez : z.cps.toList = pre ++ ds ++ post) (hz : z.length ≤ 100000) (d1 : AllDigits ds) (hpo : Stops post) (hj : j ≤ ds.length)
    (e0 : σ[0]? = some (some (.ref p))) (hp1 : H1 p = some (.ins C dx (rf z ((pre.length + j : Nat) : Int)))) (h : R (decide (j < ds.length)) H1) : tNumTest K σ H1 R := by
  have hu := line_big
  have lz : z.length = pre.length + ds.length + post.length := by rw [len_cps, ez]; simp; omega
  refine ⟨_, e0, p, C, dx, _, _, rfl, hp1, T.cl, T.nP, rf_place _ _, _, e0, p, C, dx, _, _, rfl, hp1, T.cl, T.nT, rf_text _ _, _, rfl, by omega, _, _, rfl, rfl, _, rfl, ?_⟩
  by_cases hlt : (pre.length + j : Nat) < z.length
  · rw [decide_eq_true (show (((pre.length + j : Nat)) : Int) < ((z.length : Nat) : Int) by omega)]
    have hlt' : pre.length + j < z.cps.toList.length := by rw [← len_cps]; exact hlt
    obtain ⟨c, hc⟩ : ∃ c, z.cps.toList[pre.length + j]? = some c := ⟨_, List.getElem?_eq_getElem hlt'⟩
    refine iteT ⟨_, e0, p, C, dx, _, _, rfl, hp1, T.cl, T.nT, rf_text _ _, _, e0, p, C, dx, _, _, rfl, hp1, T.cl, T.nP, rf_place _ _, z, _, c, rfl, rfl, by omega, atI_nat hc, rfl, _, rfl, rfl, _, rfl, ?_⟩
    by_cases hjd : j < ds.length
    · have ec : ds[j]? = some c := by
        rw [ez, List.append_assoc, List.getElem?_append_right (by omega), List.getElem?_append_left (by omega)] at hc
        rw [← hc]; congr 1; omega
      have dc : 48 ≤ c ∧ c ≤ 57 := d1 c (List.mem_of_getElem? ec)
      have e1 : Txt.isdigit ⟨#[c]⟩ = true := by rw [isdigit_one (by omega)]; unfold isDig; rw [decide_eq_true dc.1, decide_eq_true dc.2]; rfl
      rw [decide_eq_true hjd] at h
      rw [e1]
      exact h
    · have hjd' : j = ds.length := by omega
      have ec : post[0]? = some c := by
        rw [ez, List.getElem?_append_right (by rw [List.length_append]; omega)] at hc
        rw [← hc]; congr 1; rw [List.length_append]; omega
      have hp2 : c < 128 ∧ isDig c = false := by
        cases post with
        | nil => cases ec
        | cons a r => exact hpo c r (by rw [show a = c by simpa using ec])
      have e1 : Txt.isdigit ⟨#[c]⟩ = false := by rw [isdigit_one hp2.1]; exact hp2.2
      rw [decide_eq_false hjd] at h
      rw [e1]
      exact h
  · rw [decide_eq_false (show ¬ (((pre.length + j : Nat)) : Int) < ((z.length : Nat) : Int) by omega)]
    rw [decide_eq_false (show ¬ j < ds.length by omega)] at h
    exact iteF h
theorem ok_num (F : Fun K "read_number" "Reader.read_number" sNum f fd) (T : Tx K mg C) : FnOk P w K mg base CX0 1 f fd ["self"] (spNum C) := by
  refine F.ok scNum (fun vs H Q E h => ?_) (fun cdv A outer s H vs Q E hr h => ?_)
  · obtain ⟨p, dx, z, pre, ds, post, rfl, _⟩ := h
    rfl
  obtain ⟨p, dx, z, pre, ds, post, rfl, ez, hp, hz, hds, hpo, q⟩ := h
  obtain ⟨d1, d2, d3, d4⟩ := hds
  have hu := line_big
  have lz : z.length = pre.length + ds.length + post.length := by rw [len_cps, ez]; simp; omega
  refine ⟨_, pss_cons (ps_set (i := 1) scNum.nd rfl (Or.inl rfl) (pe_fld (pv 0) rfl))
    (pss_cons (ps_while (tc := tNumTest K) PassesOwn.never (PW.pt (pw_and (pt_cmpR op_lt (pe_fld (pv 0) rfl) (pe_callB call_len_str rfl T.len PySem.boot_len (pa_cons (pe_fld (pv 0) rfl) pa_nil)) (nomark _))
        (pw_and1 (pt_val (pe_bm0 PySem.F.plainAttrs_str PySem.F.slot_str_isdigit PySem.F.type_str_isdigit mt_isdigit (pe_ix ix_str (pe_fld (pv 0) rfl) (pe_fld (pv 0) rfl) (fun _ _ => rfl)))))))
      (pss_one (ps_fldaug (pv 0) pe_int in_add)))
    (pss_cons (ps_set (i := 2) scNum.nd rfl (Or.inl rfl) (pe_slice sl_str (pe_fld (pv 0) rfl) (po_some (pv 1)) (po_some (pe_fld (pv 0) rfl))))
    (pss_cons (ps_if (pt_cmpR op_eq (pv 2) pe_str (nomark _)) pss_never pss_nil)
    (pss_cons (ps_if (pt_cmpR op_gt (pe_callB call_len_str rfl T.len PySem.boot_len (pa_cons (pv 2) pa_nil)) (gint T.cFig rfl) (nomark _)) pss_never pss_nil)
    (pss_cons (ps_if (PW.pt (pw_and (pt_val (pe_bm PySem.F.plainAttrs_str PySem.F.slot_str_startswith PySem.F.type_str_startswith mt_startswith (pv 2) (pa_cons pe_str pa_nil))) (pw_and1 (pt_cmpR op_ne (pv 2) pe_str (nomark _))))) pss_never pss_nil)
    (pss_one (ps_ret (pe_callTy call_int_text rfl T.int PyProof.Rows.boot_int (pa_cons (pv 2) pa_nil))))))))), ?_⟩
  refine ⟨_, rfl, p, C, dx, _, _, rfl, hp, T.cl, T.nP, rf_place _ _, ?_⟩
  refine ⟨fun m σ H1 => ∃ j, m = ds.length - j ∧ j ≤ ds.length ∧ σ = [some (.ref p), some (.int (pre.length : Nat)), none] ∧ H1 p = some (.ins C dx (rf z ((pre.length + j : Nat) : Int))) ∧ But p H H1,
    ⟨ds.length, 0, rfl, Nat.zero_le _, rfl, hp, But.refl p H⟩, ?_⟩
  rintro m σ H1 ⟨j, rfl, hj, rfl, hp1, bt⟩
  refine num_test T ez hz d1 hpo hj rfl hp1 ?_
  by_cases hjd : j < ds.length
  · rw [decide_eq_true hjd]
    refine iteT ⟨_, fun σ' H' h => h, ?_⟩
    refine ⟨_, rfl, p, C, dx, _, _, rfl, hp1, T.cl, T.nP, rf_place _ _, _, _, rfl, rfl, dx, _, hp1, (by rw [rf_len]; decide), ?_⟩
    refine ⟨ds.length - (j + 1), by omega, j + 1, rfl, hjd, rfl, ?_, bt.upd _⟩
    rw [upd_same, rf_put]
    have e : (((pre.length + j : Nat)) : Int) + 1 = ((pre.length + (j + 1) : Nat) : Int) := by omega
    rw [e]
  · rw [decide_eq_false hjd]
    obtain rfl : j = ds.length := by omega
    refine iteF ?_
    refine ⟨_, rfl, p, C, dx, _, _, rfl, hp1, T.cl, T.nT, rf_text _ _, _, rfl, _, rfl, _, rfl, p, C, dx, _, _, rfl, hp1, T.cl, T.nP, rf_place _ _, _, rfl, z, rfl, by omega, ?_⟩
    rw [slice_mid ez]
    have dl : (({ cps := ds.toArray } : Str)).length = ds.length := by simp [Str.length]
    refine ⟨_, rfl, rfl, _, rfl, ?_⟩
    have n1 : ¬ (V.str ({ cps := ds.toArray } : Str) = V.str (Str.ofString "")) := by
      intro e
      have e' : (({ cps := ds.toArray } : Str)) = Str.ofString "" := by injection e
      rw [e_empty] at e'
      have e2 := congrArg (fun s : Str => s.cps.toList) e'
      exact d2 (by simpa using e2)
    rw [decide_eq_false n1]
    refine iteF ?_
    refine ⟨_, rfl, _, rfl, by omega, _, _, rfl, rfl, _, rfl, ?_⟩
    rw [decide_eq_false (show ¬ ((400 : Int) < ((({ cps := ds.toArray } : Str)).length : Nat)) by rw [dl]; omega)]
    refine iteF ?_
    have it : PySem.intText? ({ cps := ds.toArray } : Str) = some ((digitsVal ds : Nat) : Int) := by
      have := intText_digits (x := ({ cps := ds.toArray } : Str)) (by simpa using d1) (by simpa using d2) (by rw [dl]; omega)
      simpa using this
    refine ⟨_, rfl, rfl, _, _, rfl, rfl, _, rfl, ?_⟩
    have hs : Txt.startswith ({ cps := ds.toArray } : Str) (Str.ofString "0") = decide (ds[0]? = some 48) := by
      rw [e_zero, starts0, starts_one]
    rw [hs]
    rcases d4 with e4 | h4
    · subst e4
      refine iteT ⟨_, rfl, rfl, _, rfl, ?_⟩
      have n3 : V.str ({ cps := ([48] : List Nat).toArray } : Str) = V.str (Str.ofString "0") := by rw [e_zero]
      rw [decide_eq_true n3]
      exact iteF ⟨_, rfl, _, _, rfl, it, by rw [dl]; omega, q H1 hp1 bt⟩
    · have n4 : ¬ ds[0]? = some 48 := by
        cases ds with
        | nil => exact absurd rfl d2
        | cons c r => intro e; exact h4 c r rfl (by simpa using e)
      rw [decide_eq_false n4]
      exact iteF (iteF ⟨_, rfl, _, _, rfl, it, by rw [dl]; omega, q H1 hp1 bt⟩)
def spSigns (C : Addr) : Sp := fun vs H Q _ => ∃ p dx z pre ws post, vs = [.ref p, .int ((ws : List Nat).length : Nat)] ∧ z.cps.toList = pre ++ ws ++ post ∧ H p = some (.ins C dx (rf z (pre.length : Nat))) ∧ z.length ≤ 100000 ∧ ws.length ≤ 2000 ∧
  ∀ H', H' p = some (.ins C dx (rf z ((pre.length + ws.length : Nat) : Int))) → But p H H' → Q (.str ⟨ws.toArray⟩) H'
theorem scSigns : FnScope ["self", "many", "behind", "signs"] ["self", "many"] (defScope sSigns) := ⟨rfl, rfl, rfl, by decide +kernel, rfl, by decide +kernel, by decide +kernel⟩
theorem ok_signs (F : Fun K "read_signs" "Reader.read_signs" sSigns f fd) (T : Tx K mg C) : FnOk P w K mg base CX0 1 f fd ["self", "many"] (spSigns C) := by
  refine F.ok scSigns (fun vs H Q E h => ?_) (fun cdv A outer s H vs Q E hr h => ?_)
  · obtain ⟨p, dx, z, pre, ws, post, rfl, _⟩ := h
    rfl
  obtain ⟨p, dx, z, pre, ws, post, rfl, ez, hp, hz, hw, q⟩ := h
  have hu := line_big
  have lz : z.length = pre.length + ws.length + post.length := by rw [len_cps, ez]; simp; omega
  refine ⟨_, pss_cons (ps_set (i := 2) scSigns.nd rfl (Or.inl rfl) (pe_op op_add (pe_fld (pv 0) rfl) (pv 1)))
    (pss_cons (ps_if (pt_cmpR op_gt (pv 1) (gint T.cSig rfl) (nomark _)) pss_never pss_nil)
    (pss_cons (ps_if (pt_cmpR op_gt (pv 2) (pe_callB call_len_str rfl T.len PySem.boot_len (pa_cons (pe_fld (pv 0) rfl) pa_nil)) (nomark _)) pss_never pss_nil)
    (pss_cons (ps_set (i := 3) scSigns.nd rfl (Or.inl rfl) (pe_slice sl_str (pe_fld (pv 0) rfl) (po_some (pe_fld (pv 0) rfl)) (po_some (pv 2))))
    (pss_cons (ps_fld (pv 0) (pv 2) rfl)
    (pss_one (ps_ret (pv 3))))))), ?_⟩
  refine ⟨_, rfl, p, C, dx, _, _, rfl, hp, T.cl, T.nP, rf_place _ _, _, rfl, _, _, rfl, rfl, ?_⟩
  refine ⟨_, rfl, _, _, rfl, rfl, _, rfl, ?_⟩
  rw [decide_eq_false (show ¬ ((2000 : Int) < ((ws.length : Nat) : Int)) by omega)]
  refine iteF ⟨_, rfl, _, rfl, p, C, dx, _, _, rfl, hp, T.cl, T.nT, rf_text _ _, z, rfl, by omega, _, _, rfl, rfl, _, rfl, ?_⟩
  have eb : ((pre.length : Nat) : Int) + ((ws.length : Nat) : Int) = ((pre.length + ws.length : Nat) : Int) := by omega
  rw [eb]
  rw [decide_eq_false (show ¬ (((z.length : Nat) : Int) < ((pre.length + ws.length : Nat) : Int)) by omega)]
  refine iteF ⟨_, rfl, p, C, dx, _, _, rfl, hp, T.cl, T.nT, rf_text _ _, _, rfl, p, C, dx, _, _, rfl, hp, T.cl, T.nP, rf_place _ _, _, rfl, _, rfl, _, rfl, z, rfl, by omega, ?_⟩
  rw [slice_mid' ez rfl eb]
  refine ⟨_, rfl, _, rfl, p, C, dx, _, rfl, hp, T.cl, T.nP, (by rw [rf_len]; decide), _, rfl, ?_⟩
  refine q _ ?_ ((But.refl p H).upd _)
  rw [upd_same, ← eb]
  exact congrArg (fun l => some (HO.ins C dx l)) (rf_put z _ _)
def spBelow (C : Addr) : Sp := fun vs H Q _ => ∃ p dx z pre ds post, vs = [.ref p] ∧ z.cps.toList = pre ++ ds ++ post ∧ H p = some (.ins C dx (rf z (pre.length : Nat))) ∧ z.length ≤ 100000 ∧ NumDs ds ∧ Stops post ∧ digitsVal ds ≠ 0 ∧
  ∀ H', H' p = some (.ins C dx (rf z ((pre.length + ds.length : Nat) : Int))) → But p H H' → Q (.int (-((digitsVal ds : Nat) : Int))) H'
theorem scBelow : FnScope ["self", "number"] ["self"] (defScope sBelow) := ⟨rfl, rfl, rfl, by decide +kernel, rfl, by decide +kernel, by decide +kernel⟩
theorem ok_below {fN : Addr} {dN : FuncData} (F : Fun K "read_below" "Reader.read_below" sBelow f fd) (T : Tx K mg C) (GN : FnOk P w K mg base CX0 1 fN dN ["self"] (spNum C)) (bN : Binds K dN ["self"] []) (mN : Meth K C "read_number" fN) :
    FnOk P w K mg base CX0 2 f fd ["self"] (spBelow C) := by
  refine F.ok scBelow (fun vs H Q E h => ?_) (fun cdv A outer s H vs Q E hr h => ?_)
  · obtain ⟨p, dx, z, pre, ds, post, rfl, _⟩ := h
    rfl
  obtain ⟨p, dx, z, pre, ds, post, rfl, ez, hp, hz, hds, hpo, hne, q⟩ := h
  refine ⟨_, pss_cons (ps_set (i := 1) scBelow.nd rfl (Or.inl rfl) (pe_meth0 (pv 0) T.cl mN GN hr bN .nil pass0))
    (pss_cons (ps_if (pt_cmpR op_eq (pv 1) pe_int (nomark _)) pss_never pss_nil)
    (pss_one (ps_ret (pe_un un_neg (pv 1))))), ?_⟩
  refine ⟨_, rfl, p, dx, _, rfl, hp, rf_no _ _ (by decide +kernel) (by decide +kernel), p, dx, z, pre, ds, post, rfl, ez, hp, hz, hds, hpo, fun H1 hp1 bt => ?_⟩
  refine ⟨_, rfl, rfl, _, rfl, ?_⟩
  have n1 : ¬ (V.int ((digitsVal ds : Nat) : Int) = V.int 0) := by intro e; injection e with e; omega
  rw [decide_eq_false n1]
  exact iteF ⟨_, rfl, _, rfl, q H1 hp1 bt⟩
end
inductive Item : List Nat → V → Prop where
  | num (n : Int) (h : n.natAbs < 10 ^ 400) : Item (numCs n) (.int n)
  | txt (ws : List Nat) (h : ws.length ≤ 2000) : Item (digs ws.length ++ 58 :: ws) (.str ⟨ws.toArray⟩)
def Ends (post : List Nat) : Prop := ∀ c r, post = c :: r → c = 32 ∨ c = 41
theorem digs_num (m : Nat) (h : m < 10 ^ 400) : NumDs (digs m) := by
  refine ⟨digs_all m, digs_ne m, digs_len (by decide) h, ?_⟩
  by_cases h0 : m = 0
  · subst h0; exact .inl digs_zero
  · exact .inr (digs_head m h0)
theorem Ends.stops {post : List Nat} (h : Ends post) : Stops post := fun c r e => by
  rcases h c r e with rfl | rfl <;> exact ⟨by decide, by decide⟩
theorem e_open : (Str.ofString "(") = ⟨#[40]⟩ := by decide +kernel
theorem e_minus : (Str.ofString "-") = ⟨#[45]⟩ := by decide +kernel
theorem e_colon : (Str.ofString ":") = ⟨#[58]⟩ := by decide +kernel
theorem at_pre {z : Str} {pre rest : List Nat} (e : z.cps.toList = pre ++ rest) : z.cps.toList[pre.length]? = rest[0]? := by
  rw [e, List.getElem?_append_right (Nat.le_refl _), Nat.sub_self]
theorem digs_cons (m : Nat) : ∃ c r, digs m = c :: r ∧ 48 ≤ c ∧ c ≤ 57 := by
  cases e : digs m with
  | nil => exact absurd e (digs_ne m)
  | cons c r =>
    have h := digs_all m
    rw [e] at h
    exact ⟨c, r, rfl, h.head⟩
section
variable {P : Program} {w : World} {K : PySem.W.Frag} {mg : Str → Option Value} {base : Heap} {f C : Addr} {fd : FuncData}
def spAny (C : Addr) : Sp := fun vs H Q _ => ∃ p dx z pre it post v d, vs = [.ref p, d] ∧ z.cps.toList = pre ++ it ++ post ∧ H p = some (.ins C dx (rf z ((pre : List Nat).length : Nat))) ∧ z.length ≤ 100000 ∧ Item it v ∧ Ends post ∧
  ∀ H', H' p = some (.ins C dx (rf z ((pre.length + it.length : Nat) : Int))) → But p H H' → Q v H'
theorem scAny : FnScope ["self", "deep", "number"] ["self", "deep"] (defScope sAny) := ⟨rfl, rfl, rfl, by decide +kernel, rfl, by decide +kernel, by decide +kernel⟩
theorem ok_any {fP fB fN fS : Addr} {dP dB dN dS : FuncData} (F : Fun K "read_any" "Reader.read_any" sAny f fd) (T : Tx K mg C)
    (GP : FnOk P w K mg base CX0 1 fP dP ["self", "sign"] (spPass C)) (bP : Binds K dP ["self", "sign"] []) (mP : Meth K C "passes" fP)
    (GB : FnOk P w K mg base CX0 2 fB dB ["self"] (spBelow C)) (bB : Binds K dB ["self"] []) (mB : Meth K C "read_below" fB)
    (GN : FnOk P w K mg base CX0 1 fN dN ["self"] (spNum C)) (bN : Binds K dN ["self"] []) (mN : Meth K C "read_number" fN)
    (GS : FnOk P w K mg base CX0 1 fS dS ["self", "many"] (spSigns C)) (bS : Binds K dS ["self", "many"] []) (mS : Meth K C "read_signs" fS) :
    FnOk P w K mg base CX0 3 f fd ["self", "deep"] (spAny C) := by
  refine F.ok scAny (fun vs H Q E h => ?_) (fun cdv A outer s H vs Q E hr h => ?_)
  · obtain ⟨p, dx, z, pre, it, post, v, d, rfl, _⟩ := h
    rfl
  obtain ⟨p, dx, z, pre, it, post, v, d, rfl, ez, hp, hz, hit, hen, q⟩ := h
  have hr1 := hr.mono (show 1 ≤ 2 by decide)
  have np : ∀ (k : Int), (rf z k).lookup ("passes" : Str) = none := fun k => rf_no _ _ (by decide +kernel) (by decide +kernel)
  have nn : ∀ (k : Int), (rf z k).lookup ("read_number" : Str) = none := fun k => rf_no _ _ (by decide +kernel) (by decide +kernel)
  have nb : ∀ (k : Int), (rf z k).lookup ("read_below" : Str) = none := fun k => rf_no _ _ (by decide +kernel) (by decide +kernel)
  have ns : ∀ (k : Int), (rf z k).lookup ("read_signs" : Str) = none := fun k => rf_no _ _ (by decide +kernel) (by decide +kernel)
  refine ⟨_, pss_cons (ps_if (pt_val (pe_meth (pv 0) T.cl mP GP hr1 bP .nil pass0 (pa_cons pe_str pa_nil))) pss_never pss_nil)
    (pss_cons (ps_if (pt_val (pe_meth (pv 0) T.cl mP GP hr1 bP .nil pass0 (pa_cons pe_str pa_nil))) (pss_one (ps_ret (pe_meth0 (pv 0) T.cl mB GB hr bB .nil pass0))) pss_nil)
    (pss_cons (ps_set (i := 2) scAny.nd rfl (Or.inl rfl) (pe_meth0 (pv 0) T.cl mN GN hr1 bN .nil pass0))
    (pss_cons (ps_if (pt_val (pe_meth (pv 0) T.cl mP GP hr1 bP .nil pass0 (pa_cons pe_str pa_nil))) (pss_one (ps_ret (pe_meth (pv 0) T.cl mS GS hr1 bS .nil pass0 (pa_cons (pv 2) pa_nil)))) pss_nil)
    (pss_one (ps_ret (pv 2)))))), ?_⟩
  have ez' : z.cps.toList = pre ++ (it ++ post) := by rw [ez, List.append_assoc]
  have h0 := at_pre ez'
  cases hit with
  | num n hn =>
    by_cases hneg : n < 0
    · have en : numCs n = 45 :: digs n.natAbs := by unfold numCs; rw [if_pos hneg]
      rw [en] at ez ez' q h0
      have h0' : z.cps.toList[pre.length]? = some 45 := h0
      refine ⟨_, rfl, p, dx, _, rfl, hp, np _, p, dx, z, 40, pre.length, (by rw [e_open]; rfl), hp, ?_⟩
      rw [if_neg (by rw [h0']; decide)]
      refine ⟨_, rfl, iteF ?_⟩
      refine ⟨_, rfl, p, dx, _, rfl, hp, np _, p, dx, z, 45, pre.length, (by rw [e_minus]; rfl), hp, ?_⟩
      rw [if_pos h0']
      refine ⟨_, rfl, iteT ?_⟩
      refine ⟨_, rfl, p, dx, _, rfl, upd_same, nb _, p, dx, z, pre ++ [45], digs n.natAbs, post, rfl, (by rw [ez]; simp), (by rw [upd_same]; simp), hz, digs_num _ hn, hen.stops, (by rw [digs_val]; omega), fun H' hp' bt => ?_⟩
      have e1 : (-((digitsVal (digs n.natAbs) : Nat) : Int)) = n := by rw [digs_val]; omega
      rw [e1]
      refine q H' ?_ (((But.refl p H).upd _).trans bt)
      rw [hp']
      have e2 : (pre ++ [45]).length + (digs n.natAbs).length = pre.length + (45 :: digs n.natAbs).length := by simp; omega
      rw [e2]
    · have en : numCs n = digs n.natAbs := by unfold numCs; rw [if_neg hneg]
      rw [en] at ez ez' q h0
      obtain ⟨c, r, ec, hc⟩ := digs_cons n.natAbs
      have h0' : z.cps.toList[pre.length]? = some c := by rw [h0, ec]; rfl
      refine ⟨_, rfl, p, dx, _, rfl, hp, np _, p, dx, z, 40, pre.length, (by rw [e_open]; rfl), hp, ?_⟩
      rw [if_neg (by rw [h0']; intro e; injection e with e; omega)]
      refine ⟨_, rfl, iteF ?_⟩
      refine ⟨_, rfl, p, dx, _, rfl, hp, np _, p, dx, z, 45, pre.length, (by rw [e_minus]; rfl), hp, ?_⟩
      rw [if_neg (by rw [h0']; intro e; injection e with e; omega)]
      refine ⟨_, rfl, iteF ?_⟩
      refine ⟨_, rfl, p, dx, _, rfl, hp, nn _, p, dx, z, pre, digs n.natAbs, post, rfl, ez, hp, hz, digs_num _ hn, hen.stops, fun H1 hp1 bt => ?_⟩
      have h1 : z.cps.toList[pre.length + (digs n.natAbs).length]? = post[0]? := by
        have := at_pre (z := z) (pre := pre ++ digs n.natAbs) (rest := post) ez
        rw [List.length_append] at this
        exact this
      refine ⟨_, rfl, p, dx, _, rfl, hp1, np _, p, dx, z, 58, pre.length + (digs n.natAbs).length, (by rw [e_colon]; rfl), hp1, ?_⟩
      rw [if_neg (by
        rw [h1]
        intro e
        cases post with
        | nil => cases e
        | cons a r' =>
          have := hen a r' rfl
          have ea : a = 58 := by simpa using e
          omega)]
      refine ⟨_, rfl, iteF ⟨_, rfl, ?_⟩⟩
      have e1 : ((digitsVal (digs n.natAbs) : Nat) : Int) = n := by rw [digs_val]; omega
      rw [e1]
      exact q H1 hp1 bt
  | txt ws hw =>
    obtain ⟨c, r, ec, hc⟩ := digs_cons ws.length
    have h0' : z.cps.toList[pre.length]? = some c := by rw [h0, ec]; rfl
    refine ⟨_, rfl, p, dx, _, rfl, hp, np _, p, dx, z, 40, pre.length, (by rw [e_open]; rfl), hp, ?_⟩
    rw [if_neg (by rw [h0']; intro e; injection e with e; omega)]
    refine ⟨_, rfl, iteF ?_⟩
    refine ⟨_, rfl, p, dx, _, rfl, hp, np _, p, dx, z, 45, pre.length, (by rw [e_minus]; rfl), hp, ?_⟩
    rw [if_neg (by rw [h0']; intro e; injection e with e; omega)]
    refine ⟨_, rfl, iteF ?_⟩
    have hl : ws.length < 10 ^ 400 := Nat.lt_of_le_of_lt hw (by decide +kernel)
    have ez2 : z.cps.toList = pre ++ digs ws.length ++ (58 :: (ws ++ post)) := by rw [ez]; simp
    refine ⟨_, rfl, p, dx, _, rfl, hp, nn _, p, dx, z, pre, digs ws.length, 58 :: (ws ++ post), rfl, ez2, hp, hz, digs_num _ hl, fun c' r' e => (by cases e; exact ⟨by decide, by decide⟩), fun H1 hp1 bt => ?_⟩
    have h1 : z.cps.toList[pre.length + (digs ws.length).length]? = some 58 := by
      have := at_pre (z := z) (pre := pre ++ digs ws.length) (rest := 58 :: (ws ++ post)) ez2
      rw [List.length_append] at this
      exact this
    refine ⟨_, rfl, p, dx, _, rfl, hp1, np _, p, dx, z, 58, pre.length + (digs ws.length).length, (by rw [e_colon]; rfl), hp1, ?_⟩
    rw [if_pos h1]
    refine ⟨_, rfl, iteT ?_⟩
    have el : (pre ++ digs ws.length ++ [58]).length = pre.length + (digs ws.length).length + 1 := by simp; omega
    refine ⟨_, rfl, p, dx, _, rfl, upd_same, ns _, _, rfl, p, dx, z, pre ++ digs ws.length ++ [58], ws, post, (by rw [digs_val]; rfl), (by rw [ez2]; simp), (by rw [upd_same, el]), hz, hw, fun H2 hp2 bt2 => ?_⟩
    refine q H2 ?_ ((bt.upd _).trans bt2)
    rw [hp2]
    have e2 : (pre ++ digs ws.length ++ [58]).length + ws.length = pre.length + (digs ws.length ++ 58 :: ws).length := by simp; omega
    rw [e2]
def spRead : Sp := fun vs H Q _ => ∃ z v, vs = [.str z] ∧ Item z.cps.toList v ∧ (∀ c ∈ z.cps.toList, okSign c = true) ∧ z.length ≤ 100000 ∧ ∀ H', Same H H' → Q v H'
theorem scRead : FnScope ["text", "reader", "thing"] ["text"] (defScope sRead) := ⟨rfl, rfl, rfl, by decide +kernel, rfl, by decide +kernel, by decide +kernel⟩
def readComp : Scope := match defBody sRead with
  | _ :: .If (.UnaryOp _ (.Call _ [.ListComp _ _ sc _] _ _) _) _ _ _ :: _ => sc
  | _ => default
theorem scComp : BlkScope ["text", "reader", "thing"] (defScope sRead) readComp "sign" ["sign"] [] := ⟨by decide +kernel, rfl, by decide +kernel, rfl, by decide +kernel, by decide +kernel, rfl, rfl, fun j h => absurd h (Nat.not_lt_zero j)⟩
theorem ok_read {fG fI fA : Addr} {dG dI dA : FuncData} (F : Fun K "read_thing" "read_thing" sRead f fd) (T : Tx K mg C) (M : Mk K C fI)
    (GG : FnOk P w K mg base CX0 1 fG dG ["sign"] spSign) (bG : Binds K dG ["sign"] []) (kG : PySem.W.keepIn K (.ref fG) = true) (mG : mg "is_sign" = some (.ref fG))
    (GI : FnOk P w K mg base CX0 1 fI dI ["self", "text"] (spInit C)) (bI : Binds K dI ["self", "text"] [])
    (GA : FnOk P w K mg base CX0 3 fA dA ["self", "deep"] (spAny C)) (bA : Binds K dA ["self", "deep"] []) (mA : Meth K C "read_any" fA) :
    FnOk P w K mg base CX0 4 f fd ["text"] spRead := by
  refine F.ok scRead (fun vs H Q E h => ?_) (fun cdv A outer s H vs Q E hr h => ?_)
  · obtain ⟨z, v, rfl, _⟩ := h
    rfl
  obtain ⟨z, v, rfl, hit, hok, hz, q⟩ := h
  have hr1 := hr.mono (show 1 ≤ 3 by decide)
  have hr2 := hr.mono (show 2 ≤ 3 by decide)
  have hu := line_big
  refine ⟨_, pss_cons (ps_if (pt_cmpR op_gt (pe_callB call_len_str rfl T.len PySem.boot_len (pa_cons (pv 0) pa_nil)) (gint T.cLong rfl) (nomark _)) pss_never pss_nil)
    (pss_cons (ps_if (pt_not (pt_val (pe_callB (call_all_bl rfl) rfl T.all PyProof.Rows.boot_all (pa_cons (pe_lc scComp rfl (pi_str (pv 0)) (fun _ _ _ _ => pts_nil) (fun _ _ _ _ => pe_call GG hr1 rfl mG kG bG .nil pass0 (pa_cons (pv 0) pa_nil))) pa_nil)))) pss_never pss_nil)
    (pss_cons (ps_set (i := 1) scRead.nd rfl (Or.inl rfl) (pe_make M GI hr2 rfl T.mgC bI .nil pass0 (pa_cons (pv 0) pa_nil)))
    (pss_cons (ps_set (i := 2) scRead.nd rfl (Or.inl rfl) (pe_meth (pv 1) T.cl mA GA hr bA .nil pass0 (pa_cons (gint T.cDeep rfl) pa_nil)))
    (pss_cons (ps_if (pt_cmpR op_ne (pe_fld (pv 1) rfl) (pe_callB call_len_str rfl T.len PySem.boot_len (pa_cons (pv 0) pa_nil)) (nomark _)) pss_never pss_nil)
    (pss_one (ps_ret (pv 2))))))), ?_⟩
  refine ⟨_, rfl, z, rfl, by omega, _, _, rfl, rfl, _, rfl, ?_⟩
  rw [decide_eq_false (show ¬ ((100000 : Int) < ((z.length : Nat) : Int)) by omega)]
  refine iteF ?_
  refine ⟨_, rfl, z, rfl, fun i ys H1 => i ≤ z.length ∧ ys = List.replicate i (V.bl true) ∧ H1 = H, z.length, ⟨Nat.zero_le _, rfl, rfl⟩, by omega, ?_⟩
  rintro i ys H1 ⟨hi, rfl, rfl⟩
  by_cases hlt : i < z.length
  · refine .inr ⟨hlt, hlt, ?_⟩
    rintro x H2 ⟨rfl, c, hc, rfl⟩
    refine ⟨_, rfl, c, rfl, hlt, ?_, rfl⟩
    rw [hok c (List.mem_of_getElem? hc), List.replicate_succ']
  refine .inl ⟨by show z.length ≤ i; omega, fun l hl => ?_⟩
  have e0 : List.replicate i (V.bl true) = (List.replicate i true).map V.bl := by simp
  refine ⟨l, List.replicate i true, rfl, SqL.of (by rw [upd_same, e0]), _, rfl, ?_⟩
  have e1 : (List.replicate i true).all id = true := by simp
  rw [e1]
  refine iteF ?_
  have sl : Same H1 (upd H1 l (.lst (List.replicate i (V.bl true)))) := fun b o e => by rw [upd_ne (ne_of_none e hl)]; exact e
  refine ⟨_, rfl, fun x dx nx ndx nex => ⟨x, dx, z, rfl, upd_same, rfl, ?_⟩⟩
  refine ⟨_, rfl, x, dx, _, rfl, upd_same, rf_no _ _ (by decide +kernel) (by decide +kernel), x, dx, z, [], z.cps.toList, [], v, _, rfl, (by simp), upd_same, hz, hit, (fun c r e => nomatch e), fun H3 hx3 bt3 => ?_⟩
  refine ⟨_, rfl, x, C, dx, _, _, rfl, hx3, T.cl, T.nP, rf_place _ _, _, rfl, z, rfl, by omega, rfl, _, rfl, ?_⟩
  have e2 : V.int ((([] : List Nat).length + z.cps.toList.length : Nat) : Int) = V.int ((z.length : Nat) : Int) := by rw [len_cps]; simp
  rw [decide_eq_true e2]
  refine iteF ⟨_, rfl, q H3 fun b o e => ?_⟩
  have e3 := sl b o e
  have nb1 : b ≠ x := ne_of_none e3 nx
  have nb2 : b ≠ dx := ne_of_none e3 ndx
  refine bt3 b o ?_ nb1
  rw [upd_ne nb1, upd_ne nb1, upd_ne nb1, upd_ne nb2]
  exact e3
end
end K26T
set_option maxHeartbeats 4000000
namespace K26
open PySem L2 Lo St
section
variable {P : Program} {w : World} {K : PySem.W.Frag} {mg : Str → Option Value} {base : Heap} {f CL CP : Addr} {fd : FuncData} {C : Kd → Addr} {CW : Wd → Addr}
theorem ok_rk (F : Fun K "kind" "Read.kind" m_Read_kind f fd) : FnOk P w K mg base CX0 1 f fd ["self"] (spKind .read) := by
  refine F.ok sc_Read_kind (fun vs H Q E h => ?_) (fun cdv A outer s H vs Q E hr h => ?_)
  · obtain ⟨v, rfl, _⟩ := h
    rfl
  obtain ⟨v, rfl, q⟩ := h
  exact ⟨_, pss_one (ps_ret pe_str), q⟩
theorem ok_mk (F : Fun K "kind" "Mean.kind" m_Mean_kind f fd) : FnOk P w K mg base CX0 1 f fd ["self"] (spKind .mean) := by
  refine F.ok sc_Mean_kind (fun vs H Q E h => ?_) (fun cdv A outer s H vs Q E hr h => ?_)
  · obtain ⟨v, rfl, _⟩ := h
    rfl
  obtain ⟨v, rfl, q⟩ := h
  exact ⟨_, pss_one (ps_ret pe_str), q⟩
theorem ok_ck (F : Fun K "kind" "Change.kind" m_Change_kind f fd) : FnOk P w K mg base CX0 1 f fd ["self"] (spKind .change) := by
  refine F.ok sc_Change_kind (fun vs H Q E h => ?_) (fun cdv A outer s H vs Q E hr h => ?_)
  · obtain ⟨v, rfl, _⟩ := h
    rfl
  obtain ⟨v, rfl, q⟩ := h
  exact ⟨_, pss_one (ps_ret pe_str), q⟩
theorem ok_linit (F : Fun K "__init__" "Lock.__init__" m_Lock_init f fd) (T : TxK K C) : FnOk P w K mg base CX0 1 f fd ["self", "first", "last"] (spLInit C) := by
  refine F.ok sc_Lock_init (fun vs H Q E h => ?_) (fun cdv A outer s H vs Q E hr h => ?_)
  · obtain ⟨a, dx, k, x, y, rfl, _⟩ := h
    rfl
  obtain ⟨a, dx, k, x, y, rfl, ha, q⟩ := h
  refine ⟨_, pss_cons (ps_fld (pv 0) (pv 1) rfl) (pss_one (ps_fld (pv 0) (pv 2) rfl)), ?_⟩
  exact ⟨_, rfl, _, rfl, a, C k, dx, [], rfl, ha, T.cl k, T.nF k, (by show 0 < 1000; decide), _, rfl, _, rfl, a, C k, dx, _, rfl, upd_same, T.cl k, T.nL k, (by show 1 < 1000; decide), q⟩
theorem ok_told (F : Fun K "told" "Lock.told" m_Lock_told f fd) (T : TxK K C) (GK : ∀ k, GM P w K mg base CX0 1 (C k) "kind" ["self"] (spKind k)) : FnOk P w K mg base CX0 2 f fd ["self"] (spTold C) := by
  refine F.ok sc_Lock_told (fun vs H Q E h => ?_) (fun cdv A outer s H vs Q E hr h => ?_)
  · obtain ⟨v, k, rfl, _⟩ := h
    rfl
  obtain ⟨v, k, rfl, ⟨a, dx, rfl, ha⟩, q⟩ := h
  refine ⟨_, pss_one (ps_ret (pe_tup (pa_cons (pm0 (GK k.1) (pv 0) (T.cl k.1) hr) (pa_cons (pe_fld (pv 0) rfl) (pa_cons (pe_fld (pv 0) rfl) pa_nil))))), ?_⟩
  refine ⟨_, rfl, a, dx, _, rfl, ha, lf_no _ _ (by decide +kernel) (by decide +kernel), _, rfl, ?_⟩
  exact ⟨_, rfl, a, _, dx, _, _, rfl, ha, T.cl _, T.nF _, lf_first _ _, _, rfl, a, _, dx, _, _, rfl, ha, T.cl _, T.nL _, lf_last _ _, (by show 3 ≤ sizeLine; decide), fun t ht => q t ht⟩
theorem kp2 {a : Addr} {H : Hp} {o1 o2 : HO} : Kp a H (upd (upd H a o1) a o2) := fun b o n e => by rw [upd_ne n, upd_ne n]; exact e
theorem ok_cinit (F : Fun K "__init__" "CellStep.__init__" m_CellStep_init f fd) (T : TxW K CW) : FnOk P w K mg base CX0 1 f fd ["self", "where", "cell"] (spCInit CW) := by
  refine F.ok sc_CellStep_init (fun vs H Q E h => ?_) (fun cdv A outer s H vs Q E hr h => ?_)
  · obtain ⟨a, dx, wd, x, y, rfl, _⟩ := h
    rfl
  obtain ⟨a, dx, wd, x, y, rfl, ha, q⟩ := h
  refine ⟨_, pss_cons (ps_fld (pv 0) (pv 1) rfl) (pss_one (ps_fld (pv 0) (pv 2) rfl)), ?_⟩
  exact ⟨_, rfl, _, rfl, a, CW wd, dx, [], rfl, ha, T.cl wd, T.nW wd, (by show 0 < 1000; decide), _, rfl, _, rfl, a, CW wd, dx, _, rfl, upd_same, T.cl wd, T.nC wd, (by show 1 < 1000; decide), q _ upd_same kp2⟩
theorem cinit_w {wd : Wd} (hw : isC wd = true) {vs : List V} {H : Hp} {Q : VK} {E : XK} (h : spWInit CW wd vs H Q E) : spCInit CW vs H Q E := by
  obtain ⟨a, dx, ns, rfl, ar, ha, q⟩ := h
  obtain ⟨x, y, rfl, _, _, e⟩ := ar.c hw
  exact ⟨a, dx, wd, x, y, rfl, ha, fun H' h1 h2 => q H' (by rw [e]; exact h1) h2⟩
theorem ok_sinit (F : Fun K "__init__" "SumStep.__init__" m_SumStep_init f fd) (T : TxW K CW) : FnOk P w K mg base CX0 1 f fd ["self", "where", "low", "high"] (spWInit CW .sum) := by
  refine F.ok sc_SumStep_init (fun vs H Q E h => ?_) (fun cdv A outer s H vs Q E hr h => ?_)
  · obtain ⟨a, dx, ns, rfl, ar, _⟩ := h
    obtain ⟨x, y, z, rfl, _⟩ := ar.s
    rfl
  obtain ⟨a, dx, ns, rfl, ar, ha, q⟩ := h
  obtain ⟨x, y, z, rfl, _⟩ := ar.s
  refine ⟨_, pss_cons (ps_fld (pv 0) (pv 1) rfl) (pss_cons (ps_fld (pv 0) (pv 2) rfl) (pss_one (ps_fld (pv 0) (pv 3) rfl))), ?_⟩
  exact ⟨_, rfl, _, rfl, a, CW .sum, dx, [], rfl, ha, T.cl _, T.nW _, (by show 0 < 1000; decide), _, rfl, _, rfl, a, CW .sum, dx, _, rfl, upd_same, T.cl _, T.nL _, (by show 1 < 1000; decide), _, rfl, _, rfl, a, CW .sum, dx, _, rfl, upd_same, T.cl _, T.nH _, Nat.lt_of_le_of_lt (length_putF _ _ _) (by show 1 + 1 < 1000; decide), q _ upd_same fun b o n e => by rw [upd_ne n, upd_ne n, upd_ne n]; exact e⟩
theorem ok_ainit {CC fC : Addr} {dC : FuncData} (F : Fun K "__init__" "AddStep.__init__" m_AddStep_init f fd) (T : TxW K CW) (mgC : mg "CellStep" = some (.ref CC)) (cf : ClsFn K CC "__init__" fC) (GC : FnOk P w K mg base CX0 1 fC dC ["self", "where", "cell"] (spCInit CW)) (bC : Binds K dC ["self", "where", "cell"] []) :
    FnOk P w K mg base CX0 2 f fd ["self", "where", "cell", "amount"] (spWInit CW .add) := by
  refine F.ok sc_AddStep_init (fun vs H Q E h => ?_) (fun cdv A outer s H vs Q E hr h => ?_)
  · obtain ⟨a, dx, ns, rfl, ar, _⟩ := h
    obtain ⟨x, y, z, rfl, _⟩ := ar.a
    rfl
  obtain ⟨a, dx, ns, rfl, ar, ha, q⟩ := h
  obtain ⟨x, y, z, rfl, _⟩ := ar.a
  refine ⟨_, pss_cons (ps_expr (pe_clsm (pe_glob (v := .ref CC) rfl mgC rfl) cf GC hr bC pass0 (pa_cons (pv 0) (pa_cons (pv 1) (pa_cons (pv 2) pa_nil))))) (pss_one (ps_fld (pv 0) (pv 3) rfl)), ?_⟩
  refine ⟨_, rfl, _, rfl, _, rfl, a, dx, .add, x, y, rfl, ha, fun H' h1 h2 => ?_⟩
  exact ⟨_, rfl, _, rfl, a, CW .add, dx, _, rfl, h1, T.cl _, T.nA _, Nat.lt_of_le_of_lt (length_putF _ _ _) (by show 1 + 1 < 1000; decide), q _ upd_same fun b o n e => by rw [upd_ne n]; exact h2 b o n e⟩
theorem ok_pinit (F : Fun K "__init__" "PlusStep.__init__" m_PlusStep_init f fd) (T : TxW K CW) : FnOk P w K mg base CX0 1 f fd ["self", "amount"] (spWInit CW .plus) := by
  refine F.ok sc_PlusStep_init (fun vs H Q E h => ?_) (fun cdv A outer s H vs Q E hr h => ?_)
  · obtain ⟨a, dx, ns, rfl, ar, _⟩ := h
    obtain ⟨x, rfl, _⟩ := ar.p
    rfl
  obtain ⟨a, dx, ns, rfl, ar, ha, q⟩ := h
  obtain ⟨x, rfl, _⟩ := ar.p
  refine ⟨_, pss_one (ps_fld (pv 0) (pv 1) rfl), ?_⟩
  exact ⟨_, rfl, _, rfl, a, CW .plus, dx, [], rfl, ha, T.cl _, T.nA _, (by show 0 < 1000; decide), q _ upd_same kp_upd⟩
theorem ok_ninit (F : Fun K "__init__" "NeedStep.__init__" m_NeedStep_init f fd) (T : TxW K CW) : FnOk P w K mg base CX0 1 f fd ["self", "amount"] (spWInit CW .need) := by
  refine F.ok sc_NeedStep_init (fun vs H Q E h => ?_) (fun cdv A outer s H vs Q E hr h => ?_)
  · obtain ⟨a, dx, ns, rfl, ar, _⟩ := h
    obtain ⟨x, rfl, _⟩ := ar.n
    rfl
  obtain ⟨a, dx, ns, rfl, ar, ha, q⟩ := h
  obtain ⟨x, rfl, _⟩ := ar.n
  refine ⟨_, pss_one (ps_fld (pv 0) (pv 1) rfl), ?_⟩
  exact ⟨_, rfl, _, rfl, a, CW .need, dx, [], rfl, ha, T.cl _, T.nA _, (by show 0 < 1000; decide), q _ upd_same kp_upd⟩
theorem ok_hnone {wd : Wd} (hw : wd = .plus ∨ wd = .need) (F : Fun K "house" "Step.house" m_Step_house f fd) : FnOk P w K mg base CX0 1 f fd ["self"] (spHouse CW wd) := by
  refine F.ok sc_Step_house (fun vs H Q E h => ?_) (fun cdv A outer s H vs Q E hr h => ?_)
  · obtain ⟨v, ns, rfl, _⟩ := h
    rfl
  obtain ⟨v, ns, rfl, ar, st, q⟩ := h
  refine ⟨_, pss_one (ps_ret pe_non), ?_⟩
  rcases hw with rfl | rfl <;> exact q
theorem ok_hcell {wd : Wd} (hw : isC wd = true ∨ wd = .add) (F : Fun K "house" "CellStep.house" m_CellStep_house f fd) (T : TxW K CW) : FnOk P w K mg base CX0 1 f fd ["self"] (spHouse CW wd) := by
  refine F.ok sc_CellStep_house (fun vs H Q E h => ?_) (fun cdv A outer s H vs Q E hr h => ?_)
  · obtain ⟨v, ns, rfl, _⟩ := h
    rfl
  obtain ⟨v, ns, rfl, ar, ⟨a, dx, rfl, ha⟩, q⟩ := h
  refine ⟨_, pss_one (ps_ret (pe_fld (pv 0) rfl)), ?_⟩
  rcases hw with hw | rfl
  · obtain ⟨x, y, rfl, _, _, e⟩ := ar.c hw
    rw [e] at ha
    refine ⟨_, rfl, a, CW wd, dx, _, _, rfl, ha, T.cl _, T.nW _, by rw [lk_miss (by decide +kernel), lk_hit], ?_⟩
    cases wd <;> first | exact q | cases hw
  · obtain ⟨x, y, z, rfl, _⟩ := ar.a
    exact ⟨_, rfl, a, CW .add, dx, _, _, rfl, ha, T.cl _, T.nW _, (by show (putF "amount" _ (putF "cell" _ (putF "where" _ []))).lookup _ = _; rw [lk_miss (by decide +kernel), lk_miss (by decide +kernel), lk_hit]; rfl), q⟩
theorem ok_hsum (F : Fun K "house" "SumStep.house" m_SumStep_house f fd) (T : TxW K CW) : FnOk P w K mg base CX0 1 f fd ["self"] (spHouse CW .sum) := by
  refine F.ok sc_SumStep_house (fun vs H Q E h => ?_) (fun cdv A outer s H vs Q E hr h => ?_)
  · obtain ⟨v, ns, rfl, _⟩ := h
    rfl
  obtain ⟨v, ns, rfl, ar, ⟨a, dx, rfl, ha⟩, q⟩ := h
  obtain ⟨x, y, z, rfl, _⟩ := ar.s
  refine ⟨_, pss_one (ps_ret (pe_fld (pv 0) rfl)), ?_⟩
  exact ⟨_, rfl, a, CW .sum, dx, _, _, rfl, ha, T.cl _, T.nW _, (by show (putF "high" _ (putF "low" _ (putF "where" _ []))).lookup _ = _; rw [lk_miss (by decide +kernel), lk_miss (by decide +kernel), lk_hit]; rfl), q⟩
theorem ok_snone {wd : Wd} (hw : wd ≠ .give) (F : Fun K "sure" "Step.sure" m_Step_sure f fd) : FnOk P w K mg base CX0 1 f fd ["self"] (spSure wd) := by
  refine F.ok sc_Step_sure (fun vs H Q E h => ?_) (fun cdv A outer s H vs Q E hr h => ?_)
  · obtain ⟨v, rfl, _⟩ := h
    rfl
  obtain ⟨v, rfl, q⟩ := h
  rw [decide_eq_false hw] at q
  exact ⟨_, pss_one (ps_ret pe_bl), q⟩
theorem ok_sgive (F : Fun K "sure" "GiveStep.sure" m_GiveStep_sure f fd) : FnOk P w K mg base CX0 1 f fd ["self"] (spSure .give) := by
  refine F.ok sc_GiveStep_sure (fun vs H Q E h => ?_) (fun cdv A outer s H vs Q E hr h => ?_)
  · obtain ⟨v, rfl, _⟩ := h
    rfl
  obtain ⟨v, rfl, q⟩ := h
  exact ⟨_, pss_one (ps_ret pe_bl), q⟩
end
end K26
set_option maxHeartbeats 4000000
namespace K26
open PySem L2 Lo St
section
variable {P : Program} {w : World} {K : PySem.W.Frag} {mg : Str → Option Value} {base : Heap} {f CL CP : Addr} {fd : FuncData} {C : Kd → Addr} {CW : Wd → Addr}
theorem ok_ltake (F : Fun K "lock" "TakeStep.lock" m_TakeStep_lock f fd) (W : TxW K CW) (T : TxK K C) (mgC : ∀ k, mg (kdN k) = some (.ref (C k))) {fI : Addr} {dI : FuncData} (M : ∀ k, Mk K (C k) fI)
    (GI : FnOk P w K mg base CX0 1 fI dI ["self", "first", "last"] (spLInit C)) (bI : Binds K dI ["self", "first", "last"] []) (GT : ∀ k, GM P w K mg base CX0 2 (C k) "told" ["self"] (spTold C)) : FnOk P w K mg base CX0 3 f fd ["self"] (spSLock CW K .take) := by
  refine F.ok sc_TakeStep_lock (fun vs H Q E h => ?_) (fun cdv A outer s H vs Q E hr h => ?_)
  · obtain ⟨v, ns, rfl, _⟩ := h
    rfl
  obtain ⟨v, ns, rfl, ar, ⟨a, dx, rfl, ha⟩, q⟩ := h
  obtain ⟨x, y, rfl, _, _, e⟩ := ar.c rfl
  rw [e] at ha
  have hr1 : Room (1 + 1) _ := hr
  refine ⟨_, pss_one (ps_ret (pm0 (GT .read) (pe_make (M .read) GI hr1 rfl (mgC .read) bI .nil pass0 (pa_cons (pe_fld (pv 0) rfl) (pa_cons (pe_fld (pv 0) rfl) pa_nil))) (T.cl .read) hr)), ?_⟩
  refine ⟨_, rfl, a, _, dx, _, _, rfl, ha, W.cl _, W.nC _, lk_hit, _, rfl, a, _, dx, _, _, rfl, ha, W.cl _, W.nC _, lk_hit, fun z dz nz ndz nez => ⟨z, dz, .read, y, y, rfl, upd_same, rfl, z, dz, _, rfl, upd_same, lf_no _ _ (by decide +kernel) (by decide +kernel), _, (.read, y, y), rfl, ⟨z, dz, rfl, upd_same⟩, fun t ht => ?_⟩⟩
  exact q _ _ ((mk_same nz ndz).trans (same_new ht)) ⟨t, rfl, upd_same⟩
theorem ok_lmean (F : Fun K "lock" "MeanStep.lock" m_MeanStep_lock f fd) (W : TxW K CW) (T : TxK K C) (mgC : ∀ k, mg (kdN k) = some (.ref (C k))) {fI : Addr} {dI : FuncData} (M : ∀ k, Mk K (C k) fI)
    (GI : FnOk P w K mg base CX0 1 fI dI ["self", "first", "last"] (spLInit C)) (bI : Binds K dI ["self", "first", "last"] []) (GT : ∀ k, GM P w K mg base CX0 2 (C k) "told" ["self"] (spTold C)) : FnOk P w K mg base CX0 3 f fd ["self"] (spSLock CW K .mean) := by
  refine F.ok sc_MeanStep_lock (fun vs H Q E h => ?_) (fun cdv A outer s H vs Q E hr h => ?_)
  · obtain ⟨v, ns, rfl, _⟩ := h
    rfl
  obtain ⟨v, ns, rfl, ar, ⟨a, dx, rfl, ha⟩, q⟩ := h
  obtain ⟨x, y, rfl, _, _, e⟩ := ar.c rfl
  rw [e] at ha
  have hr1 : Room (1 + 1) _ := hr
  refine ⟨_, pss_one (ps_ret (pm0 (GT .mean) (pe_make (M .mean) GI hr1 rfl (mgC .mean) bI .nil pass0 (pa_cons (pe_fld (pv 0) rfl) (pa_cons (pe_fld (pv 0) rfl) pa_nil))) (T.cl .mean) hr)), ?_⟩
  refine ⟨_, rfl, a, _, dx, _, _, rfl, ha, W.cl _, W.nC _, lk_hit, _, rfl, a, _, dx, _, _, rfl, ha, W.cl _, W.nC _, lk_hit, fun z dz nz ndz nez => ⟨z, dz, .mean, y, y, rfl, upd_same, rfl, z, dz, _, rfl, upd_same, lf_no _ _ (by decide +kernel) (by decide +kernel), _, (.mean, y, y), rfl, ⟨z, dz, rfl, upd_same⟩, fun t ht => ?_⟩⟩
  exact q _ _ ((mk_same nz ndz).trans (same_new ht)) ⟨t, rfl, upd_same⟩
theorem ok_lgive (F : Fun K "lock" "GiveStep.lock" m_GiveStep_lock f fd) (W : TxW K CW) (T : TxK K C) (mgC : ∀ k, mg (kdN k) = some (.ref (C k))) {fI : Addr} {dI : FuncData} (M : ∀ k, Mk K (C k) fI)
    (GI : FnOk P w K mg base CX0 1 fI dI ["self", "first", "last"] (spLInit C)) (bI : Binds K dI ["self", "first", "last"] []) (GT : ∀ k, GM P w K mg base CX0 2 (C k) "told" ["self"] (spTold C)) : FnOk P w K mg base CX0 3 f fd ["self"] (spSLock CW K .give) := by
  refine F.ok sc_GiveStep_lock (fun vs H Q E h => ?_) (fun cdv A outer s H vs Q E hr h => ?_)
  · obtain ⟨v, ns, rfl, _⟩ := h
    rfl
  obtain ⟨v, ns, rfl, ar, ⟨a, dx, rfl, ha⟩, q⟩ := h
  obtain ⟨x, y, rfl, _, _, e⟩ := ar.c rfl
  rw [e] at ha
  have hr1 : Room (1 + 1) _ := hr
  refine ⟨_, pss_one (ps_ret (pm0 (GT .change) (pe_make (M .change) GI hr1 rfl (mgC .change) bI .nil pass0 (pa_cons (pe_fld (pv 0) rfl) (pa_cons (pe_fld (pv 0) rfl) pa_nil))) (T.cl .change) hr)), ?_⟩
  refine ⟨_, rfl, a, _, dx, _, _, rfl, ha, W.cl _, W.nC _, lk_hit, _, rfl, a, _, dx, _, _, rfl, ha, W.cl _, W.nC _, lk_hit, fun z dz nz ndz nez => ⟨z, dz, .change, y, y, rfl, upd_same, rfl, z, dz, _, rfl, upd_same, lf_no _ _ (by decide +kernel) (by decide +kernel), _, (.change, y, y), rfl, ⟨z, dz, rfl, upd_same⟩, fun t ht => ?_⟩⟩
  exact q _ _ ((mk_same nz ndz).trans (same_new ht)) ⟨t, rfl, upd_same⟩
theorem ok_ladd (F : Fun K "lock" "AddStep.lock" m_AddStep_lock f fd) (W : TxW K CW) (T : TxK K C) (mgC : ∀ k, mg (kdN k) = some (.ref (C k))) {fI : Addr} {dI : FuncData} (M : ∀ k, Mk K (C k) fI)
    (GI : FnOk P w K mg base CX0 1 fI dI ["self", "first", "last"] (spLInit C)) (bI : Binds K dI ["self", "first", "last"] []) (GT : ∀ k, GM P w K mg base CX0 2 (C k) "told" ["self"] (spTold C)) : FnOk P w K mg base CX0 3 f fd ["self"] (spSLock CW K .add) := by
  refine F.ok sc_AddStep_lock (fun vs H Q E h => ?_) (fun cdv A outer s H vs Q E hr h => ?_)
  · obtain ⟨v, ns, rfl, _⟩ := h
    rfl
  obtain ⟨v, ns, rfl, ar, ⟨a, dx, rfl, ha⟩, q⟩ := h
  obtain ⟨x, y, z0, rfl, _⟩ := ar.a
  have hr1 : Room (1 + 1) _ := hr
  refine ⟨_, pss_one (ps_ret (pm0 (GT .change) (pe_make (M .change) GI hr1 rfl (mgC .change) bI .nil pass0 (pa_cons (pe_fld (pv 0) rfl) (pa_cons (pe_fld (pv 0) rfl) pa_nil))) (T.cl .change) hr)), ?_⟩
  refine ⟨_, rfl, a, _, dx, _, _, rfl, ha, W.cl _, W.nC _, (by show (putF "amount" _ (putF "cell" _ (putF "where" _ []))).lookup _ = _; rw [lk_miss (by decide +kernel), lk_hit]), _, rfl, a, _, dx, _, _, rfl, ha, W.cl _, W.nC _, (by show (putF "amount" _ (putF "cell" _ (putF "where" _ []))).lookup _ = _; rw [lk_miss (by decide +kernel), lk_hit]), fun z dz nz ndz nez => ⟨z, dz, .change, y, y, rfl, upd_same, rfl, z, dz, _, rfl, upd_same, lf_no _ _ (by decide +kernel) (by decide +kernel), _, (.change, y, y), rfl, ⟨z, dz, rfl, upd_same⟩, fun t ht => ?_⟩⟩
  exact q _ _ ((mk_same nz ndz).trans (same_new ht)) ⟨t, rfl, upd_same⟩
theorem ok_lsum (F : Fun K "lock" "SumStep.lock" m_SumStep_lock f fd) (W : TxW K CW) (T : TxK K C) (mgC : ∀ k, mg (kdN k) = some (.ref (C k))) {fI : Addr} {dI : FuncData} (M : ∀ k, Mk K (C k) fI)
    (GI : FnOk P w K mg base CX0 1 fI dI ["self", "first", "last"] (spLInit C)) (bI : Binds K dI ["self", "first", "last"] []) (GT : ∀ k, GM P w K mg base CX0 2 (C k) "told" ["self"] (spTold C)) : FnOk P w K mg base CX0 3 f fd ["self"] (spSLock CW K .sum) := by
  refine F.ok sc_SumStep_lock (fun vs H Q E h => ?_) (fun cdv A outer s H vs Q E hr h => ?_)
  · obtain ⟨v, ns, rfl, _⟩ := h
    rfl
  obtain ⟨v, ns, rfl, ar, ⟨a, dx, rfl, ha⟩, q⟩ := h
  obtain ⟨x, y, y2, rfl, _⟩ := ar.s
  have hr1 : Room (1 + 1) _ := hr
  refine ⟨_, pss_one (ps_ret (pm0 (GT .read) (pe_make (M .read) GI hr1 rfl (mgC .read) bI .nil pass0 (pa_cons (pe_fld (pv 0) rfl) (pa_cons (pe_fld (pv 0) rfl) pa_nil))) (T.cl .read) hr)), ?_⟩
  refine ⟨_, rfl, a, _, dx, _, _, rfl, ha, W.cl _, W.nL _, (by show (putF "high" _ (putF "low" _ (putF "where" _ []))).lookup _ = _; rw [lk_miss (by decide +kernel), lk_hit]), _, rfl, a, _, dx, _, _, rfl, ha, W.cl _, W.nH _, lk_hit, fun z dz nz ndz nez => ⟨z, dz, .read, y, y2, rfl, upd_same, rfl, z, dz, _, rfl, upd_same, lf_no _ _ (by decide +kernel) (by decide +kernel), _, (.read, y, y2), rfl, ⟨z, dz, rfl, upd_same⟩, fun t ht => ?_⟩⟩
  exact q _ _ ((mk_same nz ndz).trans (same_new ht)) ⟨t, rfl, upd_same⟩
theorem ok_lnone {wd : Wd} (hw : wd = .plus ∨ wd = .need) (F : Fun K "lock" "Step.lock" m_Step_lock f fd) : FnOk P w K mg base CX0 1 f fd ["self"] (spSLock CW K wd) := by
  refine F.ok sc_Step_lock (fun vs H Q E h => ?_) (fun cdv A outer s H vs Q E hr h => ?_)
  · obtain ⟨v, ns, rfl, _⟩ := h
    rfl
  obtain ⟨v, ns, rfl, ar, st, q⟩ := h
  refine ⟨_, pss_one (ps_ret pe_non), ?_⟩
  have e : lockO wd ns = none := by rcases hw with rfl | rfl <;> rfl
  rw [e] at q
  exact q .non H (Same.refl H) rfl
end
end K26
set_option maxHeartbeats 4000000
namespace K26
open PySem L2 Lo St
section
variable {P : Program} {w : World} {K : PySem.W.Frag} {mg : Str → Option Value} {base : Heap} {f CL CP : Addr} {fd : FuncData} {C : Kd → Addr} {CW : Wd → Addr}
theorem ok_msum (F : Fun K "made_sum" "made_sum" s_made_sum f fd) (I : WI P w K mg base CW .sum) : FnOk P w K mg base CX0 4 f fd ["where", "low", "high"] (spMSum CW) := by
  refine F.ok sc_made_sum (fun vs H Q E h => ?_) (fun cdv A outer s H vs Q E hr h => ?_)
  · obtain ⟨x, y, z, rfl, _⟩ := h
    rfl
  obtain ⟨x, y, z, rfl, ar, q⟩ := h
  have hr1 : Room (2 + 1) _ := hr
  refine ⟨_, pss_cons (ps_if (pt_cmpR op_gt (pv 1) (pv 2) (nomark _)) pss_never pss_nil) (pss_one (ps_ret (pe_make I.M I.ok hr1 rfl I.m I.b .nil pass0 (pa_cons (pv 0) (pa_cons (pv 1) (pa_cons (pv 2) pa_nil)))))), ?_⟩
  have hle : y ≤ z := ar.2.2.2
  refine ⟨_, rfl, _, rfl, _, _, rfl, rfl, _, rfl, ite2 (fun c => absurd (of_decide_eq_true c) (show ¬ z < y by omega)) (fun _ => ?_)⟩
  exact ⟨_, rfl, _, rfl, _, rfl, fun p dp np ndp nep => ⟨p, dp, [x, y, z], rfl, ar, upd_same, fun H' h1 h2 => ⟨rfl, q _ H' (mk_kp np ndp h2) ⟨p, dp, rfl, h1⟩⟩⟩⟩
theorem ok_mstep (F : Fun K "made_step" "made_step" s_made_step f fd) (I : ∀ wd, WI P w K mg base CW wd) (GS : GF P w K mg base CX0 4 "made_sum" ["where", "low", "high"] (spMSum CW)) : FnOk P w K mg base CX0 5 f fd ["word", "numbers"] (spMade CW) := by
  refine F.ok sc_made_step (fun vs H Q E h => ?_) (fun cdv A outer s H vs Q E hr h => ?_)
  · obtain ⟨wd, b, ns, rfl, _⟩ := h
    rfl
  obtain ⟨wd, b, ns, rfl, hb, ar, q⟩ := h
  have hr1 : Room (2 + 1) _ := hr.mono (by decide)
  refine ⟨_, (pss_cons (ps_if (pt_cmpR op_eq (pv 0) pe_str (nomark _)) (pss_one (ps_ret (pe_make (I .take).M (I .take).ok hr1 rfl (I .take).m (I .take).b .nil pass0 (pa_cons (pe_ix (r := rIxL K) ix_list (pv 1) pe_int (fun _ _ => rfl)) (pa_cons (pe_ix (r := rIxL K) ix_list (pv 1) pe_int (fun _ _ => rfl)) pa_nil))))) pss_nil)
    (pss_cons (ps_if (pt_cmpR op_eq (pv 0) pe_str (nomark _)) (pss_one (ps_ret (pe_make (I .mean).M (I .mean).ok hr1 rfl (I .mean).m (I .mean).b .nil pass0 (pa_cons (pe_ix (r := rIxL K) ix_list (pv 1) pe_int (fun _ _ => rfl)) (pa_cons (pe_ix (r := rIxL K) ix_list (pv 1) pe_int (fun _ _ => rfl)) pa_nil))))) pss_nil)
    (pss_cons (ps_if (pt_cmpR op_eq (pv 0) pe_str (nomark _)) (pss_one (ps_ret (pc GS hr (pa_cons (pe_ix (r := rIxL K) ix_list (pv 1) pe_int (fun _ _ => rfl)) (pa_cons (pe_ix (r := rIxL K) ix_list (pv 1) pe_int (fun _ _ => rfl)) (pa_cons (pe_ix (r := rIxL K) ix_list (pv 1) pe_int (fun _ _ => rfl)) pa_nil)))))) pss_nil)
    (pss_cons (ps_if (pt_cmpR op_eq (pv 0) pe_str (nomark _)) (pss_one (ps_ret (pe_make (I .give).M (I .give).ok hr1 rfl (I .give).m (I .give).b .nil pass0 (pa_cons (pe_ix (r := rIxL K) ix_list (pv 1) pe_int (fun _ _ => rfl)) (pa_cons (pe_ix (r := rIxL K) ix_list (pv 1) pe_int (fun _ _ => rfl)) pa_nil))))) pss_nil)
    (pss_cons (ps_if (pt_cmpR op_eq (pv 0) pe_str (nomark _)) (pss_one (ps_ret (pe_make (I .add).M (I .add).ok hr1 rfl (I .add).m (I .add).b .nil pass0 (pa_cons (pe_ix (r := rIxL K) ix_list (pv 1) pe_int (fun _ _ => rfl)) (pa_cons (pe_ix (r := rIxL K) ix_list (pv 1) pe_int (fun _ _ => rfl)) (pa_cons (pe_ix (r := rIxL K) ix_list (pv 1) pe_int (fun _ _ => rfl)) pa_nil)))))) pss_nil)
    (pss_cons (ps_if (pt_cmpR op_eq (pv 0) pe_str (nomark _)) (pss_one (ps_ret (pe_make (I .plus).M (I .plus).ok hr1 rfl (I .plus).m (I .plus).b .nil pass0 (pa_cons (pe_ix (r := rIxL K) ix_list (pv 1) pe_int (fun _ _ => rfl)) pa_nil)))) pss_nil)
    (pss_one (ps_ret (pe_make (I .need).M (I .need).ok hr1 rfl (I .need).m (I .need).b .nil pass0 (pa_cons (pe_ix (r := rIxL K) ix_list (pv 1) pe_int (fun _ _ => rfl)) pa_nil)))))))))), ?_⟩
  refine ⟨_, rfl, rfl, _, rfl, ite2 (fun c => ?_) (fun c0 => ?_)⟩
  · obtain rfl : wd = .take := w_hit c
    obtain ⟨x, y, rfl, _⟩ := ar.c rfl
    exact ⟨_, rfl, b, _, _, _, rfl, rfl, SqL.of hb, rfl, _, rfl, b, _, _, _, rfl, rfl, SqL.of hb, rfl, fun p dp np ndp nep => ⟨p, dp, [x, y], rfl, ar, upd_same, fun H' h1 h2 => ⟨rfl, q _ H' (mk_kp np ndp h2) ⟨p, dp, rfl, h1⟩⟩⟩⟩
  refine ⟨_, rfl, rfl, _, rfl, ite2 (fun c => ?_) (fun c1 => ?_)⟩
  · obtain rfl : wd = .mean := w_hit c
    obtain ⟨x, y, rfl, _⟩ := ar.c rfl
    exact ⟨_, rfl, b, _, _, _, rfl, rfl, SqL.of hb, rfl, _, rfl, b, _, _, _, rfl, rfl, SqL.of hb, rfl, fun p dp np ndp nep => ⟨p, dp, [x, y], rfl, ar, upd_same, fun H' h1 h2 => ⟨rfl, q _ H' (mk_kp np ndp h2) ⟨p, dp, rfl, h1⟩⟩⟩⟩
  refine ⟨_, rfl, rfl, _, rfl, ite2 (fun c => ?_) (fun c2 => ?_)⟩
  · obtain rfl : wd = .sum := w_hit c
    obtain ⟨x, y, z, rfl, _⟩ := ar.s
    exact ⟨_, rfl, b, _, _, _, rfl, rfl, SqL.of hb, rfl, _, rfl, b, _, _, _, rfl, rfl, SqL.of hb, rfl, _, rfl, b, _, _, _, rfl, rfl, SqL.of hb, rfl, x, y, z, rfl, ar, q⟩
  refine ⟨_, rfl, rfl, _, rfl, ite2 (fun c => ?_) (fun c3 => ?_)⟩
  · obtain rfl : wd = .give := w_hit c
    obtain ⟨x, y, rfl, _⟩ := ar.c rfl
    exact ⟨_, rfl, b, _, _, _, rfl, rfl, SqL.of hb, rfl, _, rfl, b, _, _, _, rfl, rfl, SqL.of hb, rfl, fun p dp np ndp nep => ⟨p, dp, [x, y], rfl, ar, upd_same, fun H' h1 h2 => ⟨rfl, q _ H' (mk_kp np ndp h2) ⟨p, dp, rfl, h1⟩⟩⟩⟩
  refine ⟨_, rfl, rfl, _, rfl, ite2 (fun c => ?_) (fun c4 => ?_)⟩
  · obtain rfl : wd = .add := w_hit c
    obtain ⟨x, y, z, rfl, _⟩ := ar.a
    exact ⟨_, rfl, b, _, _, _, rfl, rfl, SqL.of hb, rfl, _, rfl, b, _, _, _, rfl, rfl, SqL.of hb, rfl, _, rfl, b, _, _, _, rfl, rfl, SqL.of hb, rfl, fun p dp np ndp nep => ⟨p, dp, [x, y, z], rfl, ar, upd_same, fun H' h1 h2 => ⟨rfl, q _ H' (mk_kp np ndp h2) ⟨p, dp, rfl, h1⟩⟩⟩⟩
  refine ⟨_, rfl, rfl, _, rfl, ite2 (fun c => ?_) (fun c5 => ?_)⟩
  · obtain rfl : wd = .plus := w_hit c
    obtain ⟨x, rfl, _⟩ := ar.p
    exact ⟨_, rfl, b, _, _, _, rfl, rfl, SqL.of hb, rfl, fun p dp np ndp nep => ⟨p, dp, [x], rfl, ar, upd_same, fun H' h1 h2 => ⟨rfl, q _ H' (mk_kp np ndp h2) ⟨p, dp, rfl, h1⟩⟩⟩⟩
  obtain rfl : wd = .need := w_need (w_miss (b := .take) c0) (w_miss (b := .mean) c1) (w_miss (b := .sum) c2) (w_miss (b := .give) c3) (w_miss (b := .add) c4) (w_miss (b := .plus) c5)
  obtain ⟨x, rfl, _⟩ := ar.n
  exact ⟨_, rfl, b, _, _, _, rfl, rfl, SqL.of hb, rfl, fun p dp np ndp nep => ⟨p, dp, [x], rfl, ar, upd_same, fun H' h1 h2 => ⟨rfl, q _ H' (mk_kp np ndp h2) ⟨p, dp, rfl, h1⟩⟩⟩⟩
theorem ok_rnum {CN : Addr} {bm : List Value} {new : String} (F : Fun K "read_number" "read_number" s_read_number f fd) (B : TxB mg) (mN : mg "NoThing" = some (.ref CN)) (xN : PySem.W.excIn K CN bm new = true) (hb : bm.contains (.type "BaseException") = true)
    (cF : ∃ t, mg "MOST_FIGURES_steps" = some (.int 40 t)) (GR : GF P w K mg base CX0 4 "read_thing" ["text"] K26T.spRead) (GW : GF P w K mg base CX0 1 "is_whole" ["thing"] K26T.spWhole) : FnOk P w K mg base CX0 5 f fd ["word", "letter"] spRNum := by
  refine F.ok sc_read_number (fun vs H Q E h => ?_) (fun cdv A outer s H vs Q E hr h => ?_)
  · obtain ⟨i, c, rfl, _⟩ := h
    rfl
  obtain ⟨i, c, rfl, hi, hneg, q⟩ := h
  have nd := sc_read_number.nd
  refine ⟨_, pss_cons (ps_trySet (j := 2) (C := CN) rfl rfl rfl nd rfl (Or.inl rfl) (pex_of (pc GR hr (pa_cons (pv 0) pa_nil))) rfl mN (takes_self mN xN hb) (fun _ => pss_never))
    (pss_cons (ps_if (PW.pt (pw_or (pt_not (pt_val (pc GW hr (pa_cons (pv 2) pa_nil)))) (pw_or1 (pt_cmpR op_gt (pe_callB call_len_str rfl B.len PySem.boot_len (pa_cons (pe_bm PySem.F.plainAttrs_str PySem.F.slot_str_lstrip PySem.F.type_str_lstrip mt_lstripC (pv 0) (pa_cons pe_str pa_nil)) pa_nil)) (gint cF rfl) (nomark _))))) pss_never pss_nil)
    (pss_cons (ps_if (PW.pt (pw_and (pt_cmpR op_lt (pv 2) pe_int (nomark _)) (pw_and1 (pt_cmpR op_ne (pv 1) pe_str (nomark _))))) pss_never pss_nil)
    (pss_one (ps_ret (pv 2))))), ?_⟩
  have hl := iS_line hi
  have h1 : (100000 : Nat) ≤ sizeLine := by decide
  have hL := lstrip_len hi
  refine ⟨_, rfl, iS i, .int i, rfl, (by rw [iS_cs]; exact .num i (Nat.lt_trans hi (by decide +kernel))), (fun d hd => ?_), hl, fun H1 s1 => ?_⟩
  · rw [iS_cs] at hd
    rcases num_in hd with rfl | ⟨a1, a2⟩
    · decide
    · show (decide _ && decide _ && _) = true
      simp
      omega
  refine ⟨_, rfl, _, _, rfl, rfl, _, rfl, iteF ?_⟩
  refine ⟨_, rfl, rfl, iS i, _, rfl, rfl, by omega, _, rfl, Nat.le_trans hL (by decide), _, _, rfl, rfl, _, rfl, ite2 (fun c => absurd (of_decide_eq_true c) (fun z => ?_)) (fun _ => ?_)⟩
  · have z' : (40 : Int) < (((Txt.lstripChars (iS i) (Str.ofString "-")).length : Nat) : Int) := z
    omega
  refine ⟨_, rfl, _, _, rfl, rfl, _, rfl, ite2 (fun cc => ?_) (fun _ => ⟨_, rfl, q H1 s1⟩)⟩
  have hc : c = 86 := hneg (of_decide_eq_true cc)
  subst hc
  exact ⟨_, rfl, rfl, _, rfl, iteNS (congrArg V.str (by decide +kernel)) ⟨_, rfl, q H1 s1⟩⟩
theorem ok_rstep (F : Fun K "read_step" "read_step" s_read_step f fd) (B : TxB mg) {aS : Addr} (mS : mg "SHAPES" = some (.ref aS)) (tS : TabK K aS shapesD) (GN : GF P w K mg base CX0 5 "read_number" ["word", "letter"] spRNum)
    (GS : GF P w K mg base CX0 5 "made_step" ["word", "numbers"] (spMade CW)) : FnOk P w K mg base CX0 6 f fd ["text"] (spRStep CW) := by
  refine F.ok sc_read_step (fun vs H Q E h => ?_) (fun cdv A outer s H vs Q E hr h => ?_)
  · obtain ⟨wd, ns, rfl, _⟩ := h
    rfl
  obtain ⟨wd, ns, rfl, ar, q⟩ := h
  have nd := sc_read_step.nd
  have hl3 := ar.len
  have el := shp_len ar
  refine ⟨_, pss_cons (ps_set (i := 1) nd rfl (Or.inr rfl) (pe_bm PySem.F.plainAttrs_str PySem.F.slot_str_split PySem.F.type_str_split mt_split1 (pv 0) (pa_cons pe_str pa_nil)))
    (pss_cons (ps_set (i := 2) nd rfl (Or.inr rfl) (pe_tabS (D := shapesD) (pe_glob (v := .ref aS) rfl mS rfl) (pe_ix (r := rIxL K) ix_list (pv 1) pe_int (fun _ _ => rfl)) ⟨rfl, rfl, rfl, rfl⟩ tS))
    (pss_cons (ps_if (PW.pt (pw_or (pt_cmpR op_isN (pv 2) pe_non (nomark _)) (pw_or1 (pt_cmpR op_ne (pe_callB call_len_seq rfl B.len PySem.boot_len (pa_cons (pv 1) pa_nil)) (pe_op op_add (pe_callB call_len_str rfl B.len PySem.boot_len (pa_cons (pv 2) pa_nil)) pe_int) (nomark _))))) pss_never pss_nil)
    (pss_one (ps_ret (pc GS hr (pa_cons (pe_ix (r := rIxL K) ix_list (pv 1) pe_int (fun _ _ => rfl)) (pa_cons (pe_lc sb_read_step_0 rfl (pi_range1 rfl B.range (pa_cons (pe_callB call_len_str rfl B.len PySem.boot_len (pa_cons (pv 2) pa_nil)) pa_nil)) (fun _ _ _ _ => pts_nil)
      (fun _ _ _ _ => pc GN hr (pa_cons (pe_ix (r := rIxL K) ix_list (pv 1) (pe_op op_add (pv 0) pe_int) (fun _ _ => rfl)) (pa_cons (pe_ix ix_str (pv 2) (pv 0) (fun _ _ => rfl)) pa_nil)))) pa_nil))))))), ?_⟩
  refine ⟨_, rfl, rfl, txt wd ns, 32, rfl, congrArg (fun z => [V.str z]) sep_eq, txt_len ar, fun p hp => ?_⟩
  rw [split_txt]
  have s1 : Same H _ := same_new (o := .lst ((wS wd :: ns.map iS).map V.str)) hp
  have hp1 : (upd H p (.lst ((wS wd :: ns.map iS).map V.str))) p = some (.lst ((wS wd :: ns.map iS).map V.str)) := upd_same
  generalize (upd H p _) = H1 at s1 hp1 ⊢
  refine ⟨_, rfl, p, _, _, _, rfl, rfl, SqL.of hp1, at0, wS wd, shp wd, rfl, shape_at wd, ?_⟩
  refine ⟨_, rfl, rfl, _, rfl, ite2 (fun c => absurd (of_decide_eq_true c) (by intro z; cases z)) (fun _ => ?_)⟩
  refine ⟨_, rfl, p, _, rfl, .inl (SqL.of hp1), _, rfl, _, rfl, shp_line wd, _, _, rfl, rfl, rfl, _, rfl, iteNS ?_ ?_⟩
  · rw [el]
    simp
  refine ⟨_, rfl, p, _, _, _, rfl, rfl, SqL.of hp1, at0, ?_⟩
  refine ⟨_, rfl, _, rfl, shp_line wd, _, rfl, by omega, by rw [el]; omega, ?_⟩
  have e0 : (((shp wd).length : Nat) : Int).toNat = ns.length := by rw [el]; rfl
  rw [e0]
  refine lc_range (n := ns.length) (fun i ys H' => Same H1 H' ∧ ys = (ns.take i).map V.int) ⟨Same.refl _, rfl⟩ (Nat.le_trans hl3.2 (by decide)) ?_ ?_
  · rintro i ys H2 hi ⟨s2, rfl⟩
    have hn : ns[i]? = some ns[i] := List.getElem?_eq_getElem hi
    obtain ⟨c, hc, hneg⟩ := shp_at ar hn
    refine tAllT ⟨_, rfl, _, rfl, _, _, rfl, rfl, p, _, _, _, rfl, rfl, SqL.of (s2 _ _ hp1), ?_, _, rfl, _, rfl, _, _, _, rfl, rfl, shp_line wd, atI_nat hc, ns[i], c, rfl, ar.all _ (List.getElem_mem hi), hneg, fun H3 s3 => ⟨s2.trans s3, ?_⟩⟩
    · have e1 : ((i : Nat) : Int) + 1 = ((i + 1 : Nat) : Int) := rfl
      rw [e1]
      refine atI_nat ?_
      rw [List.map_cons, List.getElem?_cons_succ, List.map_map, List.getElem?_map, hn]
      rfl
    · have e2 : ns.take (i + 1) = ns.take i ++ [ns[i]] := by
        rw [List.take_add_one, hn]
        rfl
      rw [e2, List.map_append]
      rfl
  · rintro ys H2 ⟨s2, rfl⟩ p2 hp2
    rw [List.take_length]
    exact ⟨wd, p2, ns, rfl, upd_same, ar, fun v H3 s3 st => q v H3 (s1.trans (s2.trans ((same_new hp2).trans s3))) st⟩
end
end K26
set_option maxHeartbeats 4000000
namespace K26
open PySem L2 Lo St
section
variable {P : Program} {w : World} {K : PySem.W.Frag} {mg : Str → Option Value} {base : Heap} {f CL CP : Addr} {fd : FuncData} {C : Kd → Addr} {CW : Wd → Addr}
theorem ok_whole (F : Fun K "_law_whole" "_law_whole" s__law_whole f fd) (B : TxB mg) : FnOk P w K mg base CX0 1 f fd ["_law_found_here"] spWhole := by
  refine F.ok sc__law_whole (fun vs H Q E h => ?_) (fun cdv A outer s H vs Q E hr h => ?_)
  · obtain ⟨i, rfl, _⟩ := h
    rfl
  obtain ⟨i, rfl, q⟩ := h
  refine ⟨_, pss_one (ps_ret (pe_and (pe_callB call_isinst rfl B.isi PyProof.Rows.boot_isinstance (pa_cons (pv 0) (pa_cons (pe_bltn (v := .ty "int") rfl B.int PyProof.Rows.boot_int rfl) pa_nil)))
    (pe_one (pe_not (pe_callB call_isinst rfl B.isi PyProof.Rows.boot_isinstance (pa_cons (pv 0) (pa_cons (pe_bltn (v := .ty "bool") rfl B.bool PyProof.Rows.boot_bool rfl) pa_nil))))))), ?_⟩
  refine ⟨_, rfl, _, _, _, _, rfl, TyOf.int i, kit_ii, _, rfl, iteT ?_⟩
  exact ⟨_, rfl, _, _, _, _, rfl, TyOf.int i, kit_ib, _, rfl, q⟩
theorem ok_mixed (F : Fun K "_law_mixed" "_law_mixed" s__law_mixed f fd) : FnOk P w K mg base CX0 1 f fd ["_law_cell_here", "_law_k"] spMixed := by
  refine F.ok sc__law_mixed (fun vs H Q E h => ?_) (fun cdv A outer s H vs Q E hr h => ?_)
  · obtain ⟨c, k, rfl, _⟩ := h
    rfl
  obtain ⟨c, k, rfl, q⟩ := h
  have nd := sc__law_mixed.nd
  refine ⟨_, pss_cons (ps_set (i := 2) nd rfl (Or.inl rfl) (pe_op op_mod (pe_op op_mul (pe_op op_add (pe_op op_add (pv 0) (pe_op op_mul pe_int (pv 1))) pe_int) pe_int) pe_int))
    (pss_one (ps_ret (pe_op op_mod (pe_op op_mul (pv 2) (pe_op op_add (pe_op op_fdiv (pv 2) pe_int) pe_int)) pe_int))), ?_⟩
  refine ⟨_, rfl, _, rfl, _, _, rfl, rfl, .inl ⟨by decide +kernel, by decide +kernel⟩, _, _, rfl, rfl, _, _, rfl, rfl, _, _, rfl, rfl, .inr ⟨by decide +kernel, by decide +kernel⟩, _, _, rfl, rfl, (by show (0 : Int) < 2147483647; decide), ?_⟩
  have h0 : 0 ≤ (c + 7919 * k + 1) * 48271 % 2147483647 := Int.emod_nonneg _ (by decide)
  have h1 : (c + 7919 * k + 1) * 48271 % 2147483647 < 2147483647 := Int.emod_lt_of_pos _ (by decide)
  exact ⟨_, rfl, _, rfl, _, _, rfl, rfl, ⟨by decide, by decide⟩, _, _, rfl, rfl, _, _, rfl, rfl, .inl ⟨by omega, by omega⟩, _, _, rfl, rfl, (by show (0 : Int) < 2147483647; decide), q _ (Int.emod_nonneg _ (by decide)) (Int.emod_lt_of_pos _ (by decide))⟩
theorem ok_lcell (F : Fun K "_law_cell" "_law_cell" s__law_cell f fd) (B : TxB mg) : FnOk P w K mg base CX0 1 f fd ["_law_script", "_law_k"] (spCell K) := by
  refine F.ok sc__law_cell (fun vs H Q E h => ?_) (fun cdv A outer s H vs Q E hr h => ?_)
  · obtain ⟨a, ns, k, rfl, _⟩ := h
    rfl
  obtain ⟨a, ns, k, rfl, hS, q⟩ := h
  refine ⟨_, pss_cons (ps_if (pt_cmpR op_lt (pv 1) (pe_callB call_len_seq rfl B.len PySem.boot_len (pa_cons (pv 0) pa_nil)) (nomark _)) (pss_one (ps_ret (pe_ix ix_list (pv 0) (pv 1) (fun _ _ => rfl)))) pss_nil)
    (pss_one (ps_ret pe_int)), ?_⟩
  refine ⟨_, rfl, _, rfl, a, _, rfl, .inl hS, _, _, rfl, rfl, _, rfl, ?_⟩
  refine ite2 (fun c => ?_) (fun c => ?_)
  · have c' : (k : Int) < (((ns.map V.int).length : Nat) : Int) := of_decide_eq_true c
    rw [List.length_map] at c'
    have hk : k < ns.length := by omega
    have q1 : atI (ns.map V.int) ((k : Nat) : Int) = some (.int ns[k]) := atI_nat (by rw [List.getElem?_map, List.getElem?_eq_getElem hk] <;> rfl)
    have e : cellAt ns k = ns[k] := by unfold cellAt; rw [List.getElem?_eq_getElem hk]; rfl
    rw [e] at q
    exact ⟨_, rfl, _, rfl, a, _, _, _, rfl, rfl, hS, q1, q⟩
  · have c' : ¬ (k : Int) < (((ns.map V.int).length : Nat) : Int) := fun z => c (decide_eq_true z)
    rw [List.length_map] at c'
    have e : cellAt ns k = 0 := by unfold cellAt; rw [List.getElem?_eq_none (by omega)]; rfl
    rw [e] at q
    exact q
def TsP (H : Hp) (xs : List Stp) (us : List V) : Prop := Paired (fun (x : Stp) v => tSt H x.1 x.2 v) xs us
theorem TsP.keep {H H' : Hp} {xs : List Stp} {us : List V} (e : Same H H') (h : TsP H xs us) : TsP H' xs us := Paired.mapP h fun _ _ z => z.keep e
def TsA (H : Hp) (q : Addr) (xs : List Stp) : Prop := ∃ us, H q = some (.lst us) ∧ TsP H xs us
theorem TsA.keep {H H' : Hp} {q : Addr} {xs : List Stp} (e : Same H H') (h : TsA H q xs) : TsA H' q xs := by
  obtain ⟨us, h1, h2⟩ := h
  exact ⟨us, e _ _ h1, h2.keep e⟩
theorem big40 : (10 : Int) ^ 40 = 10000000000000000000000000000000000000000 := by decide +kernel
theorem big20 : (10 : Int) ^ 20 = 100000000000000000000 := by decide +kernel
theorem ok_place (F : Fun K "_law_place" "_law_place" s__law_place f fd) : FnOk P w K mg base CX0 1 f fd ["_law_number", "_law_size"] spPlace := by
  refine F.ok sc__law_place (fun vs H Q E h => ?_) (fun cdv A outer s H vs Q E hr h => ?_)
  · obtain ⟨n, m, rfl, _⟩ := h
    rfl
  obtain ⟨n, m, rfl, n0, n1, m0, m1, q⟩ := h
  refine ⟨_, pss_cons (ps_if (pt_cmpR op_eq (pe_op op_mod (pv 0) pe_int) pe_int (nomark _)) (pss_one (ps_ret (pv 1))) pss_nil)
    (pss_cons (ps_if (pt_cmpR op_eq (pe_op op_mod (pv 0) pe_int) pe_int (nomark _)) (pss_one (ps_ret (pe_op op_add (pv 1) (pe_op op_mul (pe_op op_fdiv (pv 0) pe_int) (pe_op op_pow pe_int pe_int))))) pss_nil)
    (pss_one (ps_ret (pe_op op_mod (pe_op op_fdiv (pv 0) pe_int) (pv 1))))), ?_⟩
  have b40 := big40
  refine ⟨_, rfl, _, _, rfl, rfl, (by show (0 : Int) < 16; decide), rfl, _, rfl, ite2 (fun _ => ?_) (fun _ => ?_)⟩
  · exact ⟨_, rfl, q _ ⟨by omega, by omega⟩⟩
  refine ⟨_, rfl, _, _, rfl, rfl, (by show (0 : Int) < 32; decide), rfl, _, rfl, ite2 (fun _ => ?_) (fun _ => ?_)⟩
  · refine ⟨_, rfl, _, rfl, _, _, rfl, rfl, ⟨by decide, by decide⟩, _, _, rfl, rfl, ⟨by decide, by decide, by decide⟩, _, _, rfl, rfl, .inl ⟨by omega, by omega⟩, _, _, rfl, rfl, q _ ?_⟩
    show 0 ≤ m + n / 32 * 10 ^ 20 ∧ m + n / 32 * 10 ^ 20 < 10 ^ 40
    rw [big20, b40]
    omega
  · refine ⟨_, rfl, _, _, rfl, rfl, ⟨by decide, by decide⟩, _, rfl, _, _, rfl, rfl, (by show (0 : Int) < m; omega), q _ ⟨Int.emod_nonneg _ (by omega), ?_⟩⟩
    have := Int.emod_lt_of_pos (n / 32) (show 0 < m by omega)
    omega
theorem atI_int {sz : List Int} {x : Int} (h0 : 0 ≤ x) (h1 : x < (sz.length : Nat)) : ∃ m, m ∈ sz ∧ sz[x.toNat]? = some m ∧ atI (sz.map V.int) x = some (.int m) := by
  obtain ⟨n, rfl⟩ : ∃ n : Nat, x = (n : Int) := ⟨x.toNat, (Int.toNat_of_nonneg h0).symm⟩
  have hl : n < sz.length := by omega
  rw [Int.toNat_natCast]
  refine ⟨sz[n], List.getElem_mem hl, List.getElem?_eq_getElem hl, atI_nat ?_⟩
  rw [List.getElem?_map, List.getElem?_eq_getElem hl]
  rfl
def u26 : TS := fun D σ H => ∃ c q wd x m, σ = [some (.int c), some (.ref q), some (.str (wS wd)), some (.int x), some (.int m), none, none] ∧ wd ≠ .plus ∧ wd ≠ .need ∧ inN x ∧ 1 ≤ m ∧ m ≤ 8 ∧ ∀ wd ns v H', Ar wd ns → Same H H' → tSt H' wd ns v → D.rt v H'
theorem ok_lst2 (F : Fun K "_law_step" "_law_step" s__law_step f fd) (B : TxB mg) (hmin : mg "min" = none) (GX : GF P w K mg base CX0 1 "_law_mixed" ["_law_cell_here", "_law_k"] spMixed) (GP : GF P w K mg base CX0 1 "_law_place" ["_law_number", "_law_size"] spPlace) : FnOk P w K mg base CX0 2 f fd ["_law_cell_here", "_law_sizes"] spLSt2 := by
  refine F.ok sc__law_step (fun vs H Q E h => ?_) (fun cdv A outer s H vs Q E hr h => ?_)
  · obtain ⟨c, q, sz, rfl, _⟩ := h
    rfl
  obtain ⟨c, q0, sz, rfl, hq, ⟨l1, l5, szo⟩, q⟩ := h
  have nd := sc__law_step.nd
  obtain ⟨wd, hw⟩ := w_of (c % 7) (Int.emod_nonneg _ (by decide)) (Int.emod_lt_of_pos _ (by decide))
  refine ⟨_, pss_cons (ps_set (i := 2) nd rfl (Or.inl rfl) (pe_ix (r := rIxL K) ix_list (pe_lst (pa_cons pe_str (pa_cons pe_str (pa_cons pe_str (pa_cons pe_str (pa_cons pe_str (pa_cons pe_str (pa_cons pe_str pa_nil)))))))) (pe_op op_mod (pv 0) pe_int) (fun _ _ => rfl)))
    (pss_cons (ps_if (PW.pt (pw_or (pt_cmpR op_eq (pv 2) pe_str (nomark _)) (pw_or1 (pt_cmpR op_eq (pv 2) pe_str (nomark _))))) (pss_one (ps_ret (pe_tup (pa_cons (pv 2) (pa_cons (pe_op op_sub (pe_op op_mod (pc GX hr (pa_cons (pv 0) (pa_cons pe_int pa_nil))) pe_int) pe_int) pa_nil))))) pss_nil)
    (pss_cons (ps_set (i := 3) nd rfl (Or.inl rfl) (pc GP hr (pa_cons (pc GX hr (pa_cons (pv 0) (pa_cons pe_int pa_nil))) (pa_cons (pe_callB call_len_seq rfl B.len PySem.boot_len (pa_cons (pv 1) pa_nil)) pa_nil))))
    (pss_cons (ps_set (i := 4) nd rfl (Or.inl rfl) pe_int)
    (pss_cons (ps_if (pt_cmpR op_lt (pv 3) (pe_callB call_len_seq rfl B.len PySem.boot_len (pa_cons (pv 1) pa_nil)) (nomark _)) (pss_one (ps_set (i := 4) nd rfl (Or.inl rfl) (pe_ix (r := rIxL K) ix_list (pv 1) (pv 3) (fun _ _ => rfl)))) pss_nil)
    (pss_weak u26 (pss_cons (ps_set (i := 5) nd rfl (Or.inl rfl) (pc GP hr (pa_cons (pc GX hr (pa_cons (pv 0) (pa_cons pe_int pa_nil))) (pa_cons (pv 4) pa_nil))))
    (pss_cons (ps_if (pt_cmpR op_eq (pv 2) pe_str (nomark _)) (pss_one (ps_ret (pe_tup (pa_cons (pv 2) (pa_cons (pv 3) (pa_cons (pv 5) (pa_cons (pe_op op_sub (pe_op op_mod (pc GX hr (pa_cons (pv 0) (pa_cons pe_int pa_nil))) pe_int) pe_int) pa_nil))))))) pss_nil)
    (pss_cons (ps_if (pt_cmpR op_eq (pv 2) pe_str (nomark _)) (pss_cons (ps_set (i := 6) nd rfl (Or.inl rfl) (pc GP hr (pa_cons (pc GX hr (pa_cons (pv 0) (pa_cons pe_int pa_nil))) (pa_cons (pv 4) pa_nil))))
        (pss_one (ps_ret (pe_tup (pa_cons (pv 2) (pa_cons (pv 3) (pa_cons (pe_callB (call_min2 rfl) rfl hmin PyProof.Rows.boot_min (pa_cons (pv 5) (pa_cons (pv 6) pa_nil))) (pa_cons (pe_callB (call_max2 rfl) rfl B.max PyProof.Rows.boot_max (pa_cons (pv 5) (pa_cons (pv 6) pa_nil))) pa_nil)))))))) pss_nil)
    (pss_one (ps_ret (pe_tup (pa_cons (pv 2) (pa_cons (pv 3) (pa_cons (pv 5) pa_nil)))))))))  ?t))))), ?_⟩
  case t =>
    rintro D σ H1 ⟨c, q0, wd, x, m, rfl, n1, n2, hx, m0, m1, q⟩
    refine ⟨_, rfl, _, _, rfl, fun r r0 r1 => ⟨_, rfl, _, _, rfl, r0, r1, m0, m1, fun y hy => ?_⟩⟩
    refine ⟨_, rfl, rfl, _, rfl, ite2 (fun c3 => ?_) (fun c3 => ?_)⟩
    · obtain rfl : wd = .add := w_hit c3
      refine ⟨_, rfl, _, rfl, _, rfl, _, rfl, _, _, rfl, fun r2 g0 g1 => ⟨_, _, rfl, rfl, (by show (0 : Int) < 2001; decide), _, _, rfl, rfl, (by show 4 ≤ sizeLine; decide), fun t ht => q .add [x, y, r2 % 2001 - 1000] _ _ ⟨hx, hy, ?_⟩ (same_new ht) ⟨t, rfl, upd_same⟩⟩⟩
      have e0 := Int.emod_nonneg r2 (show (2001 : Int) ≠ 0 by decide)
      have e1 := Int.emod_lt_of_pos r2 (show (0 : Int) < 2001 by decide)
      unfold St.inV
      omega
    refine ⟨_, rfl, rfl, _, rfl, ite2 (fun c4 => ?_) (fun c4 => ?_)⟩
    · obtain rfl : wd = .sum := w_hit c4
      refine ⟨_, rfl, _, _, rfl, fun r r0 r1 => ⟨_, rfl, _, _, rfl, r0, r1, m0, m1, fun z hz => ?_⟩⟩
      refine ⟨_, rfl, _, rfl, _, rfl, _, rfl, _, _, rfl, _, rfl, _, rfl, _, _, rfl, (by show 4 ≤ sizeLine; decide), fun t ht => q .sum [x, if z < y then z else y, if z > y then z else y] _ _ ⟨hx, ?_, ?_, ?_⟩ (same_new ht) ⟨t, rfl, upd_same⟩⟩
      · split
        · exact hz
        · exact hy
      · split
        · exact hz
        · exact hy
      · split <;> split <;> omega
    · refine ⟨_, rfl, _, rfl, _, rfl, (by show 3 ≤ sizeLine; decide), fun t ht => q wd [x, y] _ _ ?_ (same_new ht) ⟨t, rfl, upd_same⟩⟩
      have n3 := w_miss (b := .add) c3
      have n4 := w_miss (b := .sum) c4
      cases wd <;> first | contradiction | exact ⟨hx, hy⟩
  refine ⟨(by show 7 ≤ sizeLine; decide), fun l hl => ?_⟩
  have s1 : Same H _ := same_new (o := .lst [.str "take", .str "mean", .str "sum", .str "give", .str "add", .str "plus", .str "need"]) hl
  refine ⟨_, rfl, _, _, rfl, rfl, (by show (0 : Int) < 7; decide), l, _, _, _, rfl, rfl, SqL.of upd_same, hw, ?_⟩
  have hq1 := s1 _ _ hq
  generalize (upd H l _) = H1 at s1 hq1 ⊢
  have rest : ∀ r2 : Int, St.inV (r2 % 2001 - 1000) := fun r2 => by
    have e0 := Int.emod_nonneg r2 (show (2001 : Int) ≠ 0 by decide)
    have e1 := Int.emod_lt_of_pos r2 (show (0 : Int) < 2001 by decide)
    unfold St.inV
    omega
  refine ⟨_, rfl, rfl, _, rfl, ite2 (fun c1 => iteT ?_) (fun c1 => ⟨_, rfl, rfl, _, rfl, ite2 (fun c2 => ?_) (fun c2 => ?_)⟩)⟩
  · obtain rfl : wd = .plus := w_hit c1
    exact ⟨_, rfl, _, rfl, _, _, rfl, fun r2 g0 g1 => ⟨_, _, rfl, rfl, (by show (0 : Int) < 2001; decide), _, _, rfl, rfl, (by show 2 ≤ sizeLine; decide), fun t ht => q .plus [r2 % 2001 - 1000] _ _ (rest r2) (s1.trans (same_new ht)) ⟨t, rfl, upd_same⟩⟩⟩
  · obtain rfl : wd = .need := w_hit c2
    exact ⟨_, rfl, _, rfl, _, _, rfl, fun r2 g0 g1 => ⟨_, _, rfl, rfl, (by show (0 : Int) < 2001; decide), _, _, rfl, rfl, (by show 2 ≤ sizeLine; decide), fun t ht => q .need [r2 % 2001 - 1000] _ _ (rest r2) (s1.trans (same_new ht)) ⟨t, rfl, upd_same⟩⟩⟩
  have n1 := w_miss (b := .plus) c1
  have n2 := w_miss (b := .need) c2
  have ln : (sz.map V.int).length = sz.length := List.length_map _
  refine ⟨_, rfl, _, _, rfl, fun r r0 r1 => ⟨_, rfl, q0, _, rfl, .inl (SqL.of hq1), _, _, rfl, r0, r1, by omega, by omega, fun x hx => ?_⟩⟩
  refine ⟨_, rfl, _, rfl, q0, _, rfl, .inl (SqL.of hq1), _, _, rfl, rfl, _, rfl, ite2 (fun c3 => ?_) (fun c3 => ?_)⟩
  · have c3' : x < (((sz.map V.int).length : Nat) : Int) := of_decide_eq_true c3
    rw [ln] at c3'
    obtain ⟨m, hm, _, em⟩ := atI_int hx.1 c3'
    exact ⟨_, rfl, _, rfl, q0, _, _, _, rfl, rfl, SqL.of hq1, em, c, q0, wd, x, m, rfl, n1, n2, hx, (szo m hm).1, (szo m hm).2, fun wd ns v H' ar s tv => q wd ns v H' ar (s1.trans s) tv⟩
  · exact ⟨c, q0, wd, x, 8, rfl, n1, n2, hx, by decide, by decide, fun wd ns v H' ar s tv => q wd ns v H' ar (s1.trans s) tv⟩
theorem there_N {sz : List Int} {x : Stp} (h : hvI (houseV x.1 x.2) = none) : thereB sz x = true := by
  unfold thereB
  rw [h]
theorem there_F {sz : List Int} {x : Stp} {n : Int} (h : hvI (houseV x.1 x.2) = some n) (c : ¬ n < (sz.length : Nat)) : thereB sz x = false := by
  unfold thereB
  rw [h]
  show (decide _ && _) = false
  rw [decide_eq_false c, Bool.false_and]
theorem there_T {sz : List Int} {x : Stp} {n m : Int} (h : hvI (houseV x.1 x.2) = some n) (c : n < (sz.length : Nat)) (e : sz[n.toNat]? = some m) : thereB sz x = decide (lastI x.1 x.2 < m) := by
  unfold thereB
  rw [h]
  show (decide _ && decide (_ < (sz[n.toNat]?).getD 0)) = _
  rw [decide_eq_true c, Bool.true_and, e]
  rfl
theorem parts_of {x : Stp} (h : Ar x.1 x.2) : (∃ v, x.2 = [v] ∧ hvI (houseV x.1 x.2) = none) ∨ ∃ n c r, x.2 = n :: c :: r ∧ 0 ≤ n ∧ hvI (houseV x.1 x.2) = some n ∧ ((x.1 = .sum ∧ r = [lastI x.1 x.2]) ∨ (x.1 ≠ .sum ∧ lastI x.1 x.2 = c)) := by
  obtain ⟨wd, ns⟩ := x
  cases wd with
  | take => obtain ⟨a, b, e, h1, _⟩ := Ar.c (w := .take) rfl h; have e' : ns = [a, b] := e; subst e'; exact .inr ⟨a, b, [], rfl, h1.1, rfl, .inr ⟨(show Wd.take ≠ Wd.sum by decide), rfl⟩⟩
  | mean => obtain ⟨a, b, e, h1, _⟩ := Ar.c (w := .mean) rfl h; have e' : ns = [a, b] := e; subst e'; exact .inr ⟨a, b, [], rfl, h1.1, rfl, .inr ⟨(show Wd.mean ≠ Wd.sum by decide), rfl⟩⟩
  | give => obtain ⟨a, b, e, h1, _⟩ := Ar.c (w := .give) rfl h; have e' : ns = [a, b] := e; subst e'; exact .inr ⟨a, b, [], rfl, h1.1, rfl, .inr ⟨(show Wd.give ≠ Wd.sum by decide), rfl⟩⟩
  | sum => obtain ⟨a, b, c, e, h1, _⟩ := Ar.s h; have e' : ns = [a, b, c] := e; subst e'; exact .inr ⟨a, b, [c], rfl, h1.1, rfl, .inl ⟨rfl, rfl⟩⟩
  | add => obtain ⟨a, b, c, e, h1, _⟩ := Ar.a h; have e' : ns = [a, b, c] := e; subst e'; exact .inr ⟨a, b, [c], rfl, h1.1, rfl, .inr ⟨(show Wd.add ≠ Wd.sum by decide), rfl⟩⟩
  | plus => obtain ⟨a, e, _⟩ := Ar.p h; exact .inl ⟨a, e, rfl⟩
  | need => obtain ⟨a, e, _⟩ := Ar.n h; exact .inl ⟨a, e, rfl⟩
def t26 : TS := fun D σ H => ∃ b q x sz n c r, σ = [some (.ref b), some (.ref q), some (.int (lastI x.1 x.2))] ∧ H b = some (.tup (.str (wS x.1) :: .int n :: .int c :: r)) ∧ Sz H q sz ∧ 0 ≤ n ∧ hvI (houseV x.1 x.2) = some n ∧ D.rt (.bl (thereB sz x)) H
theorem ok_lthere (F : Fun K "_law_is_there" "_law_is_there" s__law_is_there f fd) (B : TxB mg) : FnOk P w K mg base CX0 1 f fd ["_law_step_here", "_law_sizes"] spLThere := by
  refine F.ok sc__law_is_there (fun vs H Q E h => ?_) (fun cdv A outer s H vs Q E hr h => ?_)
  · obtain ⟨v, q, x, sz, rfl, _⟩ := h
    rfl
  obtain ⟨v, q0, x, sz, rfl, ar, ⟨b, rfl, hb⟩, hq, q⟩ := h
  have nd := sc__law_is_there.nd
  refine ⟨_, pss_cons (ps_if (pt_cmpR op_eq (pe_callB call_len_seq rfl B.len PySem.boot_len (pa_cons (pv 0) pa_nil)) pe_int (nomark _)) (pss_one (ps_ret pe_bl)) pss_nil)
    (pss_cons (ps_set (i := 2) nd rfl (Or.inl rfl) (pe_ix (r := rIxT K) ix_tup (pv 0) pe_int (fun _ _ => rfl)))
    (pss_cons (ps_if (pt_cmpR op_eq (pe_ix (r := rIxT K) ix_tup (pv 0) pe_int (fun _ _ => rfl)) pe_str (nomark _)) (pss_one (ps_set (i := 2) nd rfl (Or.inl rfl) (pe_ix (r := rIxT K) ix_tup (pv 0) pe_int (fun _ _ => rfl)))) pss_nil)
    (pss_weak t26 (pss_one (ps_ret (pe_and (pe_cmpR op_lt (pe_ix (r := rIxT K) ix_tup (pv 0) pe_int (fun _ _ => rfl)) (pe_callB call_len_seq rfl B.len PySem.boot_len (pa_cons (pv 1) pa_nil)) (nomark _))
      (pe_one (pe_cmpR op_lt (pv 2) (pe_ix (r := rIxL K) ix_list (pv 1) (pe_ix (r := rIxT K) ix_tup (pv 0) pe_int (fun _ _ => rfl)) (fun _ _ => rfl)) (nomark _)))))) ?t))), ?_⟩
  case t =>
    rintro D σ H1 ⟨b, q0, x, sz, n, c, r, rfl, hb, hq, n0, hv, q⟩
    have ln : (sz.map V.int).length = sz.length := List.length_map _
    refine ⟨_, rfl, b, _, _, _, rfl, rfl, SqT.of hb, St.at1, _, rfl, q0, _, rfl, .inl (SqL.of hq), _, _, rfl, rfl, _, rfl, ite2 (fun c1 => ?_) (fun c1 => ?_)⟩
    · have c1' : n < (((sz.map V.int).length : Nat) : Int) := of_decide_eq_true c1
      rw [ln] at c1'
      obtain ⟨m, hm, e1, em⟩ := atI_int n0 c1'
      rw [there_T hv c1' e1] at q
      exact ⟨_, rfl, _, rfl, _, rfl, b, _, _, _, rfl, rfl, SqT.of hb, St.at1, q0, _, _, _, rfl, rfl, SqL.of hq, em, _, _, rfl, rfl, q⟩
    · have c1' : ¬ n < (((sz.map V.int).length : Nat) : Int) := fun z => c1 (decide_eq_true z)
      rw [ln] at c1'
      rw [there_F hv c1'] at q
      exact q
  rcases parts_of ar with ⟨v, e, hn⟩ | ⟨n, c, r, e, n0, hv, hl⟩
  · have hb' : H b = some (.tup [.str (wS x.1), .int v]) := by rw [hb, e]; rfl
    rw [there_N hn] at q
    exact ⟨_, rfl, b, _, rfl, .inr (SqT.of hb'), rfl, _, rfl, ite2 (fun _ => q) (fun z => absurd (decide_eq_true rfl) z)⟩
  have hb' : H b = some (.tup (.str (wS x.1) :: .int n :: .int c :: r.map V.int)) := by rw [hb, e]; rfl
  refine ⟨_, rfl, b, _, rfl, .inr (SqT.of hb'), rfl, _, rfl, ite2 (fun z => ?_) (fun _ => ?_)⟩
  · have z' := V.int.inj (of_decide_eq_true z)
    simp only [List.length_cons] at z'
    omega
  refine ⟨_, rfl, b, _, _, _, rfl, rfl, SqT.of hb', St.at2, _, rfl, b, _, _, _, rfl, rfl, SqT.of hb', St.at0, rfl, _, rfl, ite2 (fun z => ?_) (fun z => ?_)⟩
  · have hs : x.1 = .sum := w_hit (b := .sum) z
    rcases hl with ⟨_, er⟩ | ⟨ns, _⟩
    · refine ⟨_, rfl, b, _, _, _, rfl, rfl, SqT.of hb', ?_, b, q0, x, sz, n, c, _, rfl, hb', hq, n0, hv, q⟩
      rw [er]
      exact atI_nat (j := 3) rfl
    · exact absurd hs ns
  · rcases hl with ⟨hs, _⟩ | ⟨_, el⟩
    · exact absurd hs (w_miss (b := .sum) z)
    · rw [← el] at hb'
      exact ⟨b, q0, x, sz, n, _, _, by rw [← el]; rfl, hb', hq, n0, hv, q⟩
end
end K26
set_option maxHeartbeats 4000000
namespace K26
open PySem L2 Lo St
section
variable {P : Program} {w : World} {K : PySem.W.Frag} {mg : Str → Option Value} {base : Heap} {f CL CP : Addr} {fd : FuncData} {C : Kd → Addr} {CW : Wd → Addr}
theorem ok_painit (F : Fun K "__init__" "Pact.__init__" m_Pact_init f fd) (B : TxB mg) (T : TxP K CP) : FnOk P w K mg base CX0 1 f fd ["self", "manner", "steps"] (spPInit CP) := by
  refine F.ok sc_Pact_init (fun vs H Q E h => ?_) (fun cdv A outer s H vs Q E hr h => ?_)
  · obtain ⟨l, dx, m, q, us, rfl, _⟩ := h
    rfl
  obtain ⟨l, dx, m, q, us, rfl, hl, hq, qr⟩ := h
  refine ⟨_, pss_cons (ps_fld (pv 0) (pv 1) rfl) (pss_cons (ps_fld (pv 0) (pe_callTy call_list_of rfl B.list PyProof.Rows.boot_list (pa_cons (pv 2) pa_nil)) rfl)
    (pss_one (ps_fld (pv 0) (pe_callTy call_tuple_of rfl B.tuple PyProof.Rows.boot_tuple (pa_cons (pv 2) pa_nil)) rfl))), ?_⟩
  have nlq : q ≠ l := fun z => by rw [z, hl] at hq; cases hq
  refine ⟨_, rfl, _, rfl, l, CP, dx, [], rfl, hl, T.cl, T.nm, (by show 0 < 1000; decide), ?_⟩
  have k1 : Kp l H (upd H l (.ins CP dx (putF "manner" (.str m) []))) := kp_upd
  have hl1 : (upd H l (.ins CP dx (putF "manner" (.str m) []))) l = some (.ins CP dx (putF "manner" (.str m) [])) := upd_same
  have hq1 := k1 _ _ nlq hq
  generalize (upd H l (HO.ins CP dx (putF "manner" (.str m) []))) = H1 at k1 hl1 hq1 ⊢
  refine ⟨_, rfl, q, us, rfl, .inl (SqL.of hq1), fun sl hsl => ?_⟩
  have s2 := same_new (o := .lst us) hsl
  have nl : l ≠ sl := ne_of_none hl1 hsl
  refine ⟨_, rfl, l, CP, dx, _, rfl, s2 _ _ hl1, T.cl, T.ns, (by show 1 < 1000; decide), ?_⟩
  have k2 : Kp l H1 (upd (upd H1 sl (.lst us)) l (.ins CP dx (putF "steps" (.ref sl) (putF "manner" (.str m) [])))) := (Kp.of s2).trans kp_upd
  have hl2 : (upd (upd H1 sl (.lst us)) l (.ins CP dx (putF "steps" (.ref sl) (putF "manner" (.str m) [])))) l = some (.ins CP dx (putF "steps" (.ref sl) (putF "manner" (.str m) []))) := upd_same
  have hs2 : (upd (upd H1 sl (.lst us)) l (.ins CP dx (putF "steps" (.ref sl) (putF "manner" (.str m) [])))) sl = some (.lst us) := by rw [upd_ne (Ne.symm nl)]; exact upd_same
  have hq2 := k2 _ _ nlq hq1
  generalize (upd (upd H1 sl (.lst us)) l (HO.ins CP dx (putF "steps" (.ref sl) (putF "manner" (.str m) [])))) = H2 at k2 hl2 hs2 hq2 ⊢
  refine ⟨_, rfl, q, us, rfl, .inl ⟨SqL.of hq2, fun tp htp => ?_⟩⟩
  have s3 := same_new (o := .tup us) htp
  have nl3 : l ≠ tp := ne_of_none hl2 htp
  refine ⟨_, rfl, l, CP, dx, _, rfl, s3 _ _ hl2, T.cl, T.np, Nat.lt_of_le_of_lt (length_putF _ _ _) (by show 1 + 1 < 1000; decide), ?_⟩
  have k3 : Kp l H2 (upd (upd H2 tp (.tup us)) l (.ins CP dx (pf m sl tp))) := (Kp.of s3).trans kp_upd
  refine qr sl tp _ upd_same (k3 _ _ (Ne.symm nl) hs2) (by rw [upd_ne (Ne.symm nl3)]; exact upd_same) ?_ ?_ ((k1.trans k2).trans k3)
  · cases e : H sl with
    | none => rfl
    | some o => rw [k1 _ _ (Ne.symm nl) e] at hsl; cases hsl
  · cases e : H tp with
    | none => rfl
    | some o => rw [(k1.trans k2) _ _ (Ne.symm nl3) e] at htp; cases htp
theorem ok_rpart (F : Fun K "read_part" "read_part" s_read_part f fd) (GS : GF P w K mg base CX0 6 "read_step" ["text"] (spRStep CW)) : FnOk P w K mg base CX0 7 f fd ["text", "number"] (spRPart CW) := by
  refine F.ok sc_read_part (fun vs H Q E h => ?_) (fun cdv A outer s H vs Q E hr h => ?_)
  · obtain ⟨x, k, rfl, _⟩ := h
    rfl
  obtain ⟨x, k, rfl, ar, q⟩ := h
  exact ⟨_, pss_one (ps_try0 (pss_one (ps_ret (pc GS hr (pa_cons (pv 0) pa_nil))))), _, rfl, x.1, x.2, rfl, ar, q⟩
theorem ok_rpact (F : Fun K "read_pact" "read_pact" s_read_pact f fd) (B : TxB mg) {aM : Addr} (mM : mg "MANNERS" = some (.ref aM)) (tM : ∀ H, SqT K H aM [.str "held", .str "walked"]) (cM : ∃ t, mg "MOST_STEPS" = some (.int 12 t)) {fI : Addr} {dI : FuncData} (MP : Mk K CP fI) (mgP : mg "Pact" = some (.ref CP))
    (GI : FnOk P w K mg base CX0 1 fI dI ["self", "manner", "steps"] (spPInit CP)) (bI : Binds K dI ["self", "manner", "steps"] []) (GR : GF P w K mg base CX0 7 "read_part" ["text", "number"] (spRPart CW)) : FnOk P w K mg base CX0 8 f fd ["text"] (spRPact CP CW) := by
  refine F.ok sc_read_pact (fun vs H Q E h => ?_) (fun cdv A outer s H vs Q E hr h => ?_)
  · obtain ⟨b, xs, rfl, _⟩ := h
    rfl
  obtain ⟨b, xs, rfl, ar, h0, hl, q⟩ := h
  obtain ⟨tM0, cM⟩ := cM
  have nd := sc_read_pact.nd
  have hr1 : Room (1 + 1) _ := hr.mono (by decide)
  refine ⟨_, pss_cons (ps_set (i := 1) nd rfl (Or.inl rfl) (pe_bm PySem.F.plainAttrs_str PySem.F.slot_str_partition PySem.F.type_str_partition mt_part (pv 0) (pa_cons pe_str pa_nil)))
    (pss_cons (ps_if (PW.pt (pw_or (pt_cmpR (op_notinC cStr (hun hr)) (pe_ix (r := rIxT K) ix_tup (pv 1) pe_int (fun _ _ => rfl)) (pe_glob (v := .ref aM) rfl mM rfl) rfl) (pw_or1 (pt_cmpR op_eq (pe_ix (r := rIxT K) ix_tup (pv 1) pe_int (fun _ _ => rfl)) pe_str (nomark _))))) pss_never pss_nil)
    (pss_cons (ps_set (i := 2) nd rfl (Or.inr rfl) (pe_bm PySem.F.plainAttrs_str PySem.F.slot_str_split PySem.F.type_str_split mt_splitS (pe_ix (r := rIxT K) ix_tup (pv 1) pe_int (fun _ _ => rfl)) (pa_cons pe_str pa_nil)))
    (pss_cons (ps_if (pt_cmpR op_gt (pe_callB call_len_seq rfl B.len PySem.boot_len (pa_cons (pv 2) pa_nil)) (pe_glob (v := .int 12) rfl cM ⟨_, rfl⟩) (nomark _)) pss_never pss_nil)
    (pss_one (ps_ret (pe_make MP GI hr1 rfl mgP bI .nil pass0 (pa_cons (pe_ix (r := rIxT K) ix_tup (pv 1) pe_int (fun _ _ => rfl)) (pa_cons (pe_lc sb_read_pact_0 rfl (pi_range1 rfl B.range (pa_cons (pe_callB call_len_seq rfl B.len PySem.boot_len (pa_cons (pv 2) pa_nil)) pa_nil)) (fun _ _ _ _ => pts_nil)
      (fun _ _ _ _ => pc GR hr (pa_cons (pe_ix (r := rIxL K) ix_list (pv 1) (pv 0) (fun _ _ => rfl)) (pa_cons (pv 0) pa_nil)))) pa_nil)))))))), ?_⟩
  have js := join_short ar (by omega)
  have ml := mS_len b
  have l1 : (Str.ofString " ").length = 1 := by decide +kernel
  have hs : (100000 : Nat) ≤ sizeLine := by decide
  have pl : (ptx (mS b) xs).length ≤ 40000 := by
    have : (ptx (mS b) xs).length = (mS b).length + (Str.ofString " ").length + (Str.join (Str.ofString "; ") (xs.map sx)).length := by
      show (((mS b).cps ++ (Str.ofString " ").cps) ++ (Str.join (Str.ofString "; ") (xs.map sx)).cps).size = _
      rw [Array.size_append, Array.size_append]
      rfl
    omega
  refine ⟨_, rfl, rfl, _, _, rfl, rfl, (by decide +kernel), (by omega), fun p hp => ?_⟩
  rw [part_ptx]
  have s1 := same_new (o := .tup [.str (mS b), .str (Str.ofString " "), .str (Str.join (Str.ofString "; ") (xs.map sx))]) hp
  have hp1 : (upd H p (.tup [.str (mS b), .str (Str.ofString " "), .str (Str.join (Str.ofString "; ") (xs.map sx))])) p = some (.tup [.str (mS b), .str (Str.ofString " "), .str (Str.join (Str.ofString "; ") (xs.map sx))]) := upd_same
  generalize (upd H p (HO.tup [.str (mS b), .str (Str.ofString " "), .str (Str.join (Str.ofString "; ") (xs.map sx))])) = H1 at s1 hp1 ⊢
  refine ⟨_, rfl, p, _, _, _, rfl, rfl, SqT.of hp1, at0, mS b, aM, _, ["held", "walked"], rfl, rfl, .inr (tM H1), .cons rfl (.cons rfl .nil), _, rfl, ?_⟩
  have hin : mS b ∈ (["held", "walked"] : List Str) := by cases b <;> decide +kernel
  refine ite2 (fun c => absurd hin (of_decide_eq_false (by simpa using c))) (fun _ => ?_)
  refine ⟨_, rfl, p, _, _, _, rfl, rfl, SqT.of hp1, at1, rfl, _, rfl, ite2 (fun c => absurd (V.str.inj (of_decide_eq_true c)) (by decide +kernel)) (fun _ => ?_)⟩
  refine ⟨_, rfl, p, _, _, _, rfl, rfl, SqT.of hp1, at2, rfl, _, _, rfl, rfl, (by decide +kernel), (by omega), fun tl htl => ?_⟩
  rw [split_ptx h0]
  have s2 := same_new (o := .lst ((xs.map sx).map V.str)) htl
  have ht2 : (upd H1 tl (.lst ((xs.map sx).map V.str))) tl = some (.lst ((xs.map sx).map V.str)) := upd_same
  have hp2 := s2 _ _ hp1
  generalize (upd H1 tl (HO.lst ((xs.map sx).map V.str))) = H2 at s2 ht2 hp2 ⊢
  have s02 := s1.trans s2
  have ll : ((xs.map sx).map V.str).length = xs.length := by rw [List.length_map, List.length_map]
  refine ⟨_, rfl, tl, _, rfl, .inl (SqL.of ht2), _, _, rfl, rfl, _, rfl, ite2 (fun c => absurd (of_decide_eq_true c) (by rw [ll]; omega)) (fun _ => ?_)⟩
  refine ⟨_, rfl, p, _, _, _, rfl, rfl, SqT.of hp2, at0, ?_⟩
  refine ⟨_, rfl, tl, _, rfl, .inl (SqL.of ht2), _, rfl, by omega, by rw [ll]; omega, ?_⟩
  have e0 : ((((xs.map sx).map V.str).length : Nat) : Int).toNat = xs.length := by rw [ll]; rfl
  rw [e0]
  refine lc_range (n := xs.length) (fun i ys H' => Same H2 H' ∧ StsP CW H' (xs.take i) ys) ⟨Same.refl _, .nil⟩ (by omega) ?_ ?_
  · rintro i ys H3 hi ⟨s3, ps⟩
    have hx : xs[i]? = some xs[i] := List.getElem?_eq_getElem hi
    refine tAllT ⟨_, rfl, _, rfl, tl, _, _, _, rfl, rfl, SqL.of (s3 _ _ ht2), atI_nat (by rw [List.getElem?_map, List.getElem?_map, hx]; rfl), _, rfl, xs[i], _, rfl, ar _ (List.getElem_mem hi), fun v H4 s4 sv => ⟨s3.trans s4, ?_⟩⟩
    have e2 : xs.take (i + 1) = xs.take i ++ [xs[i]] := by
      rw [List.take_add_one, hx]
      rfl
    rw [e2]
    exact (ps.keep s4).app (.cons sv .nil)
  · rintro ys H3 ⟨s3, ps⟩ l hl3
    rw [List.take_length] at ps
    have s4 := same_new (o := .lst ys) hl3
    have h4 : (upd H3 l (.lst ys)) l = some (.lst ys) := upd_same
    have ps4 := ps.keep s4
    generalize (upd H3 l (HO.lst ys)) = H4 at s4 h4 ps4 ⊢
    intro x dx nx ndx nex
    refine ⟨x, dx, _, l, ys, rfl, upd_same, (by rw [upd_ne (ne_of_none h4 nx), upd_ne (ne_of_none h4 ndx)]; exact h4), fun sl tp H5 e1 e2 e3 n1 n2 k => ⟨rfl, ?_⟩⟩
    have s5 := mk_kp nx ndx k
    have z4 : H4 sl = none := by
      cases e : H4 sl with
      | none => rfl
      | some u =>
        rw [upd_ne (ne_of_none e nx), upd_ne (ne_of_none e ndx), e] at n1
        cases n1
    have z0 : H sl = none := by
      cases e : H sl with
      | none => rfl
      | some u =>
        rw [(s02.trans (s3.trans s4)) _ _ e] at z4
        cases z4
    exact q x dx sl tp ys H5 (s02.trans (s3.trans (s4.trans s5))) z0 ⟨e1, e2, e3, ps4.keep s5⟩
theorem turn_take {xs : List Stp} {x : Stp} (h : ∀ y ∈ xs, y.1 ≠ .give) (r : List Stp) : (x.1 = .give → turnOf (xs ++ x :: r) = xs.length) := fun hx => by
  unfold turnOf
  rw [List.findIdx_append, if_neg]
  · rw [List.findIdx_cons, decide_eq_true hx]
    simp
  · intro z
    rw [List.findIdx_lt_length] at z
    obtain ⟨y, hy, e⟩ := z
    exact h y hy (of_decide_eq_true e)
theorem turn_none {xs : List Stp} (h : ∀ y ∈ xs, y.1 ≠ .give) : turnOf xs = xs.length := by
  unfold turnOf
  rw [List.findIdx_eq_length]
  exact fun y hy => decide_eq_false (h y hy)
theorem ok_turning (F : Fun K "turning" "turning" s_turning f fd) (B : TxB mg) (T : TxP K CP) (W : TxW K CW) (GU : ∀ wd, GM P w K mg base CX0 1 (CW wd) "sure" ["self"] (spSure wd)) : FnOk P w K mg base CX0 2 f fd ["pact"] (spTurn CP CW) := by
  refine F.ok sc_turning (fun vs H Q E h => ?_) (fun cdv A outer s H vs Q E hr h => ?_)
  · obtain ⟨v, b, xs, rfl, _⟩ := h
    rfl
  obtain ⟨v, b, xs, rfl, ⟨a, dx, sl, tp, us, rfl, pa⟩, hl, q⟩ := h
  have nd := sc_turning.nd
  have pl : xs.length = us.length := pa.st.len
  refine ⟨_, pss_cons (ps_for PassesOwn.never rfl (pi_range1 rfl B.range (pa_cons (pe_callB call_len_seq rfl B.len PySem.boot_len (pa_cons (pe_fld (pv 0) rfl) pa_nil)) pa_nil)) (pg_name (i := 1) nd rfl (Or.inl rfl))
      (pss_one (ps_if (pt_val (pe_ex fun wd => pm0 (GU wd) (pe_ix (r := rIxT K) ix_tup (pe_fld (pv 0) rfl) (pv 1) (fun _ _ => rfl)) (W.cl wd) hr)) (pss_one (ps_ret (pv 1))) pss_nil)))
    (pss_one (ps_ret (pe_callB call_len_seq rfl B.len PySem.boot_len (pa_cons (pe_fld (pv 0) rfl) pa_nil)))), ?_⟩
  have hs : (100000 : Nat) ≤ sizeLine := by decide
  refine ⟨_, rfl, a, CP, dx, _, _, rfl, pa.ins, T.cl, T.np, pf_p _ _ _, tp, _, rfl, .inr (SqT.of pa.tp), _, rfl, by omega, by omega, ?_⟩
  have e0 : ((us.length : Nat) : Int).toNat = us.length := rfl
  refine for_range (n := us.length) (fun i σ H' => H' = H ∧ (∀ y ∈ xs.take i, y.1 ≠ .give) ∧ ∃ x1, σ = [some (.ref a), x1]) ⟨rfl, (fun y hy => nomatch hy), none, rfl⟩ ?_ ?_
  · rintro i σ H' hi ⟨rfl, nog, x1, rfl⟩
    obtain ⟨x, ex, sa, sdx, e, hsa⟩ := pa.st.get (List.getElem?_eq_getElem hi)
    have f1 := fs_no (m := "sure") (by decide +kernel) (by decide +kernel) (by decide +kernel) (by decide +kernel) (by decide +kernel) x.1 x.2
    have ei : (0 : Int) + (i : Nat) = ((i : Nat) : Int) := Int.zero_add _
    rw [ei]
    refine ⟨x.1, _, rfl, a, CP, dx, _, _, rfl, pa.ins, T.cl, T.np, pf_p _ _ _, _, rfl, tp, _, _, _, rfl, rfl, SqT.of pa.tp, atI_nat (by rw [List.getElem?_eq_getElem hi, e]), sa, sdx, _, rfl, hsa, f1, _, rfl, _, rfl, ?_⟩
    have et : xs = xs.take i ++ x :: xs.drop (i + 1) := by
      have hx := (List.getElem?_eq_some_iff.mp ex)
      obtain ⟨h1, h2⟩ := hx
      rw [← h2]
      rw [← List.drop_eq_getElem_cons h1, List.take_append_drop]
    by_cases hg : x.1 = .give
    · rw [decide_eq_true hg]
      refine iteT ⟨_, rfl, ?_⟩
      have z := turn_take nog (xs.drop (i + 1)) hg
      rw [← et, List.length_take, Nat.min_eq_left (by omega)] at z
      rw [z] at q
      exact q
    · rw [decide_eq_false hg]
      refine iteF ⟨rfl, fun y hy => ?_, _, rfl⟩
      rw [List.take_add_one, ex] at hy
      rcases List.mem_append.mp hy with hy | hy
      · exact nog y hy
      · have : y = x := by simpa using hy
        rw [this]
        exact hg
  · rintro σ H' ⟨rfl, nog, x1, rfl⟩
    rw [← pl, List.take_length] at nog
    rw [turn_none nog, pl] at q
    exact ⟨_, rfl, a, CP, dx, _, _, rfl, pa.ins, T.cl, T.np, pf_p _ _ _, tp, _, rfl, .inr (SqT.of pa.tp), q⟩
end
end K26
set_option maxHeartbeats 4000000
namespace K26
open PySem L2 Lo St
section
variable {P : Program} {w : World} {K : PySem.W.Frag} {mg : Str → Option Value} {base : Heap} {f CL CP : Addr} {fd : FuncData} {C : Kd → Addr} {CW : Wd → Addr}
theorem turn_lt {xs : List Stp} {i : Nat} {x : Stp} (e : xs[i]? = some x) : decide (turnOf xs < i + 1) = (decide (turnOf xs < i) || decide (x.1 = .give)) := by
  obtain ⟨hi, ex⟩ := List.getElem?_eq_some_iff.mp e
  by_cases h1 : turnOf xs < i
  · rw [decide_eq_true h1, Bool.true_or]
    exact decide_eq_true (by omega)
  rw [decide_eq_false h1, Bool.false_or]
  by_cases h2 : x.1 = .give
  · rw [decide_eq_true h2]
    refine decide_eq_true (Nat.lt_of_not_le fun z => ?_)
    have y := List.not_of_lt_findIdx (p := fun x : Stp => decide (x.1 = .give)) (xs := xs) (i := i) z
    rw [ex, decide_eq_true h2] at y
    exact absurd y (by decide)
  · rw [decide_eq_false h2]
    refine decide_eq_false fun z => h2 ?_
    have et : turnOf xs = i := by omega
    have y := List.findIdx_getElem (p := fun x : Stp => decide (x.1 = .give)) (xs := xs) (w := by show turnOf xs < _; omega)
    have y2 : decide ((xs[turnOf xs]'(by omega)).1 = .give) = true := y
    simp only [et, ex] at y2
    exact of_decide_eq_true y2
theorem mS_walk (b : Bool) : decide (V.str (mS b) = V.str "walked") = b := by cases b <;> decide +kernel
def v26 : TS := fun D σ H => ∃ m qs q0 i g us b1 wd r, σ = [some (.str m), some (.ref qs), some (.ref q0), some (.int ((i : Nat) : Int)), some (.bl g)] ∧ H qs = some (.lst us) ∧ us[i]? = some (.ref b1) ∧ H b1 = some (.tup (.str (wS wd) :: r)) ∧
  D.nx [some (.str m), some (.ref qs), some (.ref q0), some (.int ((i : Nat) : Int)), some (.bl (g || decide (wd = .give)))] H
def spLDue : Sp := fun vs H Q _ => ∃ b qs q xs sz, vs = [.str (mS b), .ref qs, .ref q] ∧ TsA H qs xs ∧ ArS xs ∧ xs.length ≤ 20 ∧ Sz H q sz ∧ ∀ o u H', Due b sz xs o → Same H H' → rDu H' o u → Q u H'
theorem ok_ldue (F : Fun K "_law_due" "_law_due" s__law_due f fd) (B : TxB mg) (GT : GF P w K mg base CX0 1 "_law_is_there" ["_law_step_here", "_law_sizes"] spLThere) : FnOk P w K mg base CX0 2 f fd ["_law_manner", "_law_steps", "_law_sizes"] spLDue := by
  refine F.ok sc__law_due (fun vs H Q E h => ?_) (fun cdv A outer s H vs Q E hr h => ?_)
  · obtain ⟨b, qs, q, xs, sz, rfl, _⟩ := h
    rfl
  obtain ⟨b, qs, q0, xs, sz, rfl, ⟨us, hqs, ps⟩, ar, hl, hq, q⟩ := h
  have nd := sc__law_due.nd
  have pl : xs.length = us.length := ps.len
  refine ⟨_, pss_cons (ps_for PassesOwn.never rfl (pi_range1 rfl B.range (pa_cons (pe_callB call_len_seq rfl B.len PySem.boot_len (pa_cons (pv 1) pa_nil)) pa_nil)) (pg_name (i := 3) nd rfl (Or.inl rfl))
      (pss_one (ps_if (pt_not (pt_val (pc GT hr (pa_cons (pe_ix (r := rIxL K) ix_list (pv 1) (pv 3) (fun _ _ => rfl)) (pa_cons (pv 2) pa_nil))))) (pss_one (ps_ret (pe_tup (pa_cons pe_str (pa_cons (pv 3) pa_nil))))) pss_nil)))
    (pss_cons (ps_set (i := 4) nd rfl (Or.inl rfl) pe_bl)
    (pss_cons (ps_for PassesOwn.never rfl (pi_range1 rfl B.range (pa_cons (pe_callB call_len_seq rfl B.len PySem.boot_len (pa_cons (pv 1) pa_nil)) pa_nil)) (pg_name (i := 3) nd rfl (Or.inl rfl))
      (pss_cons (ps_if (PW.pt (pw_and (pt_val (pv 4)) (pw_and (pt_cmpR op_eq (pe_ix (r := rIxT K) ix_tup (pe_ix (r := rIxL K) ix_list (pv 1) (pv 3) (fun _ _ => rfl)) pe_int (fun _ _ => rfl)) pe_str (nomark _)) (pw_and1 (pt_cmpR op_eq (pv 0) pe_str (nomark _)))))) (pss_one (ps_ret (pe_tup (pa_cons pe_str (pa_cons (pv 3) pa_nil))))) pss_nil)
      (pss_weak v26 (pss_one (ps_set (i := 4) nd rfl (Or.inl rfl) (pe_or (pv 4) (pe_one (pe_cmpR op_eq (pe_ix (r := rIxT K) ix_tup (pe_ix (r := rIxL K) ix_list (pv 1) (pv 3) (fun _ _ => rfl)) pe_int (fun _ _ => rfl)) pe_str (nomark _)))))) ?v)))
    (pss_one (ps_ret pe_non)))), ?_⟩
  case v =>
    rintro D σ H1 ⟨m, qs, q0, i, g, us, b1, wd, r, rfl, h1, h2, h3, q⟩
    cases g with
    | true => exact ⟨_, rfl, _, rfl, iteT q⟩
    | false =>
      refine ⟨_, rfl, _, rfl, iteF ⟨_, rfl, _, rfl, qs, _, _, _, rfl, rfl, SqL.of h1, atI_nat h2, b1, _, _, _, rfl, rfl, SqT.of h3, St.at0, rfl, ?_⟩⟩
      rw [Bool.false_or, ← w_give wd] at q
      exact q
  refine ⟨_, rfl, qs, _, rfl, .inl (SqL.of hqs), _, rfl, by omega, by omega, ?_⟩
  refine for_range (n := us.length) (fun i σ H' => H' = H ∧ thereAll sz xs i ∧ ∃ x3, σ = [some (.str (mS b)), some (.ref qs), some (.ref q0), x3, none]) ⟨rfl, (fun j hj => absurd hj (Nat.not_lt_zero j)), none, rfl⟩ ?_ ?_
  · rintro i σ H' hi ⟨rfl, al, x3, rfl⟩
    obtain ⟨x, ex, b1, e, hb⟩ := ps.get (List.getElem?_eq_getElem hi)
    have ei : (0 : Int) + (i : Nat) = ((i : Nat) : Int) := Int.zero_add _
    rw [ei]
    refine ⟨_, rfl, _, rfl, qs, _, _, _, rfl, rfl, SqL.of hqs, atI_nat (by rw [List.getElem?_eq_getElem hi, e]), _, rfl, _, q0, x, sz, rfl, ar x (List.mem_of_getElem? ex), ⟨b1, rfl, hb⟩, hq, _, rfl, ?_⟩
    cases ht : thereB sz x with
    | false => exact iteT ⟨_, rfl, (by show 2 ≤ sizeLine; decide), fun t ht2 => q _ _ _ (.place ex ht al) (same_new ht2) ⟨t, rfl, upd_same⟩⟩
    | true =>
      refine iteF ⟨rfl, fun j hj y ey => ?_, _, rfl⟩
      rcases Nat.lt_succ_iff_lt_or_eq.mp hj with z | z
      · exact al j z y ey
      · rw [z, ex] at ey
        cases ey
        exact ht
  rintro σ H' ⟨rfl, al, x3, rfl⟩
  rw [← pl] at al
  refine ⟨_, rfl, qs, _, rfl, .inl (SqL.of hqs), _, rfl, by omega, by omega, ?_⟩
  refine for_range (n := us.length) (fun i σ H1 => H1 = H' ∧ (b = true → noNeed xs i) ∧ ∃ x3, σ = [some (.str (mS b)), some (.ref qs), some (.ref q0), x3, some (.bl (decide (turnOf xs < i)))]) ⟨rfl, (fun _ j _ hj => absurd hj (Nat.not_lt_zero j)), x3, by rw [decide_eq_false (Nat.not_lt_zero _)]; rfl⟩ ?_ ?_
  · rintro i σ H1 hi ⟨rfl, nn, x3, rfl⟩
    obtain ⟨x, ex, b1, e, hb⟩ := ps.get (List.getElem?_eq_getElem hi)
    have ei : (0 : Int) + (i : Nat) = ((i : Nat) : Int) := Int.zero_add _
    rw [ei]
    have es : us[i]? = some (.ref b1) := by rw [List.getElem?_eq_getElem hi, e]
    have goes : (b = true → turnOf xs < i → x.1 ≠ .need) → b = true → noNeed xs (i + 1) := fun no hb j tj hj y ey => by
      rcases Nat.lt_succ_iff_lt_or_eq.mp hj with z | z
      · exact nn hb j tj z y ey
      · rw [z, ex] at ey
        cases ey
        exact no hb (z ▸ tj)
    refine ⟨_, rfl, _, rfl, ?_⟩
    cases hg : decide (turnOf xs < i) with
    | false =>
      exact iteF (iteF ⟨_, qs, q0, i, false, us, b1, x.1, _, rfl, hqs, es, hb, rfl, goes fun _ z => absurd z (of_decide_eq_false hg), _, by rw [turn_lt ex, hg]⟩)
    | true =>
      refine iteT ⟨_, rfl, _, rfl, qs, _, _, _, rfl, rfl, SqL.of hqs, atI_nat es, b1, _, _, _, rfl, rfl, SqT.of hb, St.at0, rfl, _, rfl, ite2 (fun c => ?_) (fun c => iteF ?_)⟩
      · refine ⟨_, rfl, rfl, _, rfl, ?_⟩
        rw [mS_walk]
        cases hb2 : b with
        | true =>
          subst hb2
          exact iteT ⟨_, rfl, (by show 2 ≤ sizeLine; decide), fun t ht2 => q _ _ _ (.way al rfl (of_decide_eq_true hg) ex (w_hit (b := .need) c) (nn rfl)) (same_new ht2) ⟨t, rfl, upd_same⟩⟩
        | false =>
          exact iteF ⟨_, qs, q0, i, true, us, b1, x.1, _, rfl, hqs, es, hb, rfl, (fun z => nomatch z), _, by rw [turn_lt ex, hg]⟩
      · exact ⟨_, qs, q0, i, true, us, b1, x.1, _, rfl, hqs, es, hb, rfl, goes fun _ _ => w_miss (b := .need) c, _, by rw [turn_lt ex, hg]⟩
  · rintro σ H1 ⟨rfl, nn, x3, rfl⟩
    rw [← pl] at nn
    exact q _ _ _ (.calm al nn) (Same.refl _) rfl
theorem ok_there (F : Fun K "is_there" "is_there" s_is_there f fd) (B : TxB mg) (W : TxW K CW) (GH : ∀ wd, GM P w K mg base CX0 1 (CW wd) "house" ["self"] (spHouse CW wd)) (GL : ∀ wd, GM P w K mg base CX0 3 (CW wd) "lock" ["self"] (spSLock CW K wd)) : FnOk P w K mg base CX0 4 f fd ["step", "sizes"] (spThere CW) := by
  refine F.ok sc_is_there (fun vs H Q E h => ?_) (fun cdv A outer s H vs Q E hr h => ?_)
  · obtain ⟨v, q, x, sz, rfl, _⟩ := h
    rfl
  obtain ⟨v, q0, x, sz, rfl, ar, ⟨sa, sdx, rfl, hsa⟩, hq, q⟩ := h
  have nd := sc_is_there.nd
  refine ⟨_, pss_cons (ps_set (i := 2) nd rfl (Or.inl rfl) (pe_ex fun wd => pm0 (GH wd) (pv 0) (W.cl wd) hr))
    (pss_one (ps_ret (pe_or (pe_cmpR op_isN (pv 2) pe_non (nomark _)) (pe_one (pe_and (pe_cmpR op_lt (pv 2) (pe_callB call_len_seq rfl B.len PySem.boot_len (pa_cons (pv 1) pa_nil)) (nomark _))
      (pe_one (pe_cmpR op_lt (pe_ix (r := rIxT K) ix_tup (pe_ex fun wd => pm0 (GL wd) (pv 0) (W.cl wd) hr) pe_int (fun _ _ => rfl)) (pe_ix (r := rIxL K) ix_list (pv 1) (pv 2) (fun _ _ => rfl)) (nomark _)))))))), ?_⟩
  have f1 := fs_no (m := "house") (by decide +kernel) (by decide +kernel) (by decide +kernel) (by decide +kernel) (by decide +kernel) x.1 x.2
  have f2 := fs_no (m := "lock") (by decide +kernel) (by decide +kernel) (by decide +kernel) (by decide +kernel) (by decide +kernel) x.1 x.2
  refine ⟨x.1, _, rfl, sa, sdx, _, rfl, hsa, f1, _, x.2, rfl, ar, ⟨sa, sdx, rfl, hsa⟩, _, rfl, rfl, _, rfl, ?_⟩
  have ln : (sz.map V.int).length = sz.length := List.length_map _
  rcases house_there ar with ⟨e1, _⟩ | ⟨i, e1, i0, kd, fi, el⟩
  · have z := q H (Same.refl _)
    rw [there_N (by rw [e1]; rfl)] at z
    rw [e1, decide_eq_true rfl]
    exact iteT z
  have hv : hvI (houseV x.1 x.2) = some i := by rw [e1]; rfl
  have ne : ¬ houseV x.1 x.2 = .non := fun z => by rw [e1] at z; cases z
  rw [decide_eq_false ne]
  rw [e1]
  refine iteF ⟨_, rfl, _, rfl, q0, _, rfl, .inl (SqL.of hq), _, _, rfl, rfl, _, rfl, ite2 (fun c => ?_) (fun c => ?_)⟩
  · have c' : i < (((sz.map V.int).length : Nat) : Int) := of_decide_eq_true c
    rw [ln] at c'
    obtain ⟨m, _, e2, em⟩ := atI_int i0 c'
    refine ⟨x.1, _, rfl, sa, sdx, _, rfl, hsa, f2, _, x.2, rfl, ar, ⟨sa, sdx, rfl, hsa⟩, fun u H1 s1 ol => ?_⟩
    rw [el] at ol
    obtain ⟨t, rfl, hs⟩ := ol
    have z := q H1 s1
    rw [there_T hv c' e2] at z
    exact ⟨t, _, _, _, rfl, rfl, SqT.of hs, St.at2, _, rfl, _, rfl, q0, _, _, _, rfl, rfl, SqL.of (s1 _ _ hq), em, _, _, rfl, rfl, z⟩
  · have c' : ¬ i < (((sz.map V.int).length : Nat) : Int) := fun z => c (decide_eq_true z)
    rw [ln] at c'
    have z := q H (Same.refl _)
    rw [there_F hv c'] at z
    exact z
structure TxN (K : PySem.W.Frag) (mg : Str → Option Value) (CW : Wd → Addr) : Prop where
  mgN : mg "NeedStep" = some (.ref (CW .need))
  ha : ∀ wd, PySem.W.findIn K (.ref (CW wd)) "__class__" = some (some (.builtin "object.__class__"))
  hn : PySem.W.specialIn K (.builtin "object.__class__") "__get__" = some (some (.builtin "getset_descriptor.__get__"))
  htk : PySem.W.takesIn K (.builtin "object.__class__") = some true
  hm : ∀ wd, PySem.W.mroIn K (CW wd) (.type "object") = some true
  isN : ∀ wd, PySem.W.kitOne K (.ref (CW wd)) (.ref (CW .need)) = some (decide (wd = .need))
open XA in
theorem ok_lkb (F : Fun K "look_behind" "look_behind" s_look_behind f fd) (B : TxB mg) (T : TxP K CP) (W : TxW K CW) (N : TxN K mg CW) (GT : GF P w K mg base CX0 2 "turning" ["pact"] (spTurn CP CW)) {CB fI : Addr} {dI : FuncData} (M : MkX K CB fI) (FI : FnOk P w K mg base CX0 1 fI dI ["self", "at"] (spXI CB)) (bI : Binds K dI ["self", "at"] [])
    (mB : mg "NoWayBack" = some (.ref CB)) : FnOk P w K mg base (CXA P w) 3 f fd ["pact"] (spLkB CP CW CB) := by
  refine okA F sc_look_behind (fun vs H Q E h => ?_) (fun cdv A outer s H vs Q E hr h => ?_)
  · obtain ⟨v, b, xs, rfl, _⟩ := h
    rfl
  obtain ⟨v, b, xs, rfl, ⟨a, dx, sl, tp, us, rfl, pa⟩, hl, qn, qe⟩ := h
  have nd := sc_look_behind.nd
  have pl : xs.length = us.length := pa.st.len
  have hr1 : Room (1 + 1) _ := hr
  refine ⟨_, pss_one (ps_for PassesOwn.leaving rfl (pi_range2 rfl B.range (pa_cons (pe_op op_add (pc GT hr (pa_cons (pv 0) pa_nil)) pe_int) (pa_cons (pe_callB call_len_seq rfl B.len PySem.boot_len (pa_cons (pe_fld (pv 0) rfl) pa_nil)) pa_nil))) (pg_name (i := 1) nd rfl (Or.inl rfl))
      (pss_one (ps_if (pt_val (pe_callB call_isinstC rfl B.isi PyProof.Rows.boot_isinstance (pa_cons (pe_ix (r := rIxT K) ix_tup (pe_fld (pv 0) rfl) (pv 1) (fun _ _ => rfl)) (pa_cons (pe_glob (v := .ref (CW .need)) rfl N.mgN rfl) pa_nil)))) (pss_one (ps_raiseA def_cxA rfl M FI bI hr1 rfl mB (pa_cons (pv 1) pa_nil))) pss_nil))), ?_⟩
  refine ⟨_, rfl, _, b, xs, rfl, ⟨a, dx, sl, tp, us, rfl, pa⟩, hl, _, _, rfl, rfl, _, rfl, a, CP, dx, _, _, rfl, pa.ins, T.cl, T.np, pf_p _ _ _, tp, _, rfl, .inr (SqT.of pa.tp), ?_⟩
  have tl : turnOf xs ≤ xs.length := List.findIdx_le_length
  refine ⟨_, _, rfl, ⟨by omega, by omega, by omega, by omega⟩, ?_⟩
  refine for_range (fun i σ H' => H' = H ∧ noNeed xs (turnOf xs + 1 + i) ∧ ∃ x1, σ = [some (.ref a), x1]) ⟨rfl, (fun j h1 h2 => by omega), none, rfl⟩ ?_ ?_
  · rintro i σ H' hi ⟨rfl, nn, x1, rfl⟩
    have hk : turnOf xs + 1 + i < us.length := by omega
    obtain ⟨x, ex, sa, sdx, e, hsa⟩ := pa.st.get (List.getElem?_eq_getElem hk)
    have ei : ((turnOf xs : Nat) : Int) + 1 + (i : Nat) = ((turnOf xs + 1 + i : Nat) : Int) := by omega
    rw [ei]
    refine ⟨_, rfl, a, CP, dx, _, _, rfl, pa.ins, T.cl, T.np, pf_p _ _ _, _, rfl, tp, _, _, _, rfl, rfl, SqT.of pa.tp, atI_nat (by rw [List.getElem?_eq_getElem hk, e]), _, _, _, _, rfl, TyOf.ins hsa (W.cl x.1) (N.ha x.1) N.hn N.htk (N.hm x.1), N.isN x.1, _, rfl, ?_⟩
    by_cases hn : x.1 = .need
    · rw [decide_eq_true hn]
      exact iteT ⟨_, rfl, _, rfl, fun dd tk hdd => qe _ x _ tk (by omega) ex hn nn (same_new hdd)⟩
    · rw [decide_eq_false hn]
      refine iteF ⟨rfl, fun j h1 h2 y ey => ?_, _, rfl⟩
      by_cases hj : j < turnOf xs + 1 + i
      · exact nn j h1 hj y ey
      · have z : j = turnOf xs + 1 + i := by omega
        rw [z, ex] at ey
        cases ey
        exact hn
  · rintro σ H' ⟨rfl, nn, x1, rfl⟩
    exact qn (fun j h1 h2 y ey => nn j h1 (by omega) y ey) _ (Same.refl _)
open XA in
theorem ok_look (F : Fun K "look" "look" s_look f fd) (B : TxB mg) (T : TxP K CP) (GT : GF P w K mg base CX0 4 "is_there" ["step", "sizes"] (spThere CW)) {CA CB fI : Addr} {dI : FuncData} (GB : GF P w K mg base (CXA P w) 3 "look_behind" ["pact"] (spLkB CP CW CB)) (M : MkX K CA fI) (FI : FnOk P w K mg base CX0 1 fI dI ["self", "at"] (spXI CA)) (bI : Binds K dI ["self", "at"] [])
    (mA : mg "NoPlace" = some (.ref CA)) : FnOk P w K mg base (CXA P w) 5 f fd ["pact", "sizes"] (spLook CP CW CA CB) := by
  refine okA F sc_look (fun vs H Q E h => ?_) (fun cdv A outer s H vs Q E hr h => ?_)
  · obtain ⟨v, q, b, xs, sz, rfl, _⟩ := h
    rfl
  obtain ⟨v, q0, b, xs, sz, rfl, ⟨a, dx, sl, tp, us, rfl, pa⟩, ar, hl, hq, qn, qe⟩ := h
  have nd := sc_look.nd
  have pl : xs.length = us.length := pa.st.len
  have hr1 : Room (1 + 1) _ := hr.mono (by decide)
  refine ⟨_, pss_cons (ps_for PassesOwn.leaving rfl (pi_range1 rfl B.range (pa_cons (pe_callB call_len_seq rfl B.len PySem.boot_len (pa_cons (pe_fld (pv 0) rfl) pa_nil)) pa_nil)) (pg_name (i := 2) nd rfl (Or.inl rfl))
      (pss_one (ps_if (pt_not (pt_val (pc GT hr (pa_cons (pe_ix (r := rIxT K) ix_tup (pe_fld (pv 0) rfl) (pv 2) (fun _ _ => rfl)) (pa_cons (pv 1) pa_nil))))) (pss_one (ps_raiseA def_cxA rfl M FI bI hr1 rfl mA (pa_cons (pv 2) pa_nil))) pss_nil)))
    (pss_one (ps_if (pt_cmpR op_eq (pe_fld (pv 0) rfl) pe_str (nomark _)) (pss_one (ps_expr (pc GB hr (pa_cons (pv 0) pa_nil) (hx := passXA)))) pss_nil)), ?_⟩
  refine ⟨_, rfl, a, CP, dx, _, _, rfl, pa.ins, T.cl, T.np, pf_p _ _ _, tp, _, rfl, .inr (SqT.of pa.tp), _, rfl, by omega, by omega, ?_⟩
  refine for_range (n := us.length) (fun i σ H' => Same H H' ∧ thereAll sz xs i ∧ ∃ x2, σ = [some (.ref a), some (.ref q0), x2]) ⟨Same.refl _, (fun j hj => absurd hj (Nat.not_lt_zero j)), none, rfl⟩ ?_ ?_
  · rintro i σ H1 hi ⟨s1, al, x2, rfl⟩
    obtain ⟨x, ex, sa, sdx, e, hsa⟩ := pa.st.get (List.getElem?_eq_getElem hi)
    have ei : (0 : Int) + (i : Nat) = ((i : Nat) : Int) := Int.zero_add _
    rw [ei]
    refine ⟨_, rfl, a, CP, dx, _, _, rfl, s1 _ _ pa.ins, T.cl, T.np, pf_p _ _ _, _, rfl, tp, _, _, _, rfl, rfl, SqT.of (s1 _ _ pa.tp), atI_nat (by rw [List.getElem?_eq_getElem hi, e]), _, rfl, _, q0, x, sz, rfl, ar x (List.mem_of_getElem? ex), ⟨sa, sdx, rfl, s1 _ _ hsa⟩, s1 _ _ hq, fun H2 s2 => ⟨_, rfl, ?_⟩⟩
    cases ht : thereB sz x with
    | false => exact iteT ⟨_, rfl, _, rfl, fun dd tk hdd => qe true i _ tk (.place ex ht al) (s1.trans (s2.trans (same_new hdd)))⟩
    | true =>
      refine iteF ⟨s1.trans s2, fun j hj y ey => ?_, _, rfl⟩
      rcases Nat.lt_succ_iff_lt_or_eq.mp hj with z | z
      · exact al j z y ey
      · rw [z, ex] at ey
        cases ey
        exact ht
  rintro σ H1 ⟨s1, al, x2, rfl⟩
  rw [← pl] at al
  have pa1 := pa.keep s1
  refine ⟨_, rfl, a, CP, dx, _, _, rfl, pa1.ins, T.cl, T.nm, pf_m _ _ _, rfl, _, rfl, ?_⟩
  rw [mS_walk]
  cases hb : b with
  | false =>
    subst hb
    exact iteF (qn (.calm al fun z => by cases z) _ s1)
  | true =>
    subst hb
    exact iteT ⟨_, rfl, _, true, xs, rfl, ⟨a, dx, sl, tp, us, rfl, pa1⟩, hl, fun nn H2 s2 => qn (.calm al fun _ => nn) _ (s1.trans s2), fun k x H2 tk t1 ex hn nn s2 => qe false k _ tk (.way al rfl t1 ex hn nn) (s1.trans s2)⟩
end
end K26
set_option maxHeartbeats 4000000
namespace K26
open PySem L2 Lo St
section
variable {P : Program} {w : World} {K : PySem.W.Frag} {mg : Str → Option Value} {base : Heap} {f CL CP : Addr} {fd : FuncData} {C : Kd → Addr} {CW : Wd → Addr}
open XA in
theorem ok_xinit {nm : Str} {st : Stmt} {C : Addr} {p1 p2 p3 p4 : Pos} (F : Fun K "__init__" nm st f fd) (S : FnScope ["self", "at"] ["self", "at"] (defScope st)) (hb : defBody st = [.Assign [.Attribute (.Name "self" p1) "at" p2] (.Name "at" p3) p4]) (hs : defScope st = defScope m_NoText_init) (c : ClsX K C) : FnOk P w K mg base CX0 1 f fd ["self", "at"] (spXI C) := by
  refine F.ok S (fun vs H Q E h => ?_) (fun cdv A outer s H vs Q E hr h => ?_)
  · obtain ⟨ea, n, rfl, _⟩ := h
    rfl
  obtain ⟨ea, n, rfl, he, q⟩ := h
  rw [hb, hs]
  refine ⟨_, pss_one (ps_atX (pv 0) (pv 1) rfl), ?_⟩
  exact ⟨_, rfl, _, rfl, ea, C, n, rfl, rfl, he, c, q⟩
open XA in
theorem ok_wholeH (F : Fun K "_law_whole" "_law_whole" s__law_whole f fd) (B : TxB mg) : FnH P w K mg base 1 f fd ["_law_found_here"] Lo.spWhole := by
  refine okH F sc__law_whole (fun vs H Q E h => ?_) (fun ev cdv A outer s H vs Q E hr h => ?_)
  · obtain ⟨i, rfl, _⟩ := h
    rfl
  obtain ⟨i, rfl, q⟩ := h
  refine ⟨_, pss_one (ps_ret (pe_and (pe_callB call_isinst rfl B.isi PyProof.Rows.boot_isinstance (pa_cons (pv 0) (pa_cons (pe_bltn (v := .ty "int") rfl B.int PyProof.Rows.boot_int rfl) pa_nil)))
    (pe_one (pe_not (pe_callB call_isinst rfl B.isi PyProof.Rows.boot_isinstance (pa_cons (pv 0) (pa_cons (pe_bltn (v := .ty "bool") rfl B.bool PyProof.Rows.boot_bool rfl) pa_nil))))))), ?_⟩
  refine ⟨_, rfl, _, _, _, _, rfl, TyOf.int i, kit_ii, _, rfl, iteT ?_⟩
  exact ⟨_, rfl, _, _, _, _, rfl, TyOf.int i, kit_ib, _, rfl, q⟩
open XA in
structure TxE (K : PySem.W.Frag) (mg : Str → Option Value) (CA CB CT CE fA fB : Addr) : Prop where
  mA : mg "NoPlace" = some (.ref CA)
  mB : mg "NoWayBack" = some (.ref CB)
  mT : mg "NoText" = some (.ref CT)
  mE : mg "PactError" = some (.ref CE)
  vE : mg "ValueError" = none
  jA : MkX K CA fA
  jB : MkX K CB fB
  xE : PySem.W.excIn K CE bmX "ValueError.__new__" = true
  aa : PySem.W.mroIn K CA (.ref CA) = some true
  ba : PySem.W.mroIn K CB (.ref CA) = some false
  bb : PySem.W.mroIn K CB (.ref CB) = some true
  ae : PySem.W.mroIn K CA (.ref CE) = some true
  be : PySem.W.mroIn K CB (.ref CE) = some true
  kab : PySem.W.kitOne K (.ref CA) (.ref CB) = some false
  kbt : PySem.W.kitOne K (.ref CB) (.ref CT) = some false
  kav : PySem.W.kitOne K (.ref CA) (.type "ValueError") = some true
  kbv : PySem.W.kitOne K (.ref CB) (.type "ValueError") = some true
theorem boot_VE : bootBuiltins "ValueError" = some (.type "ValueError") := by decide +kernel
theorem same_exc {H : Hp} {ea dd : Addr} {o u : HO} (h1 : H ea = none) (h2 : H dd = none) : Same H (upd (upd H dd o) ea u) := fun b x e => by
  rw [upd_ne (ne_of_none e h1), upd_ne (ne_of_none e h2)]
  exact e
open XA in
theorem ok_found {CA CB CT CE fA fB : Addr} (F : Fun K "_law_found" "_law_found" s__law_found f fd) (B : TxB mg) (Y : TxE K mg CA CB CT CE fA fB) (GW : GH P w K mg base 1 "_law_whole" ["_law_found_here"] Lo.spWhole) (GL : GF P w K mg base (CXA P w) 5 "look" ["pact", "sizes"] (spLook CP CW CA CB)) : FnOk P w K mg base CX0 6 f fd ["_law_pact", "_law_sizes"] (spFound CP CW) := by
  refine F.ok sc__law_found (fun vs H Q E h => ?_) (fun cdv A outer s H vs Q E hr h => ?_)
  · obtain ⟨v, q, b, xs, sz, rfl, _⟩ := h
    rfl
  obtain ⟨v, q0, b, xs, sz, rfl, pa, ar, hl, hq, q⟩ := h
  have nd := sc__law_found.nd
  obtain ⟨fl, dl, FL, bL, eL, mL⟩ := GL
  refine ⟨_, pss_one (ps_try2 (i := 3) (j := 2) (B1 := CA) (B2 := CB) rfl rfl rfl nd rfl (Or.inl rfl) rfl rfl (pexA_call FL hr rfl mL eL bL (pa_cons (pv 0) (pa_cons (pv 1) pa_nil))) rfl Y.mA rfl Y.mB
    (fun ev => pss_cons (ps_if (PW.pt (pw_or (pt_val (pe_callB (call_isX (K := K) rfl) rfl B.isi PyProof.Rows.boot_isinstance (pa_cons (pv 3) (pa_cons (pe_glob (v := .ref CB) rfl Y.mB rfl) pa_nil)))) (pw_or1 (pt_not (pt_val (pcH GW hr rfl (pa_cons (pe_atX (K := K) (pv 3) rfl) pa_nil))))))) pss_never pss_nil) (pss_one (ps_ret (pe_tup (pa_cons pe_str (pa_cons (pe_atX (K := K) (pv 3) rfl) pa_nil))))))
    (fun ev => pss_cons (ps_if (PW.pt (pw_or (pt_val (pe_callB (call_isX (K := K) rfl) rfl B.isi PyProof.Rows.boot_isinstance (pa_cons (pv 3) (pa_cons (pe_glob (v := .ref CT) rfl Y.mT rfl) pa_nil)))) (pw_or1 (pt_not (pt_val (pcH GW hr rfl (pa_cons (pe_atX (K := K) (pv 3) rfl) pa_nil))))))) pss_never pss_nil) (pss_one (ps_ret (pe_tup (pa_cons pe_str (pa_cons (pe_atX (K := K) (pv 3) rfl) pa_nil))))))
    (pss_one (ps_ret (pv 2)))), ?_⟩
  refine ⟨_, rfl, _, rfl, _, q0, b, xs, sz, rfl, pa, ar, hl, hq, fun dn H1 s1 => ⟨_, rfl, q none _ H1 dn s1 rfl⟩, fun p k H1 tk du s1 => ?_⟩
  cases p with
  | true =>
    refine ⟨_, tk, CA, rfl, rfl, .inl ⟨match_J Y.jA.own Y.aa, fun ea dd hea hdd => ?_⟩⟩
    have s2 : Same H1 _ := same_new (o := ExcA ea CA dd) hea
    have hd2 := s2 _ _ hdd
    have ix : IsX (upd H1 ea (ExcA ea CA dd)) ea CA dd := .inr upd_same
    generalize (upd H1 ea (ExcA ea CA dd)) = H2 at s2 hd2 ix ⊢
    refine ⟨_, rfl, ea, CA, dd, CB, false, .inl ⟨rfl, Y.kab⟩, ix, Y.jA.cx, _, rfl, iteF ?_⟩
    refine ⟨_, rfl, ea, CA, dd, _, rfl, ix, hd2, Y.jA.cx, _, rfl, _, rfl, iteF ?_⟩
    exact ⟨_, rfl, ea, CA, dd, _, rfl, ix, hd2, Y.jA.cx, (by show 2 ≤ sizeLine; decide), fun t ht => q (some (true, k)) _ _ du (s1.trans (s2.trans (same_new ht))) ⟨t, rfl, upd_same⟩⟩
  | false =>
    refine ⟨_, tk, CB, rfl, rfl, .inr ⟨match_J Y.jA.own Y.ba, match_J Y.jB.own Y.bb, fun ea dd hea hdd => ?_⟩⟩
    have s2 : Same H1 _ := same_new (o := ExcA ea CB dd) hea
    have hd2 := s2 _ _ hdd
    have ix : IsX (upd H1 ea (ExcA ea CB dd)) ea CB dd := .inr upd_same
    generalize (upd H1 ea (ExcA ea CB dd)) = H2 at s2 hd2 ix ⊢
    refine ⟨_, rfl, ea, CB, dd, CT, false, .inl ⟨rfl, Y.kbt⟩, ix, Y.jB.cx, _, rfl, iteF ?_⟩
    refine ⟨_, rfl, ea, CB, dd, _, rfl, ix, hd2, Y.jB.cx, _, rfl, _, rfl, iteF ?_⟩
    exact ⟨_, rfl, ea, CB, dd, _, rfl, ix, hd2, Y.jB.cx, (by show 2 ≤ sizeLine; decide), fun t ht => q (some (false, k)) _ _ du (s1.trans (s2.trans (same_new ht))) ⟨t, rfl, upd_same⟩⟩
open XA in
theorem ok_lany {CA CB CT CE fA fB : Addr} (F : Fun K "_law_any" "_law_any" s__law_any f fd) (B : TxB mg) (Y : TxE K mg CA CB CT CE fA fB) (GL : GF P w K mg base (CXA P w) 5 "look" ["pact", "sizes"] (spLook CP CW CA CB)) : FnOk P w K mg base CX0 6 f fd ["_law_pact", "_law_sizes"] (spAny CP CW) := by
  refine F.ok sc__law_any (fun vs H Q E h => ?_) (fun cdv A outer s H vs Q E hr h => ?_)
  · obtain ⟨v, q, b, xs, sz, p, k, rfl, _⟩ := h
    rfl
  obtain ⟨v, q0, b, xs, sz, p0, k0, rfl, pa, ar, hl, hq, du0, q⟩ := h
  have nd := sc__law_any.nd
  obtain ⟨fl, dl, FL, bL, eL, mL⟩ := GL
  refine ⟨_, pss_cons (ps_try1 (i := 2) (B1 := CE) rfl rfl rfl nd rfl rfl (pexA_call FL hr rfl mL eL bL (pa_cons (pv 0) (pa_cons (pv 1) pa_nil))) rfl Y.mE
    (fun ev => pss_one (ps_ret (pe_callB (call_isX (K := K) rfl) rfl B.isi PyProof.Rows.boot_isinstance (pa_cons (pv 2) (pa_cons (pe_bltn (v := .ty "ValueError") rfl Y.vE boot_VE rfl) pa_nil))))))
    (pss_one (ps_ret pe_bl)), ?_⟩
  refine ⟨_, rfl, _, rfl, _, q0, b, xs, sz, rfl, pa, ar, hl, hq, fun dn H1 s1 => absurd (dn.one du0) (by intro z; cases z), fun p k H1 tk du s1 => ?_⟩
  cases p with
  | true =>
    refine ⟨_, tk, CA, rfl, rfl, match_in Y.mE Y.xE Y.ae, fun ea dd hea hdd => ?_⟩
    exact ⟨_, rfl, ea, CA, dd, ea, true, .inr ⟨_, rfl, Y.kav⟩, .inr upd_same, Y.jA.cx, q _ (s1.trans (same_new hea))⟩
  | false =>
    refine ⟨_, tk, CB, rfl, rfl, match_in Y.mE Y.xE Y.be, fun ea dd hea hdd => ?_⟩
    exact ⟨_, rfl, ea, CB, dd, ea, true, .inr ⟨_, rfl, Y.kbv⟩, .inr upd_same, Y.jB.cx, q _ (s1.trans (same_new hea))⟩
open XA in
structure Er (P : Program) (w : World) (K : PySem.W.Frag) (mg : Str → Option Value) (base : Heap) (x : Str) (C CE : Addr) where
  fI : Addr
  dI : FuncData
  M : MkX K C fI
  ok : FnOk P w K mg base CX0 1 fI dI ["self", "at"] (spXI C)
  b : Binds K dI ["self", "at"] []
  m : mg x = some (.ref C)
  ke : PySem.W.kitOne K (.ref C) (.ref CE) = some true
open XA in
def XE (K : PySem.W.Frag) (CE : Addr) (n : Int) (H : Hp) (v : V) : Prop := ∃ ea C dd, v = .ref ea ∧ IsX H ea C dd ∧ H dd = some (atX n) ∧ ClsX K C ∧ PySem.W.kitOne K (.ref C) (.ref CE) = some true
open XA in
theorem XE.keep {H H' : Hp} {CE : Addr} {n : Int} {v : V} (e : Same H H') (h : XE K CE n H v) : XE K CE n H' v := by
  obtain ⟨ea, C, dd, rfl, ix, hd, c, k⟩ := h
  exact ⟨ea, C, dd, rfl, ix.imp (e _ _) (e _ _), e _ _ hd, c, k⟩
open XA in
theorem ok_hand {CT CA CB CF CE : Addr} (F : Fun K "_law_by_hand" "_law_by_hand" s__law_by_hand f fd) (B : TxB mg) (mE : mg "PactError" = some (.ref CE)) (e1 : Er P w K mg base "NoText" CT CE) (e2 : Er P w K mg base "NoPlace" CA CE) (e3 : Er P w K mg base "NoWayBack" CB CE) (e4 : Er P w K mg base "NoFit" CF CE)
    (GW : GF P w K mg base CX0 1 "_law_whole" ["_law_found_here"] Lo.spWhole) : FnOk P w K mg base CX0 3 f fd ["_law_number"] spHand := by
  refine F.ok sc__law_by_hand (fun vs H Q E h => ?_) (fun cdv A outer s H vs Q E hr h => ?_)
  · obtain ⟨n, rfl, _⟩ := h
    rfl
  obtain ⟨n, rfl, q⟩ := h
  have nd := sc__law_by_hand.nd
  have hr1 : Room (1 + 1) _ := hr
  refine ⟨_, pss_cons (ps_set (i := 1) nd rfl (Or.inl rfl) (pe_lst (pa_cons (pe_makeX e1.M e1.ok e1.b hr1 rfl rfl e1.m (pa_cons (pv 0) pa_nil)) (pa_cons (pe_makeX e2.M e2.ok e2.b hr1 rfl rfl e2.m (pa_cons (pv 0) pa_nil)) (pa_cons (pe_makeX e3.M e3.ok e3.b hr1 rfl rfl e3.m (pa_cons (pv 0) pa_nil)) (pa_cons (pe_makeX e4.M e4.ok e4.b hr1 rfl rfl e4.m (pa_cons (pv 0) pa_nil)) pa_nil))))))
    (pss_cons (ps_for PassesOwn.never rfl (pi_list (pv 1)) (pg_name (i := 2) nd rfl (Or.inl rfl))
      (pss_one (ps_if (PW.pt (pw_or (pt_not (pt_val (pc GW hr (pa_cons (pe_atX (K := K) (pv 2) rfl) pa_nil)))) (pw_or (pt_cmpR op_ne (pe_atX (K := K) (pv 2) rfl) (pv 0) (nomark _)) (pw_or1 (pt_not (pt_val (pe_callB (call_isX (K := K) rfl) rfl B.isi PyProof.Rows.boot_isinstance (pa_cons (pv 2) (pa_cons (pe_glob (v := .ref CE) rfl mE rfl) pa_nil))))))))) pss_never pss_nil)))
    (pss_one (ps_ret pe_bl))), ?_⟩
  refine ⟨_, rfl, n, rfl, fun a1 d1 h1 g1 n1 => ?_⟩
  have x1 : XE K CE n (upd (upd H d1 (atX n)) a1 (ExcM a1 CT d1)) (.ref a1) := ⟨a1, CT, d1, rfl, .inl upd_same, by rw [upd_ne n1]; exact upd_same, e1.M.cx, e1.ke⟩
  have s1 : Same H _ := same_exc (o := atX n) (u := ExcM a1 CT d1) h1 g1
  generalize (upd (upd H d1 (atX n)) a1 (ExcM a1 CT d1)) = H1 at x1 s1 ⊢
  refine ⟨_, rfl, n, rfl, fun a2 d2 h2 g2 n2 => ?_⟩
  have x2 : XE K CE n (upd (upd H1 d2 (atX n)) a2 (ExcM a2 CA d2)) (.ref a2) := ⟨a2, CA, d2, rfl, .inl upd_same, by rw [upd_ne n2]; exact upd_same, e2.M.cx, e2.ke⟩
  have s2 : Same H1 _ := same_exc (o := atX n) (u := ExcM a2 CA d2) h2 g2
  generalize (upd (upd H1 d2 (atX n)) a2 (ExcM a2 CA d2)) = H2 at x2 s2 ⊢
  refine ⟨_, rfl, n, rfl, fun a3 d3 h3 g3 n3 => ?_⟩
  have x3 : XE K CE n (upd (upd H2 d3 (atX n)) a3 (ExcM a3 CB d3)) (.ref a3) := ⟨a3, CB, d3, rfl, .inl upd_same, by rw [upd_ne n3]; exact upd_same, e3.M.cx, e3.ke⟩
  have s3 : Same H2 _ := same_exc (o := atX n) (u := ExcM a3 CB d3) h3 g3
  generalize (upd (upd H2 d3 (atX n)) a3 (ExcM a3 CB d3)) = H3 at x3 s3 ⊢
  refine ⟨_, rfl, n, rfl, fun a4 d4 h4 g4 n4 => ?_⟩
  have x4 : XE K CE n (upd (upd H3 d4 (atX n)) a4 (ExcM a4 CF d4)) (.ref a4) := ⟨a4, CF, d4, rfl, .inl upd_same, by rw [upd_ne n4]; exact upd_same, e4.M.cx, e4.ke⟩
  have s4 : Same H3 _ := same_exc (o := atX n) (u := ExcM a4 CF d4) h4 g4
  generalize (upd (upd H3 d4 (atX n)) a4 (ExcM a4 CF d4)) = H4 at x4 s4 ⊢
  refine ⟨(by show 4 ≤ sizeLine; decide), fun l hl => ?_⟩
  have s5 : Same H4 _ := same_new (o := .lst [.ref a1, .ref a2, .ref a3, .ref a4]) hl
  have hl5 : (upd H4 l (.lst [.ref a1, .ref a2, .ref a3, .ref a4])) l = some (.lst [.ref a1, .ref a2, .ref a3, .ref a4]) := upd_same
  have all : ∀ v ∈ [V.ref a1, .ref a2, .ref a3, .ref a4], XE K CE n (upd H4 l (.lst [.ref a1, .ref a2, .ref a3, .ref a4])) v := fun v hv => by
    simp only [List.mem_cons, List.mem_nil_iff, or_false] at hv
    rcases hv with rfl | rfl | rfl | rfl
    · exact x1.keep (s2.trans (s3.trans (s4.trans s5)))
    · exact x2.keep (s3.trans (s4.trans s5))
    · exact x3.keep (s4.trans s5)
    · exact x4.keep s5
  generalize (upd H4 l (HO.lst [.ref a1, .ref a2, .ref a3, .ref a4])) = H5 at s5 hl5 all ⊢
  refine ⟨_, rfl, l, rfl, ⟨_, SqL.of hl5⟩, ?_⟩
  refine for_list (xs := [.ref a1, .ref a2, .ref a3, .ref a4]) (fun i σ H' => H' = H5 ∧ ∃ y, σ = [some (.int n), some (.ref l), y]) ⟨rfl, none, rfl⟩ (fun i σ H' _ z => by rw [z.1]; exact SqL.of hl5) ?_ ?_
  · rintro i u σ H' hu ⟨rfl, y, rfl⟩
    obtain ⟨ea, C, dd, rfl, ix, hd, c, k⟩ := all u (List.mem_of_getElem? hu)
    refine ⟨_, rfl, ea, C, dd, n, rfl, ix, hd, c, _, rfl, _, rfl, iteF ?_⟩
    refine ⟨_, rfl, ea, C, dd, n, rfl, ix, hd, c, _, rfl, rfl, _, rfl, iteNS rfl ?_⟩
    exact ⟨_, rfl, ea, C, dd, CE, true, .inl ⟨rfl, k⟩, ix, c, _, rfl, iteF ⟨rfl, _, rfl⟩⟩
  · rintro σ H' ⟨rfl, y, rfl⟩
    exact q _ (s1.trans (s2.trans (s3.trans (s4.trans s5))))
end
end K26
set_option maxHeartbeats 4000000
namespace K26
open PySem L2 Lo St
section
variable {P : Program} {w : World} {K : PySem.W.Frag} {mg : Str → Option Value} {base : Heap} {f CL CP : Addr} {fd : FuncData} {C : Kd → Addr} {CW : Wd → Addr}
theorem op_eqNil {X : Cx} (hu : X.A.units < cLine) : OpR X (compareOp .Eq) (fun x y H Q => ∃ a b us, x = .ref a ∧ y = .ref b ∧ SqL X.K H a us ∧ SqL X.K H b [] ∧ Q (.bl (decide (us = []))) H) := by
  intro pins s σ H x y v u Q I rx ry h
  obtain ⟨a, b, us, rfl, rfl, ha, hb, q⟩ := h
  cases rx
  cases ry
  obtain ⟨i1, v1, p1, _⟩ := I.list ha
  obtain ⟨i2, v2, p2, _⟩ := I.list hb
  cases v2
  have l1 := v1.length
  by_cases e : us = []
  · subst e
    cases v1
    have z := PySem.SeqAt.RcAt.lists (A := X.A) (s := s) (e := fun _ => true) p1.isList p2.isList rfl hu (fun j h1 h2 => by cases h1)
    rw [decide_eq_true rfl] at q
    exact z X.prog X.w X.xe _ ⟨.bl true, H, I, rfl, q⟩
  · have hsz : (i1.toArray.size != ([] : List Value).toArray.size) = true := by
      have : i1.length ≠ 0 := fun z => e (List.length_eq_zero_iff.mp (by rw [l1]; exact z))
      simpa using this
    rw [decide_eq_false e] at q
    exact PySem.SeqAt.RcAt.lists_lengths p1.isList p2.isList hsz hu X.prog X.w X.xe _ ⟨.bl false, H, I, rfl, q⟩
theorem cut719 (ns : List Int) : ∃ cs : List Int, cutV (ns.map V.int) (some 7) (some 19) = cs.map V.int ∧ cs.length ≤ 12 := by
  have e1 : HT.sIx (ns.map V.int).length 0 (some 7) = min 7 (ns.map V.int).length := HT.sIx_nat _ _ 7
  have e2 : HT.sIx (ns.map V.int).length (ns.map V.int).length (some 19) = min 19 (ns.map V.int).length := HT.sIx_nat _ _ 19
  refine ⟨(ns.drop (min 7 (ns.map V.int).length)).take (min 19 (ns.map V.int).length - min 7 (ns.map V.int).length), ?_, ?_⟩
  · unfold cutV
    rw [e1, e2, List.map_take, List.map_drop]
  · rw [List.length_take, List.length_drop]
    omega
theorem mS_at (m : Int) : ∃ b, atI [V.str "held", V.str "walked"] (m % 2) = some (.str (mS b)) := by
  have e0 : 0 ≤ m % 2 := Int.emod_nonneg _ (by decide)
  have e4 : m % 2 < 2 := Int.emod_lt_of_pos _ (by decide)
  rcases (by omega : m % 2 = 0 ∨ m % 2 = 1) with e | e
  · exact ⟨false, by rw [e]; rfl⟩
  · exact ⟨true, by rw [e]; rfl⟩
theorem op_neDu {X : Cx} (hu : X.A.units + (cT2 cStr cInt).n + 1 < cLine) : OpR X (compareOp .NotEq) (fun x y H Q => ∃ o, rDu H o x ∧ rDu H o y ∧ Q (.bl false) H) := by
  intro pins s σ H x y v u Q I rx ry h
  obtain ⟨o, hx, hy, q⟩ := h
  cases o with
  | none =>
    cases hx
    cases hy
    exact op_ne pins s σ H .non .non v u Q I rx ry ⟨rfl, q⟩
  | some pk =>
    obtain ⟨p, k⟩ := pk
    obtain ⟨a, rfl, ha⟩ := hx
    obtain ⟨b, rfl, hb⟩ := hy
    refine op_neC (cT2 cStr cInt) hu pins s σ H _ _ v u Q I rx ry ⟨(_, _), (_, _), ⟨a, _, _, rfl, .inl ha, rfl, rfl⟩, ⟨b, _, _, rfl, .inl hb, rfl, rfl⟩, ?_⟩
    rw [decide_eq_true rfl]
    exact q
theorem op_eqDu {X : Cx} (hu : X.A.units + (cT2 cStr cInt).n + 1 < cLine) : OpR X (compareOp .Eq) (fun x y H Q => ∃ o, rDu H o x ∧ rDu H o y ∧ Q (.bl true) H) := by
  intro pins s σ H x y v u Q I rx ry h
  obtain ⟨o, hx, hy, q⟩ := h
  cases o with
  | none =>
    cases hx
    cases hy
    exact op_eq pins s σ H .non .non v u Q I rx ry ⟨rfl, q⟩
  | some pk =>
    obtain ⟨p, k⟩ := pk
    obtain ⟨a, rfl, ha⟩ := hx
    obtain ⟨b, rfl, hb⟩ := hy
    refine op_eqC (cT2 cStr cInt) hu pins s σ H _ _ v u Q I rx ry ⟨(_, _), (_, _), ⟨a, _, _, rfl, .inl ha, rfl, rfl⟩, ⟨b, _, _, rfl, .inl hb, rfl, rfl⟩, ?_⟩
    rw [decide_eq_true rfl]
    exact q
def cm_law_in : Scope := match defBody s_law with
  | _ :: _ :: _ :: _ :: _ :: .Assign _ (.ListComp (.Call _ [.BinOp _ _ (.ListComp _ _ sc _) _] _ _) _ _ _) _ :: _ => sc
  | _ => default
theorem sb_law_in {N : List Str} {sc : Scope} : BlkScope N sc cm_law_in "_law_number" ["_law_number"] [] :=
  ⟨by decide +kernel, rfl, by decide +kernel, rfl, fun y hy h => absurd h ((by decide +kernel : ∀ y ∈ cm_law_in.names, y.2 ≠ .free) y hy), by decide +kernel, rfl, rfl, fun j h => absurd h (Nat.not_lt_zero j)⟩
def el_law_2 : Expr := match defBody s_law with
  | _ :: _ :: _ :: _ :: _ :: .Assign _ (.ListComp e _ _ _) _ :: _ => e
  | _ => .Constant .none 0 ⟨0, 0, 0, 0⟩
theorem pe_wk {X : Cx} {e : Expr} {t u : TE} (h : PE X e t) (hw : ∀ σ H Q, u σ H Q → t σ H Q) : PE X e u := fun pins s σ H Q I q => h pins s σ H Q I (hw σ H Q q)
def tText : TE := fun σ H Q => ∃ c0 wd ms, σ = [some (.ref c0)] ∧ H c0 = some (.tup (.str (wS wd) :: (ms : List Int).map V.int)) ∧ Ar wd ms ∧ ∀ H', Same H H' → Q (.str (txt wd ms)) H'
theorem pe_text {X : Cx} {K : PySem.W.Frag} (hK : X.K = K) (hc : X.calm = true) (hm : X.mg "str" = none) {C : Addr} {fp : List Addr} {s : Shared} {H : Hp} : PE (X.blk ["_law_step_here"] cm_law_2 C fp s H) el_law_2 tText := by
  subst hK
  refine pe_wk (show PE (X.blk ["_law_step_here"] cm_law_2 C fp s H) (.Call (.Attribute _ _ _) [_] [] _) _ from pe_bm PySem.F.plainAttrs_str PySem.F.slot_str_join PySem.F.type_str_join mt_join pe_str (pa_cons (pe_op op_cat (pe_lst (pa_cons (pe_ix (r := rIxT X.K) ix_tup (pv 0) pe_int (fun _ _ => rfl)) pa_nil)) (pe_lc sb_law_in hc (pi_tup (pe_slice sl_tup (pv 0) (po_some pe_int) po_none)) (fun _ _ _ _ => pts_nil) (fun _ _ _ _ => pe_callTy call_str_int rfl hm PyProof.Rows.boot_str (pa_cons (pv 0) pa_nil)))) pa_nil)) ?_
  rintro σ H3 Q ⟨c0, wd, ms, rfl, hc0, arx, q⟩
  have hl3 := arx.len
  refine ⟨rfl, _, rfl, c0, _, _, _, rfl, rfl, SqT.of hc0, St.at0, (by show 1 ≤ sizeLine; decide), fun l hl => ?_⟩
  have s1 : Same H3 _ := same_new (o := .lst [.str (wS wd)]) hl
  refine ⟨_, rfl, _, rfl, c0, _, rfl, SqT.of (s1 _ _ hc0), cut_one_no _ _, fun t ht => ?_⟩
  rw [cut_one]
  have s2 : Same H3 _ := s1.trans (same_new (o := .tup (ms.map V.int)) ht)
  have el0 : (upd (upd H3 l (.lst [.str (wS wd)])) t (.tup (ms.map V.int))) l = some (.lst [.str (wS wd)]) := same_new ht _ _ upd_same
  have et0 : (upd (upd H3 l (.lst [.str (wS wd)])) t (.tup (ms.map V.int))) t = some (.tup (ms.map V.int)) := upd_same
  generalize (upd (upd H3 l _) t _) = H0 at s2 el0 et0 ⊢
  refine ⟨t, rfl, ⟨_, SqT.of et0⟩, ?_⟩
  refine lc_intsT (g := fun i => V.str (iS i)) (ns := ms) et0 (Nat.le_trans hl3.2 (by decide)) (fun i H1 Q hi s3 h => ?_) (fun H1 s3 p hp => ?_)
  · exact ⟨_, rfl, i, rfl, log_v (arx.all i hi), h H1 (Same.refl _)⟩
  · refine ⟨l, p, _, _, rfl, rfl, same_new hp _ _ (s3 _ _ el0), upd_same, ?_, fun p2 hp2 => ?_⟩
    · have h5 : (ms.map fun i => V.str (iS i)).length = ms.length := List.length_map _
      have h6 : ([V.str (wS wd)] : List V).length = 1 := rfl
      have h7 : (4 : Nat) ≤ sizeLine := by decide
      omega
    · have e : ([V.str (wS wd)] ++ ms.map fun i => V.str (iS i)) = (wS wd :: ms.map iS).map V.str := by simp
      refine ⟨_, p2, wS wd :: ms.map iS, rfl, rfl, SqL.of (by rw [upd_same, e]), Nat.le_trans (words_sum arx) (by decide), ?_⟩
      exact q _ (s2.trans (s3.trans ((same_new hp).trans (same_new hp2))))
def w26 : TS := fun D σ H => ∃ a b q qs xs sz, σ = [some (.ref a), some (.ref q), some (.str (mS b)), some (.ref qs), none, none, none, none] ∧ Sz H q sz ∧ sz.length ≤ 5 ∧ TsA H qs xs ∧ ArS xs ∧ xs ≠ [] ∧ xs.length ≤ 12 ∧ ∀ H', D.rt (.bl true) H'
def z26 (CP : Addr) (CW : Wd → Addr) : TS := fun D σ H => ∃ a q1 b qs p v hd u xs, σ = [some (.ref a), some (.ref q1), some (.str (mS b)), some (.ref qs), some (.ref p), some v, some (.ref hd), some u] ∧ PaO CP CW H (mS b) xs v ∧ TsA H qs xs ∧ ArS xs ∧ xs.length ≤ 20 ∧ ∀ H', D.rt (.bl true) H'
theorem ok_law (F : Fun K "law" "law" s_law f fd) (B : TxB mg) (GA : GF P w K mg base CX0 1 "_law_cell" ["_law_script", "_law_k"] (spCell K)) (GHd : GF P w K mg base CX0 3 "_law_by_hand" ["_law_number"] spHand) (GS : GF P w K mg base CX0 2 "_law_step" ["_law_cell_here", "_law_sizes"] spLSt2)
    (GRP : GF P w K mg base CX0 8 "read_pact" ["text"] (spRPact CP CW)) (GD : GF P w K mg base CX0 2 "_law_due" ["_law_manner", "_law_steps", "_law_sizes"] spLDue) (GFo : GF P w K mg base CX0 6 "_law_found" ["_law_pact", "_law_sizes"] (spFound CP CW)) (GY : GF P w K mg base CX0 6 "_law_any" ["_law_pact", "_law_sizes"] (spAny CP CW)) : FnOk P w K mg base CX0 9 f fd ["_law_script"] (spLaw K) := by
  refine F.ok sc_law (fun vs H Q E h => ?_) (fun cdv A outer s H vs Q E hr h => ?_)
  · obtain ⟨a, ns, rfl, _⟩ := h
    rfl
  obtain ⟨a, ns, rfl, hS, hl, q⟩ := h
  have nd := sc_law.nd
  have hs : (100000 : Nat) ≤ sizeLine := by decide
  have l1 : (Str.ofString " ").length = 1 := by decide +kernel
  have l2 : (Str.ofString "; ").length = 2 := by decide +kernel
  refine ⟨_, pss_cons (ps_if (pt_not (pt_val (pc GHd hr (pa_cons (pe_op op_sub (pe_op op_mod (pc GA hr (pa_cons (pv 0) (pa_cons pe_int pa_nil))) pe_int) pe_int) pa_nil)))) pss_never pss_nil)
    (pss_cons (ps_set (i := 1) nd rfl (by first | exact Or.inl rfl | exact Or.inr rfl) (pe_lc sb_law_0 rfl (pi_range1 rfl B.range (pa_cons (pe_op op_add pe_int (pe_op op_mod (pc GA hr (pa_cons (pv 0) (pa_cons pe_int pa_nil))) pe_int)) pa_nil)) (fun _ _ _ _ => pts_nil) (fun _ _ _ _ => pe_op op_add pe_int (pe_op op_mod (pc GA hr (pa_cons (pv 1) (pa_cons (pe_op op_add pe_int (pv 0)) pa_nil))) pe_int))))
    (pss_cons (ps_set (i := 2) nd rfl (Or.inl rfl) (pe_ix (r := rIxL K) ix_list (pe_lst (pa_cons pe_str (pa_cons pe_str pa_nil))) (pe_op op_mod (pc GA hr (pa_cons (pv 0) (pa_cons pe_int pa_nil))) pe_int) (fun _ _ => rfl)))
    (pss_cons (ps_lcset (iy := 3) sb_law_1 rfl (pi_list (pe_slice sl_list (pv 0) (po_some pe_int) (po_some pe_int))) (fun _ _ _ _ => pts_nil) (fun _ _ _ _ => pc GS hr (pa_cons (pv 0) (pa_cons (pv 1) pa_nil))) nd rfl (Or.inl rfl))
    (pss_cons (ps_if (pt_cmpR (op_eqNil (Nat.lt_of_succ_lt (hun (c := 0) hr))) (pv 3) (pe_lst pa_nil) (nomark _)) (pss_one (ps_set (i := 3) nd rfl (Or.inl rfl) (pe_lst (pa_cons (pc GS hr (pa_cons (pe_op op_fdiv (pc GA hr (pa_cons (pv 0) (pa_cons pe_int pa_nil))) pe_int) (pa_cons (pv 1) pa_nil))) pa_nil)))) pss_nil)
    (pss_weak w26 (pss_cons (ps_lcset (iy := 4) sb_law_2 rfl (pi_list (pv 3)) (fun _ _ _ _ => pts_nil) (fun _ _ _ _ => pe_text (K := K) rfl rfl B.str) nd rfl (Or.inl rfl))
    (pss_cons (ps_set (i := 5) nd rfl (Or.inl rfl) (pc GRP hr (pa_cons (pe_op op_add_str (pe_op op_add_str (pv 2) pe_str) (pe_bm PySem.F.plainAttrs_str PySem.F.slot_str_join PySem.F.type_str_join mt_join pe_str (pa_cons (pv 4) pa_nil))) pa_nil)))
    (pss_cons (ps_set (i := 6) nd rfl (Or.inl rfl) (pe_callTy call_list_of rfl B.list PyProof.Rows.boot_list (pa_cons (pv 1) pa_nil)))
    (pss_cons (ps_set (i := 7) nd rfl (Or.inl rfl) (pc GD hr (pa_cons (pv 2) (pa_cons (pv 3) (pa_cons (pv 1) pa_nil)))))
    (pss_cons (ps_if (PW.pt (pw_or (pt_cmpR (op_neDu (hun hr)) (pc GFo hr (pa_cons (pv 5) (pa_cons (pv 6) pa_nil))) (pv 7) (nomark _)) (pw_or1 (pt_cmpR (op_neL cInt (hun hr)) (pv 6) (pv 1) (nomark _))))) pss_never pss_nil)
    (pss_cons (ps_if (PW.pt (pw_and (pt_cmpR op_notN (pv 7) pe_non (nomark _)) (pw_and1 (pt_not (pt_val (pc GY hr (pa_cons (pv 5) (pa_cons (pv 1) pa_nil)))))))) pss_never pss_nil)
    (pss_weak (z26 CP CW) (pss_one (ps_ret (pe_cmpR (op_eqDu (hun hr)) (pc GFo hr (pa_cons (pv 5) (pa_cons (pe_lst (pa_cons pe_int (pa_cons pe_int (pa_cons pe_int (pa_cons pe_int (pa_cons pe_int pa_nil)))))) pa_nil))) (pc GD hr (pa_cons (pv 2) (pa_cons (pv 3) (pa_cons (pe_lst (pa_cons pe_int (pa_cons pe_int (pa_cons pe_int (pa_cons pe_int (pa_cons pe_int pa_nil)))))) pa_nil)))) (nomark _)))) ?z))))))) ?w))))), ?_⟩
  case z =>
    rintro D σ H ⟨a, q1, b, qs, p, v, hd, u, xs, rfl, pa, ts, ar, hl, q⟩
    refine ⟨_, rfl, (by show 5 ≤ sizeLine; decide), fun l hl1 => ⟨_, l, b, xs, [8, 8, 8, 8, 8], rfl, pa.keep (same_new hl1), ar, hl, upd_same, fun o u1 H2 du s2 ru => ?_⟩⟩
    have s02 := (same_new (o := .lst [.int 8, .int 8, .int 8, .int 8, .int 8]) hl1).trans s2
    refine ⟨_, rfl, _, rfl, (by show 5 ≤ sizeLine; decide), fun l2 hl2 => ⟨b, qs, l2, xs, [8, 8, 8, 8, 8], rfl, ts.keep (s02.trans (same_new hl2)), ar, hl, upd_same, fun o2 u2 H3 du2 s3 ru2 => ?_⟩⟩
    have eo := du2.one du
    subst eo
    exact ⟨o2, ru.keep ((same_new hl2).trans s3), ru2, q _⟩
  case w =>
    rintro D0 σ H ⟨a, b, q1, qs, xs, sz, rfl, hq, lsz, ts, ar, h0, hl, q⟩
    obtain ⟨ws, hw, pw⟩ := id ts
    have pl : xs.length = ws.length := pw.len
    have ml := mS_len b
    refine ⟨_, rfl, qs, rfl, ⟨_, SqL.of hw⟩, ?_⟩
    refine lc_list (xs := ws) (fun i ys H3 => Same H H3 ∧ ys = ((xs.take i).map sx).map V.str) ⟨Same.refl _, rfl⟩ (by omega) (fun i ys H3 _ z => SqL.of (z.1 _ _ hw)) ?_ ?_
    · rintro i u ys H3 hu ⟨s3, rfl⟩
      obtain ⟨x, ex, tx⟩ := pw.get hu
      have hx := List.mem_of_getElem? ex
      have arx := ar x hx
      obtain ⟨c0, rfl, hc0⟩ := tx.keep s3
      refine tAllT ⟨c0, x.1, x.2, rfl, hc0, arx, fun H4 s4 => ⟨s3.trans s4, ?_⟩⟩
      have et : xs.take (i + 1) = xs.take i ++ [x] := by rw [List.take_add_one, ex]; rfl
      rw [et, List.map_append, List.map_append]
      rfl
    rintro ys H1 ⟨s1, rfl⟩ p hp
    rw [← pl, List.take_length]
    have sm := sx_sum ar
    have js := join_short ar (by omega)
    have s2 := s1.trans (same_new (o := .lst ((xs.map sx).map V.str)) hp)
    have hp2 : (upd H1 p (HO.lst ((xs.map sx).map V.str))) p = some (.lst ((xs.map sx).map V.str)) := upd_same
    generalize (upd H1 p (HO.lst ((xs.map sx).map V.str))) = H2 at s2 hp2 ⊢
    refine ⟨_, rfl, _, _, rfl, rfl, by rw [l1]; omega, rfl, _, rfl, _, p, xs.map sx, rfl, rfl, SqL.of hp2, by rw [l2, List.length_map]; omega, _, _, rfl, rfl, ?_, ?_⟩
    · have : (mS b ++ Str.ofString " ").length = (mS b).length + (Str.ofString " ").length := by
        show ((mS b).cps ++ (Str.ofString " ").cps).size = _
        rw [Array.size_append]
        rfl
      rw [this, l1]
      omega
    refine ⟨b, xs, rfl, ar, h0, hl, fun x dx sl tp us H3 s3 z3 pu => ?_⟩
    have s03 := s2.trans s3
    refine ⟨_, rfl, q1, _, rfl, .inl (SqL.of (s03 _ _ hq)), fun hd hhd => ?_⟩
    have s4' : Same H3 _ := same_new (o := .lst (sz.map V.int)) hhd
    have hd4 : Sz (upd H3 hd (.lst (sz.map V.int))) hd sz := upd_same
    have s04 := s03.trans s4'
    have pu4 := pu.keep s4'
    generalize (upd H3 hd (HO.lst (sz.map V.int))) = H4 at s04 hd4 pu4 ⊢
    refine ⟨_, rfl, _, rfl, _, rfl, b, qs, q1, xs, sz, rfl, ts.keep s04, ar, by omega, s04 _ _ hq, fun o u H5 du s5 ru => ?_⟩
    have pu5 := pu4.keep s5
    have s05 := s04.trans s5
    refine ⟨_, rfl, _, rfl, _, hd, b, xs, sz, rfl, ⟨x, dx, sl, tp, us, rfl, pu5⟩, ar, by omega, s5 _ _ hd4, fun o2 u2 H6 du2 s6 ru2 => ?_⟩
    have eo := du2.one du
    subst eo
    refine ⟨_, rfl, o2, ru2, ru.keep s6, _, rfl, iteF ?_⟩
    have s06 := s05.trans s6
    refine ⟨_, rfl, _, rfl, sz, sz, ⟨hd, _, rfl, SqL.of (s6 _ _ (s5 _ _ hd4)), pInts K H6 _⟩, ⟨q1, _, rfl, SqL.of (s06 _ _ hq), pInts K H6 _⟩, ?_⟩
    rw [decide_eq_true rfl]
    refine ⟨_, rfl, iteF ?_⟩
    have pu6 := pu5.keep s6
    cases o2 with
    | none =>
      have eu : u = .non := ru
      subst eu
      refine ⟨_, rfl, rfl, _, rfl, ?_⟩
      rw [decide_eq_true rfl]
      exact iteF (iteF ⟨a, q1, b, qs, p, _, hd, _, xs, rfl, ⟨x, dx, sl, tp, us, rfl, pu6⟩, ts.keep s06, ar, by omega, q⟩)
    | some pk =>
      obtain ⟨pp, kk⟩ := pk
      obtain ⟨ua, rfl, hua⟩ := id ru
      refine ⟨_, rfl, rfl, _, rfl, ?_⟩
      rw [decide_eq_false (by intro z; cases z)]
      refine iteT ⟨_, rfl, _, rfl, _, q1, b, xs, sz, pp, kk, rfl, ⟨x, dx, sl, tp, us, rfl, pu6⟩, ar, by omega, s06 _ _ hq, du, fun H7 s7 => ⟨_, rfl, iteF ?_⟩⟩
      exact ⟨a, q1, b, qs, p, _, hd, _, xs, rfl, ⟨x, dx, sl, tp, us, rfl, pu6.keep s7⟩, ts.keep (s06.trans s7), ar, by omega, q⟩
  refine ⟨_, rfl, a, ns, 0, rfl, hS, _, _, rfl, rfl, (by show (0 : Int) < 2000; decide), _, _, rfl, rfl, _, rfl, fun H1 s1 => ⟨_, rfl, iteF ?_⟩⟩
  have hS1 := s1.seq hS
  have c0 : 0 ≤ cellAt ns 0 % 5 := Int.emod_nonneg _ (by decide)
  have c5 : cellAt ns 0 % 5 < 5 := Int.emod_lt_of_pos _ (by decide)
  refine ⟨_, rfl, a, ns, 0, rfl, hS1, _, _, rfl, rfl, (by show (0 : Int) < 5; decide), _, _, rfl, rfl, _, rfl, by omega, by omega, ?_⟩
  refine lc_range (n := (1 + cellAt ns 0 % 5).toNat) (fun i ys H' => H' = H1 ∧ ∃ zs : List Int, zs.length = i ∧ ys = zs.map V.int ∧ ∀ m ∈ zs, 1 ≤ m ∧ m ≤ 8) ⟨rfl, [], rfl, rfl, fun m hm => nomatch hm⟩ (by omega) ?_ ?_
  · rintro i ys H2 hi ⟨rfl, zs, lz, rfl, hz⟩
    refine tAllT ⟨_, rfl, _, rfl, _, _, rfl, rfl, a, ns, 1 + i, (by rw [show ((1 + i : Nat) : Int) = 1 + ((i : Nat) : Int) by omega]; rfl), hS1, _, _, rfl, rfl, (by show (0 : Int) < 8; decide), _, _, rfl, rfl, rfl, zs ++ [1 + cellAt ns (1 + i) % 8], by rw [List.length_append, lz]; rfl, by rw [List.map_append]; rfl, fun m hm => ?_⟩
    rcases List.mem_append.mp hm with hm | hm
    · exact hz m hm
    · rw [List.mem_singleton.mp hm]
      have e0 := Int.emod_nonneg (cellAt ns (1 + i)) (show (8 : Int) ≠ 0 by decide)
      have e1 := Int.emod_lt_of_pos (cellAt ns (1 + i)) (show (0 : Int) < 8 by decide)
      omega
  rintro ys H1' ⟨rfl, zs, lz, rfl, hz⟩ q1 hq1
  have szo : SzOk zs := ⟨by omega, by omega, hz⟩
  have s2 : Same H1' _ := same_new (o := .lst (zs.map V.int)) hq1
  have hq2 : Sz (upd H1' q1 (.lst (zs.map V.int))) q1 zs := upd_same
  have hS2 := s2.seq hS1
  generalize (upd H1' q1 (HO.lst (zs.map V.int))) = H2 at s2 hq2 hS2 ⊢
  obtain ⟨b, eb⟩ := mS_at (cellAt ns 6)
  refine ⟨(by show 2 ≤ sizeLine; decide), fun ml hml => ⟨_, rfl, a, ns, 6, rfl, (same_new hml).seq hS2, _, _, rfl, rfl, (by show (0 : Int) < 2; decide), ml, _, _, _, rfl, rfl, SqL.of upd_same, eb, ?_⟩⟩
  have s3 := same_new (o := .lst [.str "held", .str "walked"]) hml
  have hq3 := s3 _ _ hq2
  have hS3 := s3.seq hS2
  generalize (upd H2 ml (HO.lst [.str "held", .str "walked"])) = H3 at s3 hq3 hS3 ⊢
  obtain ⟨cs, ecs, lcs⟩ := cut719 ns
  refine ⟨_, rfl, _, rfl, _, rfl, a, _, rfl, hS3, fun cl hcl => ?_⟩
  rw [ecs]
  have s4 := same_new (o := .lst (cs.map V.int)) hcl
  have hc4 : (upd H3 cl (.lst (cs.map V.int))) cl = some (.lst (cs.map V.int)) := upd_same
  have hq4 := s4 _ _ hq3
  have hS4 := s4.seq hS3
  generalize (upd H3 cl (HO.lst (cs.map V.int))) = H4 at s4 hc4 hq4 hS4 ⊢
  refine ⟨cl, rfl, ⟨_, SqL.of hc4⟩, ?_⟩
  refine lc_list (xs := cs.map V.int) (fun i ys H5 => Same H4 H5 ∧ ∃ xs : List Stp, xs.length = i ∧ ArS xs ∧ TsP H5 xs ys) ⟨Same.refl _, [], rfl, (fun x hx => nomatch hx), .nil⟩ (by rw [List.length_map]; omega) (fun i ys H5 _ z => SqL.of (z.1 _ _ hc4)) ?_ ?_
  · rintro i u ys H5 hu ⟨s5, xs, lx, arx, tx⟩
    obtain ⟨n, rfl⟩ := int_at hu
    refine tAllT ⟨_, rfl, _, rfl, n, q1, zs, rfl, s5 _ _ hq4, szo, fun wd ms v H6 arw s6 tv => ⟨s5.trans s6, xs ++ [(wd, ms)], by rw [List.length_append, lx]; rfl, fun x hx => ?_, (tx.keep s6).app (.cons tv .nil)⟩⟩
    rcases List.mem_append.mp hx with hx | hx
    · exact arx x hx
    · rw [List.mem_singleton.mp hx]
      exact arw
  rintro ys H5 ⟨s5, xs, lx, arx, tx⟩ sl5 hsl5
  rw [List.length_map] at lx
  have s6 := same_new (o := .lst ys) hsl5
  have h6 : (upd H5 sl5 (.lst ys)) sl5 = some (.lst ys) := upd_same
  have tx6 := tx.keep s6
  have hq6 := s6 _ _ (s5 _ _ hq4)
  have hS6 := s6.seq (s5.seq hS4)
  generalize (upd H5 sl5 (HO.lst ys)) = H6 at s6 h6 tx6 hq6 hS6 ⊢
  refine ⟨_, rfl, (by show 0 ≤ sizeLine; decide), fun e0 he0 => ?_⟩
  have s7 := same_new (o := .lst []) he0
  refine ⟨sl5, e0, ys, rfl, rfl, SqL.of (s7 _ _ h6), SqL.of upd_same, _, rfl, ?_⟩
  by_cases en : ys = []
  · refine ite2 (fun _ => ?_) (fun c => absurd (decide_eq_true en) c)
    refine ⟨_, rfl, a, ns, 6, rfl, s7.seq hS6, _, _, rfl, rfl, ⟨by decide, by decide⟩, _, rfl, _, q1, zs, rfl, s7 _ _ hq6, szo, fun wd ms v H8 arw s8 tv => ⟨(by show 1 ≤ sizeLine; decide), fun l9 hl9 => ?_⟩⟩
    have s9 := same_new (o := .lst [v]) hl9
    exact ⟨a, b, q1, l9, [(wd, ms)], zs, rfl, s9 _ _ (s8 _ _ (s7 _ _ hq6)), szo.2.1, ⟨[v], upd_same, .cons (tv.keep s9) .nil⟩, fun x hx => by rw [List.mem_singleton.mp hx]; exact arw, (fun z => nomatch z), (by show 1 ≤ 12; decide), q⟩
  · refine ite2 (fun c => absurd (of_decide_eq_true c) en) (fun _ => ?_)
    exact ⟨a, b, q1, sl5, xs, zs, rfl, s7 _ _ hq6, szo.2.1, ⟨ys, s7 _ _ h6, tx6.keep s7⟩, arx, (fun z => en (by have := tx.len; rw [z] at this; exact List.length_eq_zero_iff.mp this.symm)), by omega, q⟩
end
end K26
section
set_option maxHeartbeats 0
open PySem PySem.W PyProof.Rows
lay_quick PySem.Challenge.pw_pactroom_k26_looked_at
namespace Q
noncomputable section
noncomputable abbrev vT : Value := Value.bool true
noncomputable abbrev vF : Value := Value.bool false
noncomputable abbrev A {α : Type} (l : List α) : Array α := Array.mk l
noncomputable abbrev E {α : Type} : Array α := Array.mk []
noncomputable abbrev vn : Value := Value.none
noncomputable abbrev vr (n : Nat) : Value := Value.ref n
noncomputable abbrev sr (n : Nat) : Option Value := some (Value.ref n)
noncomputable abbrev vi (a : Int) (n : Nat) : Value := Value.int a n
noncomputable abbrev vs (q : Str) (n : Nat) : Value := Value.str q n
noncomputable abbrev de (P : Params) (q : Str) (n : Nat) (v : Value) : DictEntry := DictEntry.mk (PyData.keyHash P q) (Value.str q n) v
noncomputable abbrev nd (o : Obj) (a b : BT) : BT := .node o a b
noncomputable abbrev l1 (o : Obj) : BT := .node o .nil .nil
abbrev S (l : List Nat) : Str := @Str.mk (Array.mk l)
abbrev q0:=S [60,109,111,100,117,108,101,62]
abbrev q1:=S [47,99,108,97,105,109,47,99,117,116,46,112,121]
abbrev q2:=S [95,95,109,97,105,110,95,95]
abbrev q3:=S [95,95,110,97,109,101,95,95]
abbrev q4:=S [112,97,99,116,114,111,111,109,46,101,114,114,111,114,115]
abbrev q5:=S [95,95,100,111,99,95,95]
abbrev q6:=S [95,95,112,97,99,107,97,103,101,95,95]
abbrev q7:=S [95,95,108,111,97,100,101,114,95,95]
abbrev q8:=S [95,95,115,112,101,99,95,95]
abbrev q9:=S [95,95,97,110,110,111,116,97,116,105,111,110,115,95,95]
abbrev q10:=S [95,95,98,117,105,108,116,105,110,115,95,95]
abbrev q11:=S [95,95,102,105,108,101,95,95]
abbrev q12:=S [95,95,99,97,99,104,101,100,95,95]
abbrev q13:=S [95,119,97,108,108]
abbrev q14:=S [80,97,99,116,69,114,114,111,114]
abbrev q15:=S [78,111,84,104,105,110,103]
abbrev q16:=S [107]
abbrev q17:=S [95,95,109,111,100,117,108,101,95,95]
abbrev q18:=S [95,95,113,117,97,108,110,97,109,101,95,95]
abbrev q19:=S [95,95,102,105,114,115,116,108,105,110,101,110,111,95,95]
abbrev q20:=S [95,95,115,116,97,116,105,99,95,97,116,116,114,105,98,117,116,101,115,95,95]
abbrev q21:=S [95,95,119,101,97,107,114,101,102,95,95]
abbrev q22:=S [78,111,84,101,120,116]
abbrev q23:=S [78,111,80,108,97,99,101]
abbrev q24:=S [95,95,105,110,105,116,95,95]
abbrev q25:=S [115,101,108,102]
abbrev q26:=S [97,116]
abbrev q27:=S [78,111,84,101,120,116,46,95,95,105,110,105,116,95,95]
abbrev q28:=S [78,111,80,108,97,99,101,46,95,95,105,110,105,116,95,95]
abbrev q29:=S [112,97,99,116,114,111,111,109,46,107,105,110,100,115]
abbrev q30:=S [78,111,87,97,121,66,97,99,107]
abbrev q31:=S [78,111,70,105,116]
abbrev q32:=S [78,111,87,97,121,66,97,99,107,46,95,95,105,110,105,116,95,95]
abbrev q33:=S [78,111,70,105,116,46,95,95,105,110,105,116,95,95]
abbrev q34:=S [76,111,99,107]
abbrev q35:=S [107,105,110,100]
abbrev q36:=S [98,101,115,105,100,101]
abbrev q37:=S [99,111,118,101,114,115]
abbrev q38:=S [116,111,108,100]
abbrev q39:=S [102,105,114,115,116]
abbrev q40:=S [108,97,115,116]
abbrev q41:=S [76,111,99,107,46,95,95,105,110,105,116,95,95]
abbrev q42:=S [76,111,99,107,46,107,105,110,100]
abbrev q43:=S [111,116,104,101,114]
abbrev q44:=S [76,111,99,107,46,98,101,115,105,100,101]
abbrev q45:=S [76,111,99,107,46,99,111,118,101,114,115]
abbrev q46:=S [76,111,99,107,46,116,111,108,100]
abbrev q47:=S [95,95,100,105,99,116,95,95]
abbrev q48:=S [82,101,97,100]
abbrev q49:=S [77,101,97,110]
abbrev q50:=S [82,101,97,100,46,107,105,110,100]
abbrev q51:=S [77,101,97,110,46,107,105,110,100]
abbrev q52:=S [112,97,99,116,114,111,111,109,46,116,104,105,110,103,115]
abbrev q53:=S [67,104,97,110,103,101]
abbrev q54:=S [77,79,83,84,95,70,73,71,85,82,69,83,95,116,104,105,110,103,115]
abbrev q55:=S [77,79,83,84,95,83,73,71,78,83]
abbrev q56:=S [77,79,83,84,95,80,65,82,84,83]
abbrev q57:=S [77,79,83,84,95,68,69,69,80]
abbrev q58:=S [76,79,78,71,69,83,84]
abbrev q59:=S [66,76,65,78,75]
abbrev q60:=S [80,69,82,67,69,78,84]
abbrev q61:=S [84,73,76,68,69]
abbrev q62:=S [105,115,95,119,104,111,108,101]
abbrev q63:=S [114,101,97,100,95,116,104,105,110,103]
abbrev q64:=S [105,115,95,115,105,103,110]
abbrev q65:=S [67,104,97,110,103,101,46,107,105,110,100]
abbrev q66:=S [116,104,105,110,103]
abbrev q67:=S [115,105,103,110]
abbrev q68:=S [110,117,109,98,101,114]
abbrev q69:=S [112,97,99,116,114,111,111,109,46,115,116,101,112,115]
abbrev q70:=S [82,101,97,100,101,114]
abbrev q71:=S [77,79,83,84,95,70,73,71,85,82,69,83,95,115,116,101,112,115]
abbrev q72:=S [112,97,115,115,101,115]
abbrev q73:=S [114,101,97,100,95,97,110,121]
abbrev q74:=S [114,101,97,100,95,112,97,114,116,115]
abbrev q75:=S [114,101,97,100,95,98,101,108,111,119]
abbrev q76:=S [114,101,97,100,95,110,117,109,98,101,114]
abbrev q77:=S [114,101,97,100,95,115,105,103,110,115]
abbrev q78:=S [116,101,120,116]
abbrev q79:=S [82,101,97,100,101,114,46,95,95,105,110,105,116,95,95]
abbrev q80:=S [82,101,97,100,101,114,46,112,97,115,115,101,115]
abbrev q81:=S [100,101,101,112]
abbrev q82:=S [82,101,97,100,101,114,46,114,101,97,100,95,97,110,121]
abbrev q83:=S [112,97,114,116,115]
abbrev q84:=S [82,101,97,100,101,114,46,114,101,97,100,95,112,97,114,116,115]
abbrev q85:=S [82,101,97,100,101,114,46,114,101,97,100,95,98,101,108,111,119]
abbrev q86:=S [115,116,97,114,116]
abbrev q87:=S [102,105,103,117,114,101,115]
abbrev q88:=S [82,101,97,100,101,114,46,114,101,97,100,95,110,117,109,98,101,114]
abbrev q89:=S [109,97,110,121]
abbrev q90:=S [98,101,104,105,110,100]
abbrev q91:=S [115,105,103,110,115]
abbrev q92:=S [82,101,97,100,101,114,46,114,101,97,100,95,115,105,103,110,115]
abbrev q93:=S [112,108,97,99,101]
abbrev q94:=S [83,72,65,80,69,83]
abbrev q95:=S [83,116,101,112]
abbrev q96:=S [116,97,107,101]
abbrev q97:=S [72,67]
abbrev q98:=S [109,101,97,110]
abbrev q99:=S [115,117,109]
abbrev q100:=S [72,65,66]
abbrev q101:=S [103,105,118,101]
abbrev q102:=S [97,100,100]
abbrev q103:=S [72,67,86]
abbrev q104:=S [112,108,117,115]
abbrev q105:=S [86]
abbrev q106:=S [110,101,101,100]
abbrev q107:=S [104,111,117,115,101]
abbrev q108:=S [108,111,99,107]
abbrev q109:=S [115,116,101,112,95,100,111,110,101]
abbrev q110:=S [98,97,99,107]
abbrev q111:=S [115,117,114,101]
abbrev q112:=S [115,112,101,108,108,101,100]
abbrev q113:=S [83,116,101,112,46,104,111,117,115,101]
abbrev q114:=S [83,116,101,112,46,108,111,99,107]
abbrev q115:=S [104,97,110,100]
abbrev q116:=S [118,97,108,117,101,95,111,102]
abbrev q117:=S [83,116,101,112,46,115,116,101,112,95,100,111,110,101]
abbrev q118:=S [83,116,101,112,46,98,97,99,107]
abbrev q119:=S [83,116,101,112,46,115,117,114,101]
abbrev q120:=S [83,116,101,112,46,115,112,101,108,108,101,100]
abbrev q121:=S [67,101,108,108,83,116,101,112]
abbrev q122:=S [119,104,101,114,101]
abbrev q123:=S [99,101,108,108]
abbrev q124:=S [67,101,108,108,83,116,101,112,46,95,95,105,110,105,116,95,95]
abbrev q125:=S [67,101,108,108,83,116,101,112,46,104,111,117,115,101]
abbrev q126:=S [84,97,107,101,83,116,101,112]
abbrev q127:=S [84,97,107,101,83,116,101,112,46,108,111,99,107]
abbrev q128:=S [84,97,107,101,83,116,101,112,46,115,116,101,112,95,100,111,110,101]
abbrev q129:=S [84,97,107,101,83,116,101,112,46,115,112,101,108,108,101,100]
abbrev q130:=S [77,101,97,110,83,116,101,112]
abbrev q131:=S [77,101,97,110,83,116,101,112,46,108,111,99,107]
abbrev q132:=S [77,101,97,110,83,116,101,112,46,115,116,101,112,95,100,111,110,101]
abbrev q133:=S [77,101,97,110,83,116,101,112,46,115,112,101,108,108,101,100]
abbrev q134:=S [83,117,109,83,116,101,112]
abbrev q135:=S [108,111,119]
abbrev q136:=S [104,105,103,104]
abbrev q137:=S [83,117,109,83,116,101,112,46,95,95,105,110,105,116,95,95]
abbrev q138:=S [83,117,109,83,116,101,112,46,104,111,117,115,101]
abbrev q139:=S [83,117,109,83,116,101,112,46,108,111,99,107]
abbrev q140:=S [83,117,109,83,116,101,112,46,115,116,101,112,95,100,111,110,101]
abbrev q141:=S [83,117,109,83,116,101,112,46,115,112,101,108,108,101,100]
abbrev q142:=S [71,105,118,101,83,116,101,112]
abbrev q143:=S [71,105,118,101,83,116,101,112,46,108,111,99,107]
abbrev q144:=S [71,105,118,101,83,116,101,112,46,115,116,101,112,95,100,111,110,101]
abbrev q145:=S [71,105,118,101,83,116,101,112,46,115,117,114,101]
abbrev q146:=S [71,105,118,101,83,116,101,112,46,115,112,101,108,108,101,100]
abbrev q147:=S [65,100,100,83,116,101,112]
abbrev q148:=S [97,109,111,117,110,116]
abbrev q149:=S [65,100,100,83,116,101,112,46,95,95,105,110,105,116,95,95]
abbrev q150:=S [65,100,100,83,116,101,112,46,108,111,99,107]
abbrev q151:=S [65,100,100,83,116,101,112,46,115,116,101,112,95,100,111,110,101]
abbrev q152:=S [65,100,100,83,116,101,112,46,98,97,99,107]
abbrev q153:=S [65,100,100,83,116,101,112,46,115,112,101,108,108,101,100]
abbrev q154:=S [80,108,117,115,83,116,101,112]
abbrev q155:=S [80,108,117,115,83,116,101,112,46,95,95,105,110,105,116,95,95]
abbrev q156:=S [80,108,117,115,83,116,101,112,46,115,116,101,112,95,100,111,110,101]
abbrev q157:=S [80,108,117,115,83,116,101,112,46,115,112,101,108,108,101,100]
abbrev q158:=S [112,97,99,116,114,111,111,109,46,112,97,99,116,115]
abbrev q159:=S [78,101,101,100,83,116,101,112]
abbrev q160:=S [114,101,97,100,95,115,116,101,112]
abbrev q161:=S [109,97,100,101,95,115,116,101,112]
abbrev q162:=S [109,97,100,101,95,115,117,109]
abbrev q163:=S [77,65,78,78,69,82,83]
abbrev q164:=S [77,79,83,84,95,83,84,69,80,83]
abbrev q165:=S [78,101,101,100,83,116,101,112,46,95,95,105,110,105,116,95,95]
abbrev q166:=S [78,101,101,100,83,116,101,112,46,115,116,101,112,95,100,111,110,101]
abbrev q167:=S [78,101,101,100,83,116,101,112,46,115,112,101,108,108,101,100]
abbrev q168:=S [119,111,114,100]
abbrev q169:=S [108,101,116,116,101,114]
abbrev q170:=S [110,117,109,98,101,114,115]
abbrev q171:=S [104,101,108,100]
abbrev q172:=S [119,97,108,107,101,100]
abbrev q173:=S [108,97,119,95,112,97,99,116,114,111,111,109,95,107,50,54,95,108,111,111,107,101,100,95,97,116]
abbrev q174:=S [80,97,99,116]
abbrev q175:=S [114,101,97,100,95,112,97,99,116]
abbrev q176:=S [114,101,97,100,95,112,97,114,116]
abbrev q177:=S [116,117,114,110,105,110,103]
abbrev q178:=S [108,111,111,107]
abbrev q179:=S [105,115,95,116,104,101,114,101]
abbrev q180:=S [108,111,111,107,95,98,101,104,105,110,100]
abbrev q181:=S [95,108,97,119,95,99,101,108,108]
abbrev q182:=S [95,108,97,119,95,119,104,111,108,101]
abbrev q183:=S [95,108,97,119,95,109,105,120,101,100]
abbrev q184:=S [109,97,110,110,101,114]
abbrev q185:=S [115,116,101,112,115]
abbrev q186:=S [80,97,99,116,46,95,95,105,110,105,116,95,95]
abbrev q187:=S [80,97,99,116,46,115,112,101,108,108,101,100]
abbrev q188:=S [112,97,99,116]
abbrev q189:=S [115,105,122,101,115]
abbrev q190:=S [115,116,101,112]
abbrev q191:=S [95,108,97,119,95,115,99,114,105,112,116]
abbrev q192:=S [95,108,97,119,95,107]
abbrev q193:=S [95,108,97,119,95,102,111,117,110,100,95,104,101,114,101]
abbrev q194:=S [95,108,97,119,95,99,101,108,108,95,104,101,114,101]
abbrev q195:=S [95,108,97,119,95,110,117,109,98,101,114]
abbrev q196:=S [95,108,97,119,95,112,108,97,99,101]
abbrev q197:=S [95,108,97,119,95,115,116,101,112]
abbrev q198:=S [95,108,97,119,95,105,115,95,116,104,101,114,101]
abbrev q199:=S [95,108,97,119,95,100,117,101]
abbrev q200:=S [95,108,97,119,95,102,111,117,110,100]
abbrev q201:=S [95,108,97,119,95,97,110,121]
abbrev q202:=S [95,108,97,119,95,98,121,95,104,97,110,100]
abbrev q203:=S [108,97,119]
abbrev q204:=S [95,108,97,119,95,115,105,122,101]
abbrev q205:=S [95,108,97,119,95,115,105,122,101,115]
abbrev q206:=S [95,108,97,119,95,119,111,114,100]
abbrev q207:=S [95,108,97,119,95,119,104,101,114,101]
abbrev q208:=S [95,108,97,119,95,111,110,101]
abbrev q209:=S [95,108,97,119,95,111,116,104,101,114]
abbrev q210:=S [95,108,97,119,95,115,116,101,112,95,104,101,114,101]
abbrev q211:=S [95,108,97,119,95,108,97,115,116]
abbrev q212:=S [95,108,97,119,95,109,97,110,110,101,114]
abbrev q213:=S [95,108,97,119,95,115,116,101,112,115]
abbrev q214:=S [95,108,97,119,95,103,105,118,101,110]
abbrev q215:=S [95,108,97,119,95,112,97,99,116]
abbrev q216:=S [95,108,97,119,95,101]
abbrev q217:=S [95,108,97,119,95,115,111,109,101]
noncomputable abbrev y0 : Value := (@Value.type SL.s2766695959194262286x5)
noncomputable abbrev y1 : Value := (@Value.type SL.s5856160107412720595x4)
noncomputable abbrev y2 : Value := (@Value.type SL.s658472552662922059x5)
noncomputable abbrev y3 : Value := (@Value.type SL.s14018661285674007319x4)
noncomputable abbrev y4 : Value := (@Value.builtin SL.s7097527257260152453x26)
noncomputable abbrev y5 : Value := (@Value.type SL.s7174869446012820540x8)
noncomputable abbrev y6 : Value := (@Value.type SL.s6070975301684473832x10)
noncomputable abbrev y7 : Value := (@Value.type SL.s11030030927630378310x26)
noncomputable abbrev y8 : Value := (@Value.builtin SL.s10062305145149207511x16)
noncomputable abbrev y9 : Value := (@Value.type SL.s17162191345867700912x4)
noncomputable abbrev y10 : Value := (@Value.type SL.s5946037652744460706x9)
noncomputable abbrev y11 : Value := (@Value.type SL.s4278001404047624695x13)
noncomputable abbrev y12 : Value := (@Value.type SL.s2742458400755230247x6)
noncomputable abbrev y13 : Value := (@Value.builtin SL.s4209523147560561109x18)
noncomputable abbrev y14 : Value := (@Value.type SL.s14755015743595814543x17)
noncomputable abbrev y15 : Value := (@Value.builtin SL.s10220274742760427390x26)
noncomputable abbrev y16 : Value := (@Value.type SL.s4290257624100764138x5)
noncomputable abbrev y17 : Value := (@Value.builtin SL.s4860613602091757760x24)
noncomputable abbrev y18 : Value := (@Value.builtin SL.s11443829558043349243x14)
noncomputable abbrev y19 : Value := (@Value.builtin SL.s6511155373996960695x17)
noncomputable abbrev y20 : Value := (@Value.builtin SL.s12411053484034534018x21)
noncomputable abbrev p0 : Program := PySem.Challenge.pw_pactroom_k26_looked_at
noncomputable abbrev pq : Program := PySem.W.Fast.tw15458525904150461954
theorem pe : p0 = pq := PySem.W.Fast.te15458525904150461954
noncomputable def B (i : Nat) : Stmt := pq.main.body.getD i (.Pass ⟨0, 0, 0, 0⟩)
noncomputable def T (i : Nat) : Stmt := p0.main.body.getD i (.Pass ⟨0, 0, 0, 0⟩)
noncomputable def M (k j : Nat) : Stmt := L2.inClass (B k) j
noncomputable def N (k j : Nat) : Stmt := L2.inClass (T k) j
noncomputable abbrev fk (a b : Str) (s : Stmt) := FuncData.mk a b (L2.defArgs s) (.stmts (L2.defBody s)) (L2.defScope s)
section
variable (P : Params)
def a11:=Obj.mk y0 none (Data.seq E 0) E
def a12:=Obj.mk vn none (Data.fields E) E
def m0 (x0 : Str) (x1 : Nat) (x2 : Nat) (x3 : Nat) (x4 : Int) (x5 : Nat) (x6 : Nat) (x7 : Int) (x8 : Nat):=Obj.mk y1 none (Data.fields (A [vs x0 x1,vs x0 x2,vs q1 x3,vi x4 0,vi 0 0,vi 0 0,vi 0 0,vi 0 0,vr x5,vF,vi 181 0,vr x6,vn,vn,vn,vn,vi x7 0,vi x4 0,vs q1 x8])) E
def a13:=m0 q0 182 183 184 1 11 12 185 186
def m1 (x0 : Nat) (x1 : Nat) (x2 : Str) (x3 : Nat):=Obj.mk y2 none Data.plain (A [sr x0,sr 3,sr x1,none,some (vs x2 x3),none,sr 0])
def a14:=m1 13 3 q2 164
def u0:=nd (boot_o_0 P) (nd (boot_o_1 P) (nd (boot_o_3 P) (l1 (boot_o_7 P)) (l1 a11)) (nd (boot_o_5 P) (l1 (boot_o_9 P)) (l1 a13))) (nd (boot_o_2 P) (nd (boot_o_4 P) (l1 (boot_o_8 P)) (l1 a12)) (nd (boot_o_6 P) (l1 (boot_o_10 P)) (l1 a14)))
def ta:=u0 P
def tb:=u0 P
def c0_3:=Obj.mk y3 none (Data.dict (A [de P q3 165 (vs q4 194),de P q5 166 vn,de P q6 167 vn,de P q7 168 y4,de P q8 169 vn,de P q9 170 (vr 6),de P q10 171 (vr 4),de P q11 173 (vs q1 172),de P q12 174 vn,de P q13 193 (vr 21),de P q14 213 (vr 31),de P q15 229 (vr 44)]) 12) E
def m2 (x0 : Int) (x1 : Int) (x2 : Nat) (x3 : Int) (x4 : Nat) (x5 : Int) (x6 : Nat):=Obj.mk vn none (Data.fields (A [vi x0 0,vi x1 0,vr x2,vi x3 0,vi x1 0,vr x4,vi x5 0,vi x1 0,vr x6])) E
def c0_12:=m2 1 0 20 5 27 7 40
def m3 (x0 : Str) (x1 : Nat):=Obj.mk y0 none (Data.seq (A [vs x0 x1]) 0) E
def c0_17:=m3 q16 190
def m4 (x0 : Str) (x1 : Str) (x2 : Stmt):=Obj.mk vn none (Data.func (fk x0 x1 x2 0 [] vn vn vn vn none vn vn 0)) E
def c0_19:=m4 q13 q13 (B 0)
def m5 (x0 : Str) (x1 : Nat) (x2 : Str) (x3 : Nat) (x4 : Nat) (x5 : Int) (x6 : Int) (x7 : Nat) (x8 : Nat) (x9 : Nat) (x10 : Nat) (x11 : Nat) (x12 : Int) (x13 : Nat):=Obj.mk y1 none (Data.fields (A [vs x0 x1,vs x2 x3,vs q1 x4,vi x5 0,vi x6 0,vi 0 0,vi 0 0,vi 3 0,vr x7,vT,vi 181 0,vr x8,vn,vr x9,vr x10,vr x11,vi x12 0,vi x5 0,vs q1 x13])) E
def c0_20:=m5 q13 187 q13 188 189 1 1 15 16 17 18 19 191 192
def m6 (x0 : Str) (x1 : Str) (x2 : Stmt) (x3 : Str) (x4 : Nat) (x5 : Nat):=Obj.mk y5 none (Data.func (fk x0 x1 x2 3 [] vn vn vn (vs x3 x4) none (vr x5) vn 0)) E
def c0_21:=m6 q13 q13 (B 0) q2 164 20
def c0_22:=Obj.mk y0 none (Data.seq (A [y6]) 0) E
def c0_23:=Obj.mk y7 none (Data.fields (A [y8,y9])) E
def c0_24:=Obj.mk y3 none (Data.dict (A [de P q17 203 (vs q4 194),de P q18 205 (vs q14 204),de P q19 207 (vi 5 206),de P q20 208 (vr 29)]) 4) E
def c0_27:=m0 q14 198 199 200 5 25 26 201 202
def c0_28:=m1 27 24 q4 194
def c0_30:=Obj.mk y3 none (Data.dict (A [de P q17 203 (vs q4 194),de P q19 207 (vi 5 206),de P q20 208 (vr 29),de P q21 210 (vr 32),de P q5 211 vn]) 3) E
def c0_31:=Obj.mk y9 none (Data.cls (ClassData.mk q14 [y6] [vr 31,y6,y10,y11,y12] 30 q14 true [] [vr 44] false none false)) (A [sr 22,none,some (vs q14 196),some (vs q14 204),some y13,some vT])
def m7 (x0 : Nat) (x1 : Nat):=Obj.mk y14 none (Data.fields (A [vs q21 x0,vr x1,y15,vn])) E
def c0_32:=m7 209 31
def m8 (x0 : Nat):=Obj.mk y16 none (Data.fields (A [vr x0,vr x0,vr x0])) E
def c0_33:=m8 31
def m9 (x0 : Nat):=Obj.mk y7 none (Data.fields (A [y17,vr x0])) E
def c0_34:=m9 31
def m10 (x0 : Nat):=Obj.mk y0 none (Data.seq (A [vr x0]) 0) E
def c0_35:=m10 31
def c0_37:=Obj.mk y3 none (Data.dict (A [de P q17 221 (vs q4 194),de P q18 223 (vs q15 222),de P q19 225 (vi 7 224),de P q20 226 (vr 42)]) 4) E
def c0_40:=m0 q15 216 217 218 7 38 39 219 220
def c0_41:=m1 40 37 q4 194
def c0_43:=Obj.mk y3 none (Data.dict (A [de P q17 221 (vs q4 194),de P q19 225 (vi 7 224),de P q20 226 (vr 42),de P q5 227 vn]) 2) E
def c0_44:=Obj.mk y9 none (Data.cls (ClassData.mk q15 [vr 31] [vr 44,vr 31,y6,y10,y11,y12] 43 q15 true [] [] false none false)) (A [sr 35,none,some (vs q15 214),some (vs q15 222),some y13,some vT])
def c0_45:=m8 44
def c0_46:=m9 44
def tc0_:=nd (boot_o_0 P) (nd (boot_o_1 P) (nd (c0_3 P) (nd (boot_o_7 P) (nd a11 (l1 c0_31) .nil) (nd c0_23 (l1 a12) .nil)) (nd a11 (nd c0_19 (l1 c0_35) .nil) (nd c0_27 (l1 (c0_43 P)) .nil))) (nd (boot_o_5 P) (nd (boot_o_9 P) (nd c0_17 (l1 c0_33) .nil) (nd a11 (l1 c0_41) .nil)) (nd a13 (nd c0_21 (l1 (c0_37 P)) .nil) (nd a11 (l1 c0_45) .nil)))) (nd (boot_o_2 P) (nd (boot_o_4 P) (nd (boot_o_8 P) (nd a12 (l1 c0_32) .nil) (nd (c0_24 P) (l1 c0_40) .nil)) (nd c0_12 (nd c0_20 (l1 c0_23) .nil) (nd c0_28 (l1 c0_44) .nil))) (nd (boot_o_6 P) (nd (boot_o_10 P) (nd a11 (l1 c0_34) .nil) (nd a12 (l1 a11) .nil)) (nd a14 (nd c0_22 (l1 a11) .nil) (nd (c0_30 P) (l1 c0_46) .nil))))
def c1_3:=Obj.mk y3 none (Data.dict (A [de P q3 165 (vs q4 194),de P q5 166 vn,de P q6 167 vn,de P q7 168 y4,de P q8 169 vn,de P q9 170 (vr 6),de P q10 171 (vr 4),de P q11 173 (vs q1 172),de P q12 174 vn,de P q13 193 (vr 21),de P q14 213 (vr 31),de P q15 229 (vr 44),de P q22 254 (vr 63),de P q23 279 (vr 82)]) 14) E
def m11 (x0 : Int) (x1 : Int) (x2 : Nat) (x3 : Int) (x4 : Nat) (x5 : Int) (x6 : Nat) (x7 : Int) (x8 : Nat) (x9 : Int) (x10 : Nat):=Obj.mk vn none (Data.fields (A [vi x0 0,vi x1 0,vr x2,vi x3 0,vi x1 0,vr x4,vi x5 0,vi x1 0,vr x6,vi x7 0,vi x1 0,vr x8,vi x9 0,vi x1 0,vr x10])) E
def c1_12:=m11 1 0 20 5 27 7 40 9 52 13 71
def c1_31:=Obj.mk y9 none (Data.cls (ClassData.mk q14 [y6] [vr 31,y6,y10,y11,y12] 30 q14 true [] [vr 44,vr 63,vr 82] false none false)) (A [sr 22,none,some (vs q14 196),some (vs q14 204),some y13,some vT])
def m12 (x0 : Nat) (x1 : Str) (x2 : Nat) (x3 : Nat) (x4 : Str) (x5 : Nat) (x6 : Nat) (x7 : Int) (x8 : Nat) (x9 : Str) (x10 : Nat) (x11 : Nat) (x12 : Nat) (x13 : Nat):=Obj.mk y3 none (Data.dict (A [de P q17 x0 (vs x1 x2),de P q18 x3 (vs x4 x5),de P q19 x6 (vi x7 x8),de P x9 x10 (vr x11),de P q20 x12 (vr x13)]) 5) E
def c1_49:=m12 P 237 q4 194 239 q22 238 241 9 240 q24 249 60 251 61
def m13 (x0 : Int) (x1 : Nat):=Obj.mk vn none (Data.fields (A [vi x0 0,vi 4 0,vr x1])) E
def c1_51:=m13 11 59
def c1_52:=m0 q22 232 233 234 9 50 51 235 236
def c1_53:=m1 52 49 q4 194
def m14 (x0 : Str) (x1 : Nat) (x2 : Str) (x3 : Nat):=Obj.mk y0 none (Data.seq (A [vs x0 x1,vs x2 x3]) 0) E
def c1_56:=m14 q25 245 q26 246
def c1_58:=m4 q24 q27 (M 4 0)
def c1_59:=m5 q24 242 q27 243 244 11 2 54 55 56 57 58 247 248
def c1_60:=m6 q24 q27 (M 4 0) q4 194 59
def c1_61:=m3 q26 250
def m15 (x0 : Nat) (x1 : Str) (x2 : Nat) (x3 : Nat) (x4 : Int) (x5 : Nat) (x6 : Str) (x7 : Nat) (x8 : Nat) (x9 : Nat) (x10 : Nat) (x11 : Nat):=Obj.mk y3 none (Data.dict (A [de P q17 x0 (vs x1 x2),de P q19 x3 (vi x4 x5),de P x6 x7 (vr x8),de P q20 x9 (vr x10),de P q5 x11 vn]) 2) E
def c1_62:=m15 P 237 q4 194 241 9 240 q24 249 60 251 61 252
def c1_63:=Obj.mk y9 none (Data.cls (ClassData.mk q22 [vr 31] [vr 63,vr 31,y6,y10,y11,y12] 62 q22 true [] [] false none false)) (A [sr 47,none,some (vs q22 230),some (vs q22 238),some y13,some vT])
def c1_64:=m8 63
def c1_65:=m9 63
def c1_68:=m12 P 262 q4 194 264 q23 263 266 13 265 q24 274 79 276 80
def c1_70:=m13 15 78
def c1_71:=m0 q23 257 258 259 13 69 70 260 261
def c1_72:=m1 71 68 q4 194
def c1_75:=m14 q25 270 q26 271
def c1_77:=m4 q24 q28 (M 5 0)
def c1_78:=m5 q24 267 q28 268 269 15 2 73 74 75 76 77 272 273
def c1_79:=m6 q24 q28 (M 5 0) q4 194 78
def c1_80:=m3 q26 275
def c1_81:=m15 P 262 q4 194 266 13 265 q24 274 79 276 80 277
def c1_82:=Obj.mk y9 none (Data.cls (ClassData.mk q23 [vr 31] [vr 82,vr 31,y6,y10,y11,y12] 81 q23 true [] [] false none false)) (A [sr 66,none,some (vs q23 255),some (vs q23 263),some y13,some vT])
def c1_83:=m8 82
def c1_84:=m9 82
def tc1_:=nd (boot_o_0 P) (nd (boot_o_1 P) (nd (c1_3 P) (nd (boot_o_7 P) (nd a11 (nd c1_31 (l1 c1_63) .nil) (nd c0_35 (l1 c1_79) .nil)) (nd c0_23 (nd a12 (l1 c1_71) .nil) (l1 a12))) (nd a11 (nd c0_19 (nd c0_35 (l1 c0_23) .nil) (nd c1_51 (l1 c1_83) .nil)) (nd c0_27 (nd (c0_43 P) (l1 c1_75) .nil) (l1 c1_59)))) (nd (boot_o_5 P) (nd (boot_o_9 P) (nd c0_17 (nd c0_33 (l1 c1_65) .nil) (nd (c1_49 P) (l1 (c1_81 P)) .nil)) (nd a11 (nd c0_41 (l1 a11) .nil) (l1 a11))) (nd a13 (nd c0_21 (nd (c0_37 P) (l1 a11) .nil) (l1 c1_53)) (nd a11 (nd c0_45 (l1 c1_77) .nil) (l1 c1_61))))) (nd (boot_o_2 P) (nd (boot_o_4 P) (nd (boot_o_8 P) (nd a12 (nd c0_32 (l1 c1_64) .nil) (nd c0_23 (l1 c1_80) .nil)) (nd (c0_24 P) (nd c0_40 (l1 c1_72) .nil) (l1 c1_56))) (nd c1_12 (nd c0_20 (nd c0_23 (l1 (c1_68 P)) .nil) (nd c1_52 (l1 c1_84) .nil)) (nd c0_28 (nd c0_44 (l1 a11) .nil) (l1 c1_60)))) (nd (boot_o_6 P) (nd (boot_o_10 P) (nd a11 (nd c0_34 (l1 c0_35) .nil) (nd a11 (l1 c1_82) .nil)) (nd a12 (nd a11 (l1 a12) .nil) (l1 c1_58))) (nd a14 (nd c0_22 (nd a11 (l1 c1_70) .nil) (l1 a11)) (nd (c0_30 P) (nd c0_46 (l1 c1_78) .nil) (l1 (c1_62 P))))))
def c2_3:=Obj.mk y3 none (Data.dict (A [de P q3 165 (vs q29 330),de P q5 166 vn,de P q6 167 vn,de P q7 168 y4,de P q8 169 vn,de P q9 170 (vr 6),de P q10 171 (vr 4),de P q11 173 (vs q1 172),de P q12 174 vn,de P q13 193 (vr 21),de P q14 213 (vr 31),de P q15 229 (vr 44),de P q22 254 (vr 63),de P q23 279 (vr 82),de P q30 304 (vr 101),de P q31 329 (vr 120)]) 16) E
def c2_12:=Obj.mk vn none (Data.fields (A [vi 1 0,vi 0 0,vr 20,vi 5 0,vi 0 0,vr 27,vi 7 0,vi 0 0,vr 40,vi 9 0,vi 0 0,vr 52,vi 13 0,vi 0 0,vr 71,vi 17 0,vi 0 0,vr 90,vi 21 0,vi 0 0,vr 109])) E
def c2_31:=Obj.mk y9 none (Data.cls (ClassData.mk q14 [y6] [vr 31,y6,y10,y11,y12] 30 q14 true [] [vr 44,vr 63,vr 82,vr 101,vr 120] false none false)) (A [sr 22,none,some (vs q14 196),some (vs q14 204),some y13,some vT])
def c2_87:=m12 P 287 q4 194 289 q30 288 291 17 290 q24 299 98 301 99
def c2_89:=m13 19 97
def c2_90:=m0 q30 282 283 284 17 88 89 285 286
def c2_91:=m1 90 87 q4 194
def c2_94:=m14 q25 295 q26 296
def c2_96:=m4 q24 q32 (M 6 0)
def c2_97:=m5 q24 292 q32 293 294 19 2 92 93 94 95 96 297 298
def c2_98:=m6 q24 q32 (M 6 0) q4 194 97
def c2_99:=m3 q26 300
def c2_100:=m15 P 287 q4 194 291 17 290 q24 299 98 301 99 302
def c2_101:=Obj.mk y9 none (Data.cls (ClassData.mk q30 [vr 31] [vr 101,vr 31,y6,y10,y11,y12] 100 q30 true [] [] false none false)) (A [sr 85,none,some (vs q30 280),some (vs q30 288),some y13,some vT])
def c2_102:=m8 101
def c2_103:=m9 101
def c2_106:=m12 P 312 q4 194 314 q31 313 316 21 315 q24 324 117 326 118
def c2_108:=m13 23 116
def c2_109:=m0 q31 307 308 309 21 107 108 310 311
def c2_110:=m1 109 106 q4 194
def c2_113:=m14 q25 320 q26 321
def c2_115:=m4 q24 q33 (M 7 0)
def c2_116:=m5 q24 317 q33 318 319 23 2 111 112 113 114 115 322 323
def c2_117:=m6 q24 q33 (M 7 0) q4 194 116
def c2_118:=m3 q26 325
def c2_119:=m15 P 312 q4 194 316 21 315 q24 324 117 326 118 327
def c2_120:=Obj.mk y9 none (Data.cls (ClassData.mk q31 [vr 31] [vr 120,vr 31,y6,y10,y11,y12] 119 q31 true [] [] false none false)) (A [sr 104,none,some (vs q31 305),some (vs q31 313),some y13,some vT])
def c2_121:=m8 120
def c2_122:=m9 120
def tc2_:=nd (boot_o_0 P) (nd (boot_o_1 P) (nd (c2_3 P) (nd (boot_o_7 P) (nd a11 (nd c2_31 (l1 c1_63) (l1 a11)) (nd c0_35 (l1 c1_79) (l1 a11))) (nd c0_23 (nd a12 (l1 c1_71) (l1 c2_103)) (nd a12 (l1 (c2_87 P)) (l1 (c2_119 P))))) (nd a11 (nd c0_19 (nd c0_35 (l1 c0_23) (l1 c2_99)) (nd c1_51 (l1 c1_83) (l1 c2_115))) (nd c0_27 (nd (c0_43 P) (l1 c1_75) (l1 a11)) (nd c1_59 (l1 c2_91) .nil)))) (nd (boot_o_5 P) (nd (boot_o_9 P) (nd c0_17 (nd c0_33 (l1 c1_65) (l1 c2_97)) (nd (c1_49 P) (l1 (c1_81 P)) (l1 c2_113))) (nd a11 (nd c0_41 (l1 a11) (l1 c0_23)) (nd a11 (l1 c2_89) (l1 c2_121)))) (nd a13 (nd c0_21 (nd (c0_37 P) (l1 a11) (l1 c2_101)) (nd c1_53 (l1 c0_35) (l1 c2_117))) (nd a11 (nd c0_45 (l1 c1_77) (l1 c2_109)) (nd c1_61 (l1 a12) .nil))))) (nd (boot_o_2 P) (nd (boot_o_4 P) (nd (boot_o_8 P) (nd a12 (nd c0_32 (l1 c1_64) (l1 c2_96)) (nd c0_23 (l1 c1_80) (l1 a12))) (nd (c0_24 P) (nd c0_40 (l1 c1_72) (l1 c0_35)) (nd c1_56 (l1 a11) (l1 c2_120)))) (nd c2_12 (nd c0_20 (nd c0_23 (l1 (c1_68 P)) (l1 (c2_100 P))) (nd c1_52 (l1 c1_84) (l1 c2_116))) (nd c0_28 (nd c0_44 (l1 a11) (l1 c2_108)) (nd c1_60 (l1 a11) .nil)))) (nd (boot_o_6 P) (nd (boot_o_10 P) (nd a11 (nd c0_34 (l1 c0_35) (l1 c2_98)) (nd a11 (l1 c1_82) (l1 a11))) (nd a12 (nd a11 (l1 a12) (l1 (c2_106 P))) (nd c1_58 (l1 c2_90) (l1 c2_122)))) (nd a14 (nd c0_22 (nd a11 (l1 c1_70) (l1 c2_102)) (nd a11 (l1 c0_23) (l1 c2_118))) (nd (c0_30 P) (nd c0_46 (l1 c1_78) (l1 c2_110)) (nd (c1_62 P) (l1 c2_94) .nil)))))
def c3_3:=Obj.mk y3 none (Data.dict (A [de P q3 165 (vs q29 330),de P q5 166 vn,de P q6 167 vn,de P q7 168 y4,de P q8 169 vn,de P q9 170 (vr 6),de P q10 171 (vr 4),de P q11 173 (vs q1 172),de P q12 174 vn,de P q13 193 (vr 21),de P q14 213 (vr 31),de P q15 229 (vr 44),de P q22 254 (vr 63),de P q23 279 (vr 82),de P q30 304 (vr 101),de P q31 329 (vr 120),de P q34 392 (vr 167)]) 17) E
def c3_12:=Obj.mk vn none (Data.fields (A [vi 1 0,vi 0 0,vr 20,vi 5 0,vi 0 0,vr 27,vi 7 0,vi 0 0,vr 40,vi 9 0,vi 0 0,vr 52,vi 13 0,vi 0 0,vr 71,vi 17 0,vi 0 0,vr 90,vi 21 0,vi 0 0,vr 109,vi 26 0,vi 0 0,vr 128])) E
def c3_125:=Obj.mk y3 none (Data.dict (A [de P q17 339 (vs q29 330),de P q18 341 (vs q34 340),de P q19 343 (vi 26 342),de P q24 352 (vr 136),de P q35 359 (vr 143),de P q36 367 (vr 150),de P q37 375 (vr 157),de P q38 382 (vr 164),de P q20 385 (vr 165)]) 9) E
def c3_127:=m11 28 4 135 32 142 35 149 38 156 41 163
def c3_128:=m0 q34 334 335 336 26 126 127 337 338
def c3_129:=m1 128 125 q29 330
def m16 (x0 : Str) (x1 : Nat) (x2 : Str) (x3 : Nat) (x4 : Str) (x5 : Nat):=Obj.mk y0 none (Data.seq (A [vs x0 x1,vs x2 x3,vs x4 x5]) 0) E
def c3_132:=m16 q25 347 q39 348 q40 349
def c3_134:=m4 q24 q41 (M 9 0)
def c3_135:=m5 q24 344 q41 345 346 28 3 130 131 132 133 134 350 351
def c3_136:=m6 q24 q41 (M 9 0) q29 330 135
def c3_139:=m3 q25 356
def c3_141:=m4 q35 q42 (M 9 1)
def c3_142:=m5 q35 353 q42 354 355 32 1 137 138 139 140 141 357 358
def c3_143:=m6 q35 q42 (M 9 1) q29 330 142
def c3_146:=m14 q25 363 q43 364
def c3_148:=m4 q36 q44 (M 9 2)
def c3_149:=m5 q36 360 q44 361 362 35 2 144 145 146 147 148 365 366
def c3_150:=m6 q36 q44 (M 9 2) q29 330 149
def c3_153:=m14 q25 371 q43 372
def c3_155:=m4 q37 q45 (M 9 3)
def c3_156:=m5 q37 368 q45 369 370 38 2 151 152 153 154 155 373 374
def c3_157:=m6 q37 q45 (M 9 3) q29 330 156
def c3_160:=m3 q25 379
def c3_162:=m4 q38 q46 (M 9 4)
def c3_163:=m5 q38 376 q46 377 378 41 1 158 159 160 161 162 380 381
def c3_164:=m6 q38 q46 (M 9 4) q29 330 163
def c3_165:=m14 q39 383 q40 384
def c3_166:=Obj.mk y3 none (Data.dict (A [de P q17 339 (vs q29 330),de P q19 343 (vi 26 342),de P q24 352 (vr 136),de P q35 359 (vr 143),de P q36 367 (vr 150),de P q37 375 (vr 157),de P q38 382 (vr 164),de P q20 385 (vr 165),de P q47 387 (vr 168),de P q21 389 (vr 169),de P q5 390 vn]) 4) E
def c3_167:=Obj.mk y9 none (Data.cls (ClassData.mk q34 [y12] [vr 167,y12] 166 q34 true [] [] false none false)) (A [none,none,some (vs q34 332),some (vs q34 340),some y18,some vT])
def m17 (x0 : Nat) (x1 : Nat):=Obj.mk y14 none (Data.fields (A [vs q47 x0,vr x1,y19,y20])) E
def c3_168:=m17 386 167
def c3_169:=m7 388 167
def c3_170:=m8 167
def c3_171:=m9 167
def tc3_:=nd (boot_o_0 P) (nd (boot_o_1 P) (nd (c3_3 P) (nd (boot_o_7 P) (nd a11 (nd c2_31 (nd c1_63 (l1 c3_127) .nil) (nd a11 (l1 a12) .nil)) (nd c0_35 (nd c1_79 (l1 c3_143) .nil) (l1 a11))) (nd c0_23 (nd a12 (nd c1_71 (l1 c3_135) .nil) (nd c2_103 (l1 c3_167) .nil)) (nd a12 (nd (c2_87 P) (l1 a11) .nil) (l1 (c2_119 P))))) (nd a11 (nd c0_19 (nd c0_35 (nd c0_23 (l1 a12) .nil) (nd c2_99 (l1 c3_163) .nil)) (nd c1_51 (nd c1_83 (l1 a11) .nil) (l1 c2_115))) (nd c0_27 (nd (c0_43 P) (nd c1_75 (l1 c3_139) .nil) (nd a11 (l1 c3_171) .nil)) (nd c1_59 (nd c2_91 (l1 c3_155) .nil) (l1 a11))))) (nd (boot_o_5 P) (nd (boot_o_9 P) (nd c0_17 (nd c0_33 (nd c1_65 (l1 c3_129) .nil) (nd c2_97 (l1 a11) .nil)) (nd (c1_49 P) (nd (c1_81 P) (l1 a12) .nil) (l1 c2_113))) (nd a11 (nd c0_41 (nd a11 (l1 a11) .nil) (nd c0_23 (l1 c3_169) .nil)) (nd a11 (nd c2_89 (l1 c3_153) .nil) (l1 c2_121)))) (nd a13 (nd c0_21 (nd (c0_37 P) (nd a11 (l1 a11) .nil) (nd c2_101 (l1 c3_165) .nil)) (nd c1_53 (nd c0_35 (l1 c3_149) .nil) (l1 c2_117))) (nd a11 (nd c0_45 (nd c1_77 (l1 c3_141) .nil) (l1 c2_109)) (nd c1_61 (nd a12 (l1 c3_157) .nil) (l1 (c3_125 P))))))) (nd (boot_o_2 P) (nd (boot_o_4 P) (nd (boot_o_8 P) (nd a12 (nd c0_32 (nd c1_64 (l1 c3_128) .nil) (nd c2_96 (l1 c3_160) .nil)) (nd c0_23 (nd c1_80 (l1 a11) .nil) (l1 a12))) (nd (c0_24 P) (nd c0_40 (nd c1_72 (l1 c3_136) .nil) (nd c0_35 (l1 c3_168) .nil)) (nd c1_56 (nd a11 (l1 a12) .nil) (l1 c2_120)))) (nd c3_12 (nd c0_20 (nd c0_23 (nd (c1_68 P) (l1 c3_132) .nil) (nd (c2_100 P) (l1 c3_164) .nil)) (nd c1_52 (nd c1_84 (l1 c3_148) .nil) (l1 c2_116))) (nd c0_28 (nd c0_44 (nd a11 (l1 a11) .nil) (l1 c2_108)) (nd c1_60 (nd a11 (l1 c3_156) .nil) (l1 c0_23))))) (nd (boot_o_6 P) (nd (boot_o_10 P) (nd a11 (nd c0_34 (nd c0_35 (l1 a11) .nil) (nd c2_98 (l1 c3_162) .nil)) (nd a11 (nd c1_82 (l1 c3_146) .nil) (l1 a11))) (nd a12 (nd a11 (nd a12 (l1 a12) .nil) (nd (c2_106 P) (l1 c3_170) .nil)) (nd c1_58 (nd c2_90 (l1 a11) .nil) (l1 c2_122)))) (nd a14 (nd c0_22 (nd a11 (nd c1_70 (l1 c3_134) .nil) (nd c2_102 (l1 (c3_166 P)) .nil)) (nd a11 (nd c0_23 (l1 c3_150) .nil) (l1 c2_118))) (nd (c0_30 P) (nd c0_46 (nd c1_78 (l1 c3_142) .nil) (l1 c2_110)) (nd (c1_62 P) (nd c2_94 (l1 a11) .nil) (l1 a11))))))
def c4_3:=Obj.mk y3 none (Data.dict (A [de P q3 165 (vs q29 330),de P q5 166 vn,de P q6 167 vn,de P q7 168 y4,de P q8 169 vn,de P q9 170 (vr 6),de P q10 171 (vr 4),de P q11 173 (vs q1 172),de P q12 174 vn,de P q13 193 (vr 21),de P q14 213 (vr 31),de P q15 229 (vr 44),de P q22 254 (vr 63),de P q23 279 (vr 82),de P q30 304 (vr 101),de P q31 329 (vr 120),de P q34 392 (vr 167),de P q48 415 (vr 188),de P q49 438 (vr 207)]) 19) E
def c4_12:=Obj.mk vn none (Data.fields (A [vi 1 0,vi 0 0,vr 20,vi 5 0,vi 0 0,vr 27,vi 7 0,vi 0 0,vr 40,vi 9 0,vi 0 0,vr 52,vi 13 0,vi 0 0,vr 71,vi 17 0,vi 0 0,vr 90,vi 21 0,vi 0 0,vr 109,vi 26 0,vi 0 0,vr 128,vi 43 0,vi 0 0,vr 177,vi 47 0,vi 0 0,vr 196])) E
def c4_167:=Obj.mk y9 none (Data.cls (ClassData.mk q34 [y12] [vr 167,y12] 166 q34 true [] [vr 188,vr 207] false none false)) (A [none,none,some (vs q34 332),some (vs q34 340),some y18,some vT])
def c4_172:=m10 167
def c4_174:=m12 P 400 q29 330 402 q48 401 404 43 403 q35 411 185 412 186
def c4_176:=m13 45 184
def c4_177:=m0 q48 395 396 397 43 175 176 398 399
def c4_178:=m1 177 174 q29 330
def c4_181:=m3 q25 408
def c4_183:=m4 q35 q50 (M 10 0)
def c4_184:=m5 q35 405 q50 406 407 45 1 179 180 181 182 183 409 410
def c4_185:=m6 q35 q50 (M 10 0) q29 330 184
def c4_187:=m15 P 400 q29 330 404 43 403 q35 411 185 412 186 413
def c4_188:=Obj.mk y9 none (Data.cls (ClassData.mk q48 [vr 167] [vr 188,vr 167,y12] 187 q48 true [] [] false none false)) (A [sr 172,none,some (vs q48 393),some (vs q48 401),some y18,some vT])
def c4_189:=m8 188
def c4_190:=m9 188
def c4_193:=m12 P 423 q29 330 425 q49 424 427 47 426 q35 434 204 435 205
def c4_195:=m13 49 203
def c4_196:=m0 q49 418 419 420 47 194 195 421 422
def c4_197:=m1 196 193 q29 330
def c4_200:=m3 q25 431
def c4_202:=m4 q35 q51 (M 11 0)
def c4_203:=m5 q35 428 q51 429 430 49 1 198 199 200 201 202 432 433
def c4_204:=m6 q35 q51 (M 11 0) q29 330 203
def c4_206:=m15 P 423 q29 330 427 47 426 q35 434 204 435 205 436
def c4_207:=Obj.mk y9 none (Data.cls (ClassData.mk q49 [vr 167] [vr 207,vr 167,y12] 206 q49 true [] [] false none false)) (A [sr 191,none,some (vs q49 416),some (vs q49 424),some y18,some vT])
def c4_208:=m8 207
def c4_209:=m9 207
def tc4_:=nd (boot_o_0 P) (nd (boot_o_1 P) (nd (c4_3 P) (nd (boot_o_7 P) (nd a11 (nd c2_31 (nd c1_63 (l1 c3_127) (l1 c4_172)) (nd a11 (l1 a12) .nil)) (nd c0_35 (nd c1_79 (l1 c3_143) (l1 c4_207)) (nd a11 (l1 a11) .nil))) (nd c0_23 (nd a12 (nd c1_71 (l1 c3_135) (l1 a12)) (nd c2_103 (l1 c4_167) .nil)) (nd a12 (nd (c2_87 P) (l1 a11) .nil) (nd (c2_119 P) (l1 c4_183) .nil)))) (nd a11 (nd c0_19 (nd c0_35 (nd c0_23 (l1 a12) (l1 c4_195)) (nd c2_99 (l1 c3_163) .nil)) (nd c1_51 (nd c1_83 (l1 a11) .nil) (nd c2_115 (l1 a11) .nil))) (nd c0_27 (nd (c0_43 P) (nd c1_75 (l1 c3_139) (l1 c4_203)) (nd a11 (l1 c3_171) .nil)) (nd c1_59 (nd c2_91 (l1 c3_155) .nil) (nd a11 (l1 (c4_187 P)) .nil))))) (nd (boot_o_5 P) (nd (boot_o_9 P) (nd c0_17 (nd c0_33 (nd c1_65 (l1 c3_129) (l1 (c4_193 P))) (nd c2_97 (l1 a11) .nil)) (nd (c1_49 P) (nd (c1_81 P) (l1 a12) (l1 c4_209)) (nd c2_113 (l1 c4_177) .nil))) (nd a11 (nd c0_41 (nd a11 (l1 a11) (l1 a11)) (nd c0_23 (l1 c3_169) .nil)) (nd a11 (nd c2_89 (l1 c3_153) .nil) (nd c2_121 (l1 c4_185) .nil)))) (nd a13 (nd c0_21 (nd (c0_37 P) (nd a11 (l1 a11) (l1 c4_197)) (nd c2_101 (l1 c3_165) .nil)) (nd c1_53 (nd c0_35 (l1 c3_149) .nil) (nd c2_117 (l1 c4_181) .nil))) (nd a11 (nd c0_45 (nd c1_77 (l1 c3_141) (l1 a11)) (nd c2_109 (l1 c0_23) .nil)) (nd c1_61 (nd a12 (l1 c3_157) .nil) (nd (c3_125 P) (l1 c4_189) .nil)))))) (nd (boot_o_2 P) (nd (boot_o_4 P) (nd (boot_o_8 P) (nd a12 (nd c0_32 (nd c1_64 (l1 c3_128) (l1 c0_23)) (nd c2_96 (l1 c3_160) .nil)) (nd c0_23 (nd c1_80 (l1 a11) (l1 c4_208)) (nd a12 (l1 c4_176) .nil))) (nd (c0_24 P) (nd c0_40 (nd c1_72 (l1 c3_136) (l1 c4_200)) (nd c0_35 (l1 c3_168) .nil)) (nd c1_56 (nd a11 (l1 a12) .nil) (nd c2_120 (l1 c4_184) .nil)))) (nd c4_12 (nd c0_20 (nd c0_23 (nd (c1_68 P) (l1 c3_132) (l1 c4_196)) (nd (c2_100 P) (l1 c3_164) .nil)) (nd c1_52 (nd c1_84 (l1 c3_148) .nil) (nd c2_116 (l1 a12) .nil))) (nd c0_28 (nd c0_44 (nd a11 (l1 a11) (l1 c4_204)) (nd c2_108 (l1 c4_172) .nil)) (nd c1_60 (nd a11 (l1 c3_156) .nil) (nd c0_23 (l1 c4_188) .nil))))) (nd (boot_o_6 P) (nd (boot_o_10 P) (nd a11 (nd c0_34 (nd c0_35 (l1 a11) (l1 a11)) (nd c2_98 (l1 c3_162) .nil)) (nd a11 (nd c1_82 (l1 c3_146) .nil) (nd a11 (l1 c4_178) .nil))) (nd a12 (nd a11 (nd a12 (l1 a12) (l1 c4_202)) (nd (c2_106 P) (l1 c3_170) .nil)) (nd c1_58 (nd c2_90 (l1 a11) .nil) (nd c2_122 (l1 a11) .nil)))) (nd a14 (nd c0_22 (nd a11 (nd c1_70 (l1 c3_134) (l1 a11)) (nd c2_102 (l1 (c3_166 P)) .nil)) (nd a11 (nd c0_23 (l1 c3_150) .nil) (nd c2_118 (l1 a11) .nil))) (nd (c0_30 P) (nd c0_46 (nd c1_78 (l1 c3_142) (l1 (c4_206 P))) (nd c2_110 (l1 (c4_174 P)) .nil)) (nd (c1_62 P) (nd c2_94 (l1 a11) .nil) (nd a11 (l1 c4_190) .nil))))))
def c5_3:=Obj.mk y3 none (Data.dict (A [de P q3 165 (vs q52 462),de P q5 166 vn,de P q6 167 vn,de P q7 168 y4,de P q8 169 vn,de P q9 170 (vr 6),de P q10 171 (vr 4),de P q11 173 (vs q1 172),de P q12 174 vn,de P q13 193 (vr 21),de P q14 213 (vr 31),de P q15 229 (vr 44),de P q22 254 (vr 63),de P q23 279 (vr 82),de P q30 304 (vr 101),de P q31 329 (vr 120),de P q34 392 (vr 167),de P q48 415 (vr 188),de P q49 438 (vr 207),de P q53 461 (vr 226),de P q54 465 (vi 400 464),de P q55 467 (vi 2000 466),de P q56 469 (vi 2000 468),de P q57 471 (vi 8 470),de P q58 473 (vi 100000 472),de P q59 475 (vi 32 474),de P q60 477 (vi 37 476),de P q61 479 (vi 126 478),de P q62 486 (vr 235),de P q63 492 (vr 240),de P q64 500 (vr 247)]) 31) E
def c5_12:=Obj.mk vn none (Data.fields (A [vi 1 0,vi 0 0,vr 20,vi 5 0,vi 0 0,vr 27,vi 7 0,vi 0 0,vr 40,vi 9 0,vi 0 0,vr 52,vi 13 0,vi 0 0,vr 71,vi 17 0,vi 0 0,vr 90,vi 21 0,vi 0 0,vr 109,vi 26 0,vi 0 0,vr 128,vi 43 0,vi 0 0,vr 177,vi 47 0,vi 0 0,vr 196,vi 51 0,vi 0 0,vr 215,vi 64 0,vi 0 0,vr 234,vi 66 0,vi 0 0,vr 239,vi 76 0,vi 0 0,vr 246])) E
def c5_167:=Obj.mk y9 none (Data.cls (ClassData.mk q34 [y12] [vr 167,y12] 166 q34 true [] [vr 188,vr 207,vr 226] false none false)) (A [none,none,some (vs q34 332),some (vs q34 340),some y18,some vT])
def c5_212:=m12 P 446 q29 330 448 q53 447 450 51 449 q35 457 223 458 224
def c5_214:=m13 53 222
def c5_215:=m0 q53 441 442 443 51 213 214 444 445
def c5_216:=m1 215 212 q29 330
def c5_219:=m3 q25 454
def c5_221:=m4 q35 q65 (M 12 0)
def c5_222:=m5 q35 451 q65 452 453 53 1 217 218 219 220 221 455 456
def c5_223:=m6 q35 q65 (M 12 0) q29 330 222
def c5_225:=m15 P 446 q29 330 450 51 449 q35 457 223 458 224 459
def c5_226:=Obj.mk y9 none (Data.cls (ClassData.mk q53 [vr 167] [vr 226,vr 167,y12] 225 q53 true [] [] false none false)) (A [sr 210,none,some (vs q53 439),some (vs q53 447),some y18,some vT])
def c5_227:=m8 226
def c5_228:=m9 226
def c5_231:=m3 q66 483
def c5_233:=m4 q62 q62 (B 22)
def c5_234:=m5 q62 480 q62 481 482 64 1 229 230 231 232 233 484 485
def c5_235:=m6 q62 q62 (B 22) q52 462 234
def c5_238:=m4 q63 q63 (B 23)
def m18 (x0 : Str) (x1 : Nat) (x2 : Nat) (x3 : Nat) (x4 : Int) (x5 : Nat) (x6 : Nat) (x7 : Nat) (x8 : Int) (x9 : Nat):=Obj.mk y1 none (Data.fields (A [vs x0 x1,vs x0 x2,vs q1 x3,vi x4 0,vi 1 0,vi 0 0,vi 0 0,vi 3 0,vr x5,vT,vi 181 0,vr x6,vn,vn,vn,vr x7,vi x8 0,vi x4 0,vs q1 x9])) E
def c5_239:=m18 q63 487 488 489 66 236 237 238 490 491
def c5_240:=m6 q63 q63 (B 23) q52 462 239
def c5_243:=m14 q67 496 q68 497
def c5_245:=m4 q64 q64 (B 24)
def c5_246:=m5 q64 493 q64 494 495 76 1 241 242 243 244 245 498 499
def c5_247:=m6 q64 q64 (B 24) q52 462 246
def tc5_:=nd (boot_o_0 P) (nd (boot_o_1 P) (nd (c5_3 P) (nd (boot_o_7 P) (nd a11 (nd c2_31 (nd c1_63 (l1 c3_127) (l1 c4_172)) (nd a11 (l1 a12) (l1 c5_223))) (nd c0_35 (nd c1_79 (l1 c3_143) (l1 c4_207)) (nd a11 (l1 a11) (l1 c5_239)))) (nd c0_23 (nd a12 (nd c1_71 (l1 c3_135) (l1 a12)) (nd c2_103 (l1 c5_167) (l1 c5_231))) (nd a12 (nd (c2_87 P) (l1 a11) (l1 c5_215)) (nd (c2_119 P) (l1 c4_183) (l1 c5_247))))) (nd a11 (nd c0_19 (nd c0_35 (nd c0_23 (l1 a12) (l1 c4_195)) (nd c2_99 (l1 c3_163) (l1 c5_227))) (nd c1_51 (nd c1_83 (l1 a11) (l1 c0_23)) (nd c2_115 (l1 a11) (l1 c5_243)))) (nd c0_27 (nd (c0_43 P) (nd c1_75 (l1 c3_139) (l1 c4_203)) (nd a11 (l1 c3_171) (l1 c5_235))) (nd c1_59 (nd c2_91 (l1 c3_155) (l1 c5_219)) (nd a11 (l1 (c4_187 P)) .nil))))) (nd (boot_o_5 P) (nd (boot_o_9 P) (nd c0_17 (nd c0_33 (nd c1_65 (l1 c3_129) (l1 (c4_193 P))) (nd c2_97 (l1 a11) (l1 (c5_225 P)))) (nd (c1_49 P) (nd (c1_81 P) (l1 a12) (l1 c4_209)) (nd c2_113 (l1 c4_177) (l1 a11)))) (nd a11 (nd c0_41 (nd a11 (l1 a11) (l1 a11)) (nd c0_23 (l1 c3_169) (l1 c5_233))) (nd a11 (nd c2_89 (l1 c3_153) (l1 a11)) (nd c2_121 (l1 c4_185) .nil)))) (nd a13 (nd c0_21 (nd (c0_37 P) (nd a11 (l1 a11) (l1 c4_197)) (nd c2_101 (l1 c3_165) (l1 a11))) (nd c1_53 (nd c0_35 (l1 c3_149) (l1 a11)) (nd c2_117 (l1 c4_181) (l1 c5_245)))) (nd a11 (nd c0_45 (nd c1_77 (l1 c3_141) (l1 a11)) (nd c2_109 (l1 c0_23) (l1 a12))) (nd c1_61 (nd a12 (l1 c3_157) (l1 c5_221)) (nd (c3_125 P) (l1 c4_189) .nil)))))) (nd (boot_o_2 P) (nd (boot_o_4 P) (nd (boot_o_8 P) (nd a12 (nd c0_32 (nd c1_64 (l1 c3_128) (l1 c0_23)) (nd c2_96 (l1 c3_160) (l1 a11))) (nd c0_23 (nd c1_80 (l1 a11) (l1 c4_208)) (nd a12 (l1 c4_176) (l1 c5_240)))) (nd (c0_24 P) (nd c0_40 (nd c1_72 (l1 c3_136) (l1 c4_200)) (nd c0_35 (l1 c3_168) (l1 a11))) (nd c1_56 (nd a11 (l1 a12) (l1 c5_216)) (nd c2_120 (l1 c4_184) .nil)))) (nd c5_12 (nd c0_20 (nd c0_23 (nd (c1_68 P) (l1 c3_132) (l1 c4_196)) (nd (c2_100 P) (l1 c3_164) (l1 c5_228))) (nd c1_52 (nd c1_84 (l1 c3_148) (l1 (c5_212 P))) (nd c2_116 (l1 a12) (l1 a11)))) (nd c0_28 (nd c0_44 (nd a11 (l1 a11) (l1 c4_204)) (nd c2_108 (l1 c4_172) (l1 a11))) (nd c1_60 (nd a11 (l1 c3_156) (l1 a11)) (nd c0_23 (l1 c4_188) .nil))))) (nd (boot_o_6 P) (nd (boot_o_10 P) (nd a11 (nd c0_34 (nd c0_35 (l1 a11) (l1 a11)) (nd c2_98 (l1 c3_162) (l1 c5_226))) (nd a11 (nd c1_82 (l1 c3_146) (l1 c4_172)) (nd a11 (l1 c4_178) (l1 a12)))) (nd a12 (nd a11 (nd a12 (l1 a12) (l1 c4_202)) (nd (c2_106 P) (l1 c3_170) (l1 c5_234))) (nd c1_58 (nd c2_90 (l1 a11) (l1 a12)) (nd c2_122 (l1 a11) .nil)))) (nd a14 (nd c0_22 (nd a11 (nd c1_70 (l1 c3_134) (l1 a11)) (nd c2_102 (l1 (c3_166 P)) (l1 a12))) (nd a11 (nd c0_23 (l1 c3_150) (l1 c5_214)) (nd c2_118 (l1 a11) (l1 c5_246)))) (nd (c0_30 P) (nd c0_46 (nd c1_78 (l1 c3_142) (l1 (c4_206 P))) (nd c2_110 (l1 (c4_174 P)) (l1 c5_238))) (nd (c1_62 P) (nd c2_94 (l1 a11) (l1 c5_222)) (nd a11 (l1 c4_190) .nil))))))
def c6_3:=Obj.mk y3 none (Data.dict (A [de P q3 165 (vs q69 584),de P q5 166 vn,de P q6 167 vn,de P q7 168 y4,de P q8 169 vn,de P q9 170 (vr 6),de P q10 171 (vr 4),de P q11 173 (vs q1 172),de P q12 174 vn,de P q13 193 (vr 21),de P q14 213 (vr 31),de P q15 229 (vr 44),de P q22 254 (vr 63),de P q23 279 (vr 82),de P q30 304 (vr 101),de P q31 329 (vr 120),de P q34 392 (vr 167),de P q48 415 (vr 188),de P q49 438 (vr 207),de P q53 461 (vr 226),de P q54 465 (vi 400 464),de P q55 467 (vi 2000 466),de P q56 469 (vi 2000 468),de P q57 471 (vi 8 470),de P q58 473 (vi 100000 472),de P q59 475 (vi 32 474),de P q60 477 (vi 37 476),de P q61 479 (vi 126 478),de P q62 486 (vr 235),de P q63 492 (vr 240),de P q64 500 (vr 247),de P q70 583 (vr 306),de P q71 587 (vi 40 586)]) 33) E
def c6_12:=Obj.mk vn none (Data.fields (A [vi 1 0,vi 0 0,vr 20,vi 5 0,vi 0 0,vr 27,vi 7 0,vi 0 0,vr 40,vi 9 0,vi 0 0,vr 52,vi 13 0,vi 0 0,vr 71,vi 17 0,vi 0 0,vr 90,vi 21 0,vi 0 0,vr 109,vi 26 0,vi 0 0,vr 128,vi 43 0,vi 0 0,vr 177,vi 47 0,vi 0 0,vr 196,vi 51 0,vi 0 0,vr 215,vi 64 0,vi 0 0,vr 234,vi 66 0,vi 0 0,vr 239,vi 76 0,vi 0 0,vr 246,vi 79 0,vi 0 0,vr 253])) E
def c6_250:=Obj.mk y3 none (Data.dict (A [de P q17 508 (vs q52 462),de P q18 510 (vs q70 509),de P q19 512 (vi 79 511),de P q24 520 (vr 261),de P q72 528 (vr 268),de P q73 537 (vr 275),de P q74 546 (vr 282),de P q75 554 (vr 289),de P q76 563 (vr 296),de P q77 573 (vr 303),de P q20 576 (vr 304)]) 11) E
def c6_252:=Obj.mk vn none (Data.fields (A [vi 81 0,vi 4 0,vr 260,vi 85 0,vi 4 0,vr 267,vi 91 0,vi 4 0,vr 274,vi 101 0,vi 4 0,vr 281,vi 115 0,vi 4 0,vr 288,vi 121 0,vi 4 0,vr 295,vi 134 0,vi 4 0,vr 302])) E
def c6_253:=m0 q70 503 504 505 79 251 252 506 507
def c6_254:=m1 253 250 q52 462
def c6_257:=m14 q25 516 q78 517
def c6_259:=m4 q24 q79 (M 25 0)
def c6_260:=m5 q24 513 q79 514 515 81 2 255 256 257 258 259 518 519
def c6_261:=m6 q24 q79 (M 25 0) q52 462 260
def c6_264:=m14 q25 524 q67 525
def c6_266:=m4 q72 q80 (M 25 1)
def c6_267:=m5 q72 521 q80 522 523 85 2 262 263 264 265 266 526 527
def c6_268:=m6 q72 q80 (M 25 1) q52 462 267
def c6_271:=m16 q25 532 q81 533 q68 534
def c6_273:=m4 q73 q82 (M 25 2)
def c6_274:=m5 q73 529 q82 530 531 91 2 269 270 271 272 273 535 536
def c6_275:=m6 q73 q82 (M 25 2) q52 462 274
def c6_278:=m16 q25 541 q81 542 q83 543
def c6_280:=m4 q74 q84 (M 25 3)
def c6_281:=m5 q74 538 q84 539 540 101 2 276 277 278 279 280 544 545
def c6_282:=m6 q74 q84 (M 25 3) q52 462 281
def c6_285:=m14 q25 550 q68 551
def c6_287:=m4 q75 q85 (M 25 4)
def c6_288:=m5 q75 547 q85 548 549 115 1 283 284 285 286 287 552 553
def c6_289:=m6 q75 q85 (M 25 4) q52 462 288
def c6_292:=m16 q25 558 q86 559 q87 560
def c6_294:=m4 q76 q88 (M 25 5)
def c6_295:=m5 q76 555 q88 556 557 121 1 290 291 292 293 294 561 562
def c6_296:=m6 q76 q88 (M 25 5) q52 462 295
def m19 (x0 : Str) (x1 : Nat) (x2 : Str) (x3 : Nat) (x4 : Str) (x5 : Nat) (x6 : Str) (x7 : Nat):=Obj.mk y0 none (Data.seq (A [vs x0 x1,vs x2 x3,vs x4 x5,vs x6 x7]) 0) E
def c6_299:=m19 q25 567 q89 568 q90 569 q91 570
def c6_301:=m4 q77 q92 (M 25 6)
def c6_302:=m5 q77 564 q92 565 566 134 2 297 298 299 300 301 571 572
def c6_303:=m6 q77 q92 (M 25 6) q52 462 302
def c6_304:=m14 q93 574 q78 575
def c6_305:=Obj.mk y3 none (Data.dict (A [de P q17 508 (vs q52 462),de P q19 512 (vi 79 511),de P q24 520 (vr 261),de P q72 528 (vr 268),de P q73 537 (vr 275),de P q74 546 (vr 282),de P q75 554 (vr 289),de P q76 563 (vr 296),de P q77 573 (vr 303),de P q20 576 (vr 304),de P q47 578 (vr 307),de P q21 580 (vr 308),de P q5 581 vn]) 4) E
def c6_306:=Obj.mk y9 none (Data.cls (ClassData.mk q70 [y12] [vr 306,y12] 305 q70 true [] [] false none false)) (A [none,none,some (vs q70 501),some (vs q70 509),some y18,some vT])
def c6_307:=m17 577 306
def c6_308:=m7 579 306
def c6_309:=m8 306
def c6_310:=m9 306
def u1:=nd c2_115 (nd a11 (l1 c6_307) .nil) (l1 c5_243)
def u2:=nd c2_113 (nd c4_177 (l1 (c6_305 P)) .nil) (l1 a11)
def u3:=nd c2_117 (nd c4_181 (l1 c6_309) .nil) (l1 c5_245)
def u4:=nd a12 (nd c4_176 (l1 c6_304) .nil) (l1 c5_240)
def u5:=nd c2_116 (nd a12 (l1 c6_308) .nil) (l1 a11)
def u6:=nd a11 (nd c4_178 (l1 c6_306) .nil) (l1 a12)
def u7:=nd c2_118 (nd a11 (l1 c6_310) .nil) (l1 c5_246)
def tc6_:=nd (boot_o_0 P) (nd (boot_o_1 P) (nd (c6_3 P) (nd (boot_o_7 P) (nd a11 (nd c2_31 (nd c1_63 (nd c3_127 (l1 a11) .nil) (l1 c4_172)) (nd a11 (nd a12 (l1 c6_287) .nil) (l1 c5_223))) (nd c0_35 (nd c1_79 (nd c3_143 (l1 c6_271) .nil) (l1 c4_207)) (nd a11 (nd a11 (l1 c6_303) .nil) (l1 c5_239)))) (nd c0_23 (nd a12 (nd c1_71 (nd c3_135 (l1 a12) .nil) (l1 a12)) (nd c2_103 (nd c5_167 (l1 c6_295) .nil) (l1 c5_231))) (nd a12 (nd (c2_87 P) (nd a11 (l1 a11) .nil) (l1 c5_215)) (nd (c2_119 P) (l1 c4_183) (l1 c5_247))))) (nd a11 (nd c0_19 (nd c0_35 (nd c0_23 (nd a12 (l1 c6_259) .nil) (l1 c4_195)) (nd c2_99 (nd c3_163 (l1 a12) .nil) (l1 c5_227))) (nd c1_51 (nd c1_83 (nd a11 (l1 c6_275) .nil) (l1 c0_23)) u1)) (nd c0_27 (nd (c0_43 P) (nd c1_75 (nd c3_139 (l1 c6_267) .nil) (l1 c4_203)) (nd a11 (nd c3_171 (l1 c6_299) .nil) (l1 c5_235))) (nd c1_59 (nd c2_91 (nd c3_155 (l1 a11) .nil) (l1 c5_219)) (nd a11 (l1 (c4_187 P)) (l1 a11)))))) (nd (boot_o_5 P) (nd (boot_o_9 P) (nd c0_17 (nd c0_33 (nd c1_65 (nd c3_129 (l1 c6_257) .nil) (l1 (c4_193 P))) (nd c2_97 (nd a11 (l1 c6_289) .nil) (l1 (c5_225 P)))) (nd (c1_49 P) (nd (c1_81 P) (nd a12 (l1 c6_273) .nil) (l1 c4_209)) (u2 P))) (nd a11 (nd c0_41 (nd a11 (nd a11 (l1 a11) .nil) (l1 a11)) (nd c0_23 (nd c3_169 (l1 a11) .nil) (l1 c5_233))) (nd a11 (nd c2_89 (nd c3_153 (l1 c6_281) .nil) (l1 a11)) (nd c2_121 (l1 c4_185) (l1 c0_23))))) (nd a13 (nd c0_21 (nd (c0_37 P) (nd a11 (nd a11 (l1 c6_261) .nil) (l1 c4_197)) (nd c2_101 (nd c3_165 (l1 a11) .nil) (l1 a11))) (nd c1_53 (nd c0_35 (nd c3_149 (l1 a12) .nil) (l1 a11)) u3)) (nd a11 (nd c0_45 (nd c1_77 (nd c3_141 (l1 a11) .nil) (l1 a11)) (nd c2_109 (nd c0_23 (l1 c6_301) .nil) (l1 a12))) (nd c1_61 (nd a12 (nd c3_157 (l1 c6_285) .nil) (l1 c5_221)) (nd (c3_125 P) (l1 c4_189) (l1 c6_253))))))) (nd (boot_o_2 P) (nd (boot_o_4 P) (nd (boot_o_8 P) (nd a12 (nd c0_32 (nd c1_64 (nd c3_128 (l1 a12) .nil) (l1 c0_23)) (nd c2_96 (nd c3_160 (l1 c6_288) .nil) (l1 a11))) (nd c0_23 (nd c1_80 (nd a11 (l1 a11) .nil) (l1 c4_208)) u4)) (nd (c0_24 P) (nd c0_40 (nd c1_72 (nd c3_136 (l1 c6_264) .nil) (l1 c4_200)) (nd c0_35 (nd c3_168 (l1 c6_296) .nil) (l1 a11))) (nd c1_56 (nd a11 (nd a12 (l1 c6_280) .nil) (l1 c5_216)) (nd c2_120 (l1 c4_184) (l1 a11))))) (nd c6_12 (nd c0_20 (nd c0_23 (nd (c1_68 P) (nd c3_132 (l1 c6_260) .nil) (l1 c4_196)) (nd (c2_100 P) (nd c3_164 (l1 c6_292) .nil) (l1 c5_228))) (nd c1_52 (nd c1_84 (nd c3_148 (l1 a11) .nil) (l1 (c5_212 P))) u5)) (nd c0_28 (nd c0_44 (nd a11 (nd a11 (l1 c6_268) .nil) (l1 c4_204)) (nd c2_108 (nd c4_172 (l1 a11) .nil) (l1 a11))) (nd c1_60 (nd a11 (nd c3_156 (l1 a12) .nil) (l1 a11)) (nd c0_23 (l1 c4_188) (l1 c6_252)))))) (nd (boot_o_6 P) (nd (boot_o_10 P) (nd a11 (nd c0_34 (nd c0_35 (nd a11 (l1 a11) .nil) (l1 a11)) (nd c2_98 (nd c3_162 (l1 a11) .nil) (l1 c5_226))) (nd a11 (nd c1_82 (nd c3_146 (l1 c6_274) .nil) (l1 c4_172)) u6)) (nd a12 (nd a11 (nd a12 (nd a12 (l1 c6_266) .nil) (l1 c4_202)) (nd (c2_106 P) (nd c3_170 (l1 a12) .nil) (l1 c5_234))) (nd c1_58 (nd c2_90 (nd a11 (l1 c6_282) .nil) (l1 a12)) (nd c2_122 (l1 a11) (l1 (c6_250 P)))))) (nd a14 (nd c0_22 (nd a11 (nd c1_70 (nd c3_134 (l1 a11) .nil) (l1 a11)) (nd c2_102 (nd (c3_166 P) (l1 c6_294) .nil) (l1 a12))) (nd a11 (nd c0_23 (nd c3_150 (l1 c6_278) .nil) (l1 c5_214)) u7)) (nd (c0_30 P) (nd c0_46 (nd c1_78 (nd c3_142 (l1 a12) .nil) (l1 (c4_206 P))) (nd c2_110 (nd (c4_174 P) (l1 c6_302) .nil) (l1 c5_238))) (nd (c1_62 P) (nd c2_94 (nd a11 (l1 a11) .nil) (l1 c5_222)) (nd a11 (l1 c4_190) (l1 c6_254)))))))
def c7_3:=Obj.mk y3 none (Data.dict (A [de P q3 165 (vs q69 584),de P q5 166 vn,de P q6 167 vn,de P q7 168 y4,de P q8 169 vn,de P q9 170 (vr 6),de P q10 171 (vr 4),de P q11 173 (vs q1 172),de P q12 174 vn,de P q13 193 (vr 21),de P q14 213 (vr 31),de P q15 229 (vr 44),de P q22 254 (vr 63),de P q23 279 (vr 82),de P q30 304 (vr 101),de P q31 329 (vr 120),de P q34 392 (vr 167),de P q48 415 (vr 188),de P q49 438 (vr 207),de P q53 461 (vr 226),de P q54 465 (vi 400 464),de P q55 467 (vi 2000 466),de P q56 469 (vi 2000 468),de P q57 471 (vi 8 470),de P q58 473 (vi 100000 472),de P q59 475 (vi 32 474),de P q60 477 (vi 37 476),de P q61 479 (vi 126 478),de P q62 486 (vr 235),de P q63 492 (vr 240),de P q64 500 (vr 247),de P q70 583 (vr 306),de P q71 587 (vi 40 586),de P q94 609 (vr 311),de P q95 674 (vr 363)]) 35) E
def c7_12:=Obj.mk vn none (Data.fields (A [vi 1 0,vi 0 0,vr 20,vi 5 0,vi 0 0,vr 27,vi 7 0,vi 0 0,vr 40,vi 9 0,vi 0 0,vr 52,vi 13 0,vi 0 0,vr 71,vi 17 0,vi 0 0,vr 90,vi 21 0,vi 0 0,vr 109,vi 26 0,vi 0 0,vr 128,vi 43 0,vi 0 0,vr 177,vi 47 0,vi 0 0,vr 196,vi 51 0,vi 0 0,vr 215,vi 64 0,vi 0 0,vr 234,vi 66 0,vi 0 0,vr 239,vi 76 0,vi 0 0,vr 246,vi 79 0,vi 0 0,vr 253,vi 146 0,vi 0 0,vr 317])) E
def c7_311:=Obj.mk y3 none (Data.dict (A [de P q96 588 (vs q97 589),de P q98 590 (vs q97 591),de P q99 592 (vs q100 593),de P q101 594 (vs q97 595),de P q102 596 (vs q103 597),de P q104 598 (vs q105 599),de P q106 600 (vs q105 601)]) 7) E
def c7_314:=Obj.mk y3 none (Data.dict (A [de P q17 617 (vs q69 584),de P q18 619 (vs q95 618),de P q19 621 (vi 146 620),de P q107 628 (vr 325),de P q108 635 (vr 332),de P q109 644 (vr 339),de P q110 652 (vr 346),de P q111 659 (vr 353),de P q112 666 (vr 360),de P q20 667 (vr 361)]) 10) E
def c7_316:=Obj.mk vn none (Data.fields (A [vi 148 0,vi 4 0,vr 324,vi 151 0,vi 4 0,vr 331,vi 154 0,vi 4 0,vr 338,vi 157 0,vi 4 0,vr 345,vi 160 0,vi 4 0,vr 352,vi 163 0,vi 4 0,vr 359])) E
def c7_317:=m0 q95 612 613 614 146 315 316 615 616
def c7_318:=m1 317 314 q69 584
def c7_321:=m3 q25 625
def c7_323:=m4 q107 q113 (M 29 0)
def c7_324:=m5 q107 622 q113 623 624 148 1 319 320 321 322 323 626 627
def c7_325:=m6 q107 q113 (M 29 0) q69 584 324
def c7_328:=m3 q25 632
def c7_330:=m4 q108 q114 (M 29 1)
def c7_331:=m5 q108 629 q114 630 631 151 1 326 327 328 329 330 633 634
def c7_332:=m6 q108 q114 (M 29 1) q69 584 331
def c7_335:=m16 q25 639 q115 640 q116 641
def c7_337:=m4 q109 q117 (M 29 2)
def c7_338:=m5 q109 636 q117 637 638 154 3 333 334 335 336 337 642 643
def c7_339:=m6 q109 q117 (M 29 2) q69 584 338
def c7_342:=m14 q25 648 q116 649
def c7_344:=m4 q110 q118 (M 29 3)
def c7_345:=m5 q110 645 q118 646 647 157 2 340 341 342 343 344 650 651
def c7_346:=m6 q110 q118 (M 29 3) q69 584 345
def c7_349:=m3 q25 656
def c7_351:=m4 q111 q119 (M 29 4)
def c7_352:=m5 q111 653 q119 654 655 160 1 347 348 349 350 351 657 658
def c7_353:=m6 q111 q119 (M 29 4) q69 584 352
def c7_356:=m3 q25 663
def c7_358:=m4 q112 q120 (M 29 5)
def c7_359:=m5 q112 660 q120 661 662 163 1 354 355 356 357 358 664 665
def c7_360:=m6 q112 q120 (M 29 5) q69 584 359
def c7_362:=Obj.mk y3 none (Data.dict (A [de P q17 617 (vs q69 584),de P q19 621 (vi 146 620),de P q107 628 (vr 325),de P q108 635 (vr 332),de P q109 644 (vr 339),de P q110 652 (vr 346),de P q111 659 (vr 353),de P q112 666 (vr 360),de P q20 667 (vr 361),de P q47 669 (vr 364),de P q21 671 (vr 365),de P q5 672 vn]) 4) E
def c7_363:=Obj.mk y9 none (Data.cls (ClassData.mk q95 [y12] [vr 363,y12] 362 q95 true [] [] false none false)) (A [none,none,some (vs q95 610),some (vs q95 618),some y18,some vT])
def c7_364:=m17 668 363
def c7_365:=m7 670 363
def c7_366:=m8 363
def c7_367:=m9 363
def u8:=nd a11 (nd a12 (l1 c6_287) .nil) (nd c5_223 (l1 c7_351) .nil)
def u9:=nd a11 (nd a11 (l1 c6_303) .nil) (nd c5_239 (l1 c7_367) .nil)
def u10:=nd c0_35 (nd c1_79 (nd c3_143 (l1 c6_271) .nil) (nd c4_207 (l1 c7_335) .nil)) u9
def u11:=nd c2_103 (nd c5_167 (l1 c6_295) .nil) (nd c5_231 (l1 c7_359) .nil)
def u12:=nd (c2_87 P) (nd a11 (l1 a11) .nil) (nd c5_215 (l1 a11) .nil)
def u13:=nd c2_99 (nd c3_163 (l1 a12) .nil) (nd c5_227 (l1 a12) .nil)
def u14:=nd c1_83 (nd a11 (l1 c6_275) .nil) (nd c0_23 (l1 c7_339) .nil)
def u15:=nd c1_75 (nd c3_139 (l1 c6_267) .nil) (nd c4_203 (l1 c7_331) .nil)
def u16:=nd c2_91 (nd c3_155 (l1 a11) .nil) (nd c5_219 (l1 a11) .nil)
def u17:=nd c2_97 (nd a11 (l1 c6_289) .nil) (nd (c5_225 P) (l1 c7_353) .nil)
def u18:=nd (c1_81 P) (nd a12 (l1 c6_273) .nil) (nd c4_209 (l1 c7_337) .nil)
def u19:=nd c0_23 (nd c3_169 (l1 a11) .nil) (nd c5_233 (l1 a11) .nil)
def u20:=nd c2_89 (nd c3_153 (l1 c6_281) .nil) (nd a11 (l1 c7_345) .nil)
def u21:=nd c2_101 (nd c3_165 (l1 a11) .nil) (nd a11 (l1 a11) .nil)
def u22:=nd c0_35 (nd c3_149 (l1 a12) .nil) (nd a11 (l1 a12) .nil)
def u23:=nd c2_109 (nd c0_23 (l1 c6_301) .nil) (nd a12 (l1 c7_365) .nil)
def u24:=nd c0_45 (nd c1_77 (nd c3_141 (l1 a11) .nil) (nd a11 (l1 a11) .nil)) u23
def u25:=nd a12 (nd c3_157 (l1 c6_285) .nil) (nd c5_221 (l1 c7_349) .nil)
def u26:=nd c2_96 (nd c3_160 (l1 c6_288) .nil) (nd a11 (l1 c7_352) .nil)
def u27:=nd c1_80 (nd a11 (l1 a11) .nil) (nd c4_208 (l1 a11) .nil)
def u28:=nd c0_35 (nd c3_168 (l1 c6_296) .nil) (nd a11 (l1 c7_360) .nil)
def u29:=nd a11 (nd a12 (l1 c6_280) .nil) (nd c5_216 (l1 c7_344) .nil)
def u30:=nd (c2_100 P) (nd c3_164 (l1 c6_292) .nil) (nd c5_228 (l1 c7_356) .nil)
def u31:=nd c1_84 (nd c3_148 (l1 a11) .nil) (nd (c5_212 P) (l1 a11) .nil)
def u32:=nd c2_108 (nd c4_172 (l1 a11) .nil) (nd a11 (l1 c7_364) .nil)
def u33:=nd c0_44 (nd a11 (nd a11 (l1 c6_268) .nil) (nd c4_204 (l1 c7_332) .nil)) u32
def u34:=nd a11 (nd c3_156 (l1 a12) .nil) (nd a11 (l1 a12) .nil)
def u35:=nd c2_98 (nd c3_162 (l1 a11) .nil) (nd c5_226 (l1 a11) .nil)
def u36:=nd c1_82 (nd c3_146 (l1 c6_274) .nil) (nd c4_172 (l1 c7_338) .nil)
def u37:=nd a11 (nd a12 (nd a12 (l1 c6_266) .nil) (nd c4_202 (l1 c7_330) .nil)) (nd (c2_106 P) (nd c3_170 (l1 a12) .nil) (nd c5_234 (l1 (c7_362 P)) .nil))
def u38:=nd c2_90 (nd a11 (l1 c6_282) .nil) (nd a12 (l1 c7_346) .nil)
def u39:=nd c2_102 (nd (c3_166 P) (l1 c6_294) .nil) (nd a12 (l1 c7_358) .nil)
def u40:=nd c0_23 (nd c3_150 (l1 c6_278) .nil) (nd c5_214 (l1 c7_342) .nil)
def u41:=nd c2_110 (nd (c4_174 P) (l1 c6_302) .nil) (nd c5_238 (l1 c7_366) .nil)
def u42:=nd c0_46 (nd c1_78 (nd c3_142 (l1 a12) .nil) (nd (c4_206 P) (l1 a12) .nil)) (u41 P)
def u43:=nd c2_94 (nd a11 (l1 a11) .nil) (nd c5_222 (l1 a11) .nil)
def tc7_:=nd (boot_o_0 P) (nd (boot_o_1 P) (nd (c7_3 P) (nd (boot_o_7 P) (nd a11 (nd c2_31 (nd c1_63 (nd c3_127 (l1 a11) .nil) (nd c4_172 (l1 a11) .nil)) u8) u10) (nd c0_23 (nd a12 (nd c1_71 (nd c3_135 (l1 a12) .nil) (nd a12 (l1 a12) .nil)) u11) (nd a12 (u12 P) (nd (c2_119 P) (nd c4_183 (l1 (c7_311 P)) .nil) (l1 c5_247))))) (nd a11 (nd c0_19 (nd c0_35 (nd c0_23 (nd a12 (l1 c6_259) .nil) (nd c4_195 (l1 c7_323) .nil)) u13) (nd c1_51 u14 u1)) (nd c0_27 (nd (c0_43 P) u15 (nd a11 (nd c3_171 (l1 c6_299) .nil) (nd c5_235 (l1 c7_363) .nil))) (nd c1_59 u16 (nd a11 (nd (c4_187 P) (l1 a11) .nil) (l1 a11)))))) (nd (boot_o_5 P) (nd (boot_o_9 P) (nd c0_17 (nd c0_33 (nd c1_65 (nd c3_129 (l1 c6_257) .nil) (nd (c4_193 P) (l1 c7_321) .nil)) (u17 P)) (nd (c1_49 P) (u18 P) (u2 P))) (nd a11 (nd c0_41 (nd a11 (nd a11 (l1 a11) .nil) (nd a11 (l1 a11) .nil)) u19) (nd a11 u20 (nd c2_121 (nd c4_185 (l1 c0_23) .nil) (l1 c0_23))))) (nd a13 (nd c0_21 (nd (c0_37 P) (nd a11 (nd a11 (l1 c6_261) .nil) (nd c4_197 (l1 c7_325) .nil)) u21) (nd c1_53 u22 u3)) (nd a11 u24 (nd c1_61 u25 (nd (c3_125 P) (nd c4_189 (l1 c7_317) .nil) (l1 c6_253))))))) (nd (boot_o_2 P) (nd (boot_o_4 P) (nd (boot_o_8 P) (nd a12 (nd c0_32 (nd c1_64 (nd c3_128 (l1 a12) .nil) (nd c0_23 (l1 a12) .nil)) u26) (nd c0_23 u27 u4)) (nd (c0_24 P) (nd c0_40 (nd c1_72 (nd c3_136 (l1 c6_264) .nil) (nd c4_200 (l1 c7_328) .nil)) u28) (nd c1_56 u29 (nd c2_120 (nd c4_184 (l1 a11) .nil) (l1 a11))))) (nd c7_12 (nd c0_20 (nd c0_23 (nd (c1_68 P) (nd c3_132 (l1 c6_260) .nil) (nd c4_196 (l1 c7_324) .nil)) (u30 P)) (nd c1_52 (u31 P) u5)) (nd c0_28 u33 (nd c1_60 u34 (nd c0_23 (nd c4_188 (l1 c7_316) .nil) (l1 c6_252)))))) (nd (boot_o_6 P) (nd (boot_o_10 P) (nd a11 (nd c0_34 (nd c0_35 (nd a11 (l1 a11) .nil) (nd a11 (l1 a11) .nil)) u35) (nd a11 u36 u6)) (nd a12 (u37 P) (nd c1_58 u38 (nd c2_122 (nd a11 (l1 (c7_314 P)) .nil) (l1 (c6_250 P)))))) (nd a14 (nd c0_22 (nd a11 (nd c1_70 (nd c3_134 (l1 a11) .nil) (nd a11 (l1 a11) .nil)) (u39 P)) (nd a11 u40 u7)) (nd (c0_30 P) (u42 P) (nd (c1_62 P) u43 (nd a11 (nd c4_190 (l1 c7_318) .nil) (l1 c6_254)))))))
def c8_3:=Obj.mk y3 none (Data.dict (A [de P q3 165 (vs q69 584),de P q5 166 vn,de P q6 167 vn,de P q7 168 y4,de P q8 169 vn,de P q9 170 (vr 6),de P q10 171 (vr 4),de P q11 173 (vs q1 172),de P q12 174 vn,de P q13 193 (vr 21),de P q14 213 (vr 31),de P q15 229 (vr 44),de P q22 254 (vr 63),de P q23 279 (vr 82),de P q30 304 (vr 101),de P q31 329 (vr 120),de P q34 392 (vr 167),de P q48 415 (vr 188),de P q49 438 (vr 207),de P q53 461 (vr 226),de P q54 465 (vi 400 464),de P q55 467 (vi 2000 466),de P q56 469 (vi 2000 468),de P q57 471 (vi 8 470),de P q58 473 (vi 100000 472),de P q59 475 (vi 32 474),de P q60 477 (vi 37 476),de P q61 479 (vi 126 478),de P q62 486 (vr 235),de P q63 492 (vr 240),de P q64 500 (vr 247),de P q70 583 (vr 306),de P q71 587 (vi 40 586),de P q94 609 (vr 311),de P q95 674 (vr 363),de P q121 708 (vr 391)]) 36) E
def c8_12:=Obj.mk vn none (Data.fields (A [vi 1 0,vi 0 0,vr 20,vi 5 0,vi 0 0,vr 27,vi 7 0,vi 0 0,vr 40,vi 9 0,vi 0 0,vr 52,vi 13 0,vi 0 0,vr 71,vi 17 0,vi 0 0,vr 90,vi 21 0,vi 0 0,vr 109,vi 26 0,vi 0 0,vr 128,vi 43 0,vi 0 0,vr 177,vi 47 0,vi 0 0,vr 196,vi 51 0,vi 0 0,vr 215,vi 64 0,vi 0 0,vr 234,vi 66 0,vi 0 0,vr 239,vi 76 0,vi 0 0,vr 246,vi 79 0,vi 0 0,vr 253,vi 146 0,vi 0 0,vr 317,vi 165 0,vi 0 0,vr 373])) E
def c8_363:=Obj.mk y9 none (Data.cls (ClassData.mk q95 [y12] [vr 363,y12] 362 q95 true [] [vr 391] false none false)) (A [none,none,some (vs q95 610),some (vs q95 618),some y18,some vT])
def c8_368:=m10 363
def c8_370:=Obj.mk y3 none (Data.dict (A [de P q17 682 (vs q69 584),de P q18 684 (vs q121 683),de P q19 686 (vi 165 685),de P q24 695 (vr 381),de P q107 702 (vr 388),de P q20 705 (vr 389)]) 6) E
def c8_372:=Obj.mk vn none (Data.fields (A [vi 167 0,vi 4 0,vr 380,vi 171 0,vi 4 0,vr 387])) E
def c8_373:=m0 q121 677 678 679 165 371 372 680 681
def c8_374:=m1 373 370 q69 584
def c8_377:=m16 q25 690 q122 691 q123 692
def c8_379:=m4 q24 q124 (M 30 0)
def c8_380:=m5 q24 687 q124 688 689 167 3 375 376 377 378 379 693 694
def c8_381:=m6 q24 q124 (M 30 0) q69 584 380
def c8_384:=m3 q25 699
def c8_386:=m4 q107 q125 (M 30 1)
def c8_387:=m5 q107 696 q125 697 698 171 1 382 383 384 385 386 700 701
def c8_388:=m6 q107 q125 (M 30 1) q69 584 387
def c8_389:=m14 q123 703 q122 704
def c8_390:=Obj.mk y3 none (Data.dict (A [de P q17 682 (vs q69 584),de P q19 686 (vi 165 685),de P q24 695 (vr 381),de P q107 702 (vr 388),de P q20 705 (vr 389),de P q5 706 vn]) 2) E
def c8_391:=Obj.mk y9 none (Data.cls (ClassData.mk q121 [vr 363] [vr 391,vr 363,y12] 390 q121 true [] [] false none false)) (A [sr 368,none,some (vs q121 675),some (vs q121 683),some y18,some vT])
def c8_392:=m8 391
def c8_393:=m9 391
def u44:=nd c1_63 (nd c3_127 (l1 a11) (l1 a12)) (nd c4_172 (l1 a11) .nil)
def u45:=nd (c2_119 P) (nd c4_183 (l1 (c7_311 P)) .nil) (nd c5_247 (l1 a11) .nil)
def u46:=nd c0_23 (nd a12 (l1 c6_259) (l1 c8_387)) (nd c4_195 (l1 c7_323) .nil)
def u47:=nd c2_115 (nd a11 (l1 c6_307) .nil) (nd c5_243 (l1 a11) .nil)
def u48:=nd a11 (nd c3_171 (l1 c6_299) .nil) (nd c5_235 (l1 c8_363) .nil)
def u49:=nd a11 (nd (c4_187 P) (l1 a11) .nil) (nd a11 (l1 c8_379) .nil)
def u50:=nd c1_65 (nd c3_129 (l1 c6_257) (l1 a11)) (nd (c4_193 P) (l1 c7_321) .nil)
def u51:=nd c2_113 (nd c4_177 (l1 (c6_305 P)) .nil) (nd a11 (l1 c0_23) .nil)
def u52:=nd a11 (nd a11 (l1 a11) (l1 c8_393)) (nd a11 (l1 a11) .nil)
def u53:=nd c2_121 (nd c4_185 (l1 c0_23) .nil) (nd c0_23 (l1 c8_377) .nil)
def u54:=nd a11 (nd a11 (l1 c6_261) (l1 c8_389)) (nd c4_197 (l1 c7_325) .nil)
def u55:=nd c2_117 (nd c4_181 (l1 c6_309) .nil) (nd c5_245 (l1 c8_373) .nil)
def u56:=nd (c3_125 P) (nd c4_189 (l1 c7_317) .nil) (nd c6_253 (l1 c8_381) .nil)
def u57:=nd c1_64 (nd c3_128 (l1 a12) (l1 c8_384)) (nd c0_23 (l1 a12) .nil)
def u58:=nd a12 (nd c4_176 (l1 c6_304) .nil) (nd c5_240 (l1 c8_368) .nil)
def u59:=nd c1_72 (nd c3_136 (l1 c6_264) (l1 c8_392)) (nd c4_200 (l1 c7_328) .nil)
def u60:=nd c2_120 (nd c4_184 (l1 a11) .nil) (nd a11 (l1 a12) .nil)
def u61:=nd (c1_68 P) (nd c3_132 (l1 c6_260) (l1 c8_388)) (nd c4_196 (l1 c7_324) .nil)
def u62:=nd c2_116 (nd a12 (l1 c6_308) .nil) (nd a11 (l1 c8_372) .nil)
def u63:=nd c0_23 (nd c4_188 (l1 c7_316) .nil) (nd c6_252 (l1 c8_380) .nil)
def u64:=nd c0_35 (nd a11 (l1 a11) (l1 c8_386)) (nd a11 (l1 a11) .nil)
def u65:=nd a11 (nd c4_178 (l1 c6_306) .nil) (nd a12 (l1 (c8_370 P)) .nil)
def u66:=nd c2_122 (nd a11 (l1 (c7_314 P)) .nil) (nd (c6_250 P) (l1 a11) .nil)
def u67:=nd c1_70 (nd c3_134 (l1 a11) (l1 (c8_390 P))) (nd a11 (l1 a11) .nil)
def u68:=nd c2_118 (nd a11 (l1 c6_310) .nil) (nd c5_246 (l1 c8_374) .nil)
def u69:=nd a11 (nd c4_190 (l1 c7_318) .nil) (nd c6_254 (l1 a11) .nil)
def tc8_:=nd (boot_o_0 P) (nd (boot_o_1 P) (nd (c8_3 P) (nd (boot_o_7 P) (nd a11 (nd c2_31 u44 u8) u10) (nd c0_23 (nd a12 (nd c1_71 (nd c3_135 (l1 a12) (l1 c8_391)) (nd a12 (l1 a12) .nil)) u11) (nd a12 (u12 P) (u45 P)))) (nd a11 (nd c0_19 (nd c0_35 u46 u13) (nd c1_51 u14 u47)) (nd c0_27 (nd (c0_43 P) u15 u48) (nd c1_59 u16 (u49 P))))) (nd (boot_o_5 P) (nd (boot_o_9 P) (nd c0_17 (nd c0_33 (u50 P) (u17 P)) (nd (c1_49 P) (u18 P) (u51 P))) (nd a11 (nd c0_41 u52 u19) (nd a11 u20 u53))) (nd a13 (nd c0_21 (nd (c0_37 P) u54 u21) (nd c1_53 u22 u55)) (nd a11 u24 (nd c1_61 u25 (u56 P)))))) (nd (boot_o_2 P) (nd (boot_o_4 P) (nd (boot_o_8 P) (nd a12 (nd c0_32 u57 u26) (nd c0_23 u27 u58)) (nd (c0_24 P) (nd c0_40 u59 u28) (nd c1_56 u29 u60))) (nd c8_12 (nd c0_20 (nd c0_23 (u61 P) (u30 P)) (nd c1_52 (u31 P) u62)) (nd c0_28 u33 (nd c1_60 u34 u63)))) (nd (boot_o_6 P) (nd (boot_o_10 P) (nd a11 (nd c0_34 u64 u35) (nd a11 u36 (u65 P))) (nd a12 (u37 P) (nd c1_58 u38 (u66 P)))) (nd a14 (nd c0_22 (nd a11 (u67 P) (u39 P)) (nd a11 u40 u68)) (nd (c0_30 P) (u42 P) (nd (c1_62 P) u43 u69)))))
def c9_3:=Obj.mk y3 none (Data.dict (A [de P q3 165 (vs q69 584),de P q5 166 vn,de P q6 167 vn,de P q7 168 y4,de P q8 169 vn,de P q9 170 (vr 6),de P q10 171 (vr 4),de P q11 173 (vs q1 172),de P q12 174 vn,de P q13 193 (vr 21),de P q14 213 (vr 31),de P q15 229 (vr 44),de P q22 254 (vr 63),de P q23 279 (vr 82),de P q30 304 (vr 101),de P q31 329 (vr 120),de P q34 392 (vr 167),de P q48 415 (vr 188),de P q49 438 (vr 207),de P q53 461 (vr 226),de P q54 465 (vi 400 464),de P q55 467 (vi 2000 466),de P q56 469 (vi 2000 468),de P q57 471 (vi 8 470),de P q58 473 (vi 100000 472),de P q59 475 (vi 32 474),de P q60 477 (vi 37 476),de P q61 479 (vi 126 478),de P q62 486 (vr 235),de P q63 492 (vr 240),de P q64 500 (vr 247),de P q70 583 (vr 306),de P q71 587 (vi 40 586),de P q94 609 (vr 311),de P q95 674 (vr 363),de P q121 708 (vr 391),de P q126 747 (vr 424)]) 37) E
def c9_12:=Obj.mk vn none (Data.fields (A [vi 1 0,vi 0 0,vr 20,vi 5 0,vi 0 0,vr 27,vi 7 0,vi 0 0,vr 40,vi 9 0,vi 0 0,vr 52,vi 13 0,vi 0 0,vr 71,vi 17 0,vi 0 0,vr 90,vi 21 0,vi 0 0,vr 109,vi 26 0,vi 0 0,vr 128,vi 43 0,vi 0 0,vr 177,vi 47 0,vi 0 0,vr 196,vi 51 0,vi 0 0,vr 215,vi 64 0,vi 0 0,vr 234,vi 66 0,vi 0 0,vr 239,vi 76 0,vi 0 0,vr 246,vi 79 0,vi 0 0,vr 253,vi 146 0,vi 0 0,vr 317,vi 165 0,vi 0 0,vr 373,vi 173 0,vi 0 0,vr 399])) E
def c9_391:=Obj.mk y9 none (Data.cls (ClassData.mk q121 [vr 363] [vr 391,vr 363,y12] 390 q121 true [] [vr 424] false none false)) (A [sr 368,none,some (vs q121 675),some (vs q121 683),some y18,some vT])
def c9_394:=m10 391
def m20 (x0 : Nat) (x1 : Nat) (x2 : Str) (x3 : Nat) (x4 : Nat) (x5 : Int) (x6 : Nat) (x7 : Str) (x8 : Nat) (x9 : Nat) (x10 : Nat) (x11 : Nat) (x12 : Nat) (x13 : Nat) (x14 : Nat) (x15 : Nat):=Obj.mk y3 none (Data.dict (A [de P q17 x0 (vs q69 584),de P q18 x1 (vs x2 x3),de P q19 x4 (vi x5 x6),de P x7 x8 (vr x9),de P q109 x10 (vr x11),de P q112 x12 (vr x13),de P q20 x14 (vr x15)]) 7) E
def c9_396:=m20 P 716 718 q126 717 720 173 719 q108 727 407 736 414 743 421 744 422
def c9_398:=m2 175 4 406 178 413 181 420
def c9_399:=m0 q126 711 712 713 173 397 398 714 715
def c9_400:=m1 399 396 q69 584
def c9_403:=m3 q25 724
def c9_405:=m4 q108 q127 (M 31 0)
def c9_406:=m5 q108 721 q127 722 723 175 1 401 402 403 404 405 725 726
def c9_407:=m6 q108 q127 (M 31 0) q69 584 406
def c9_410:=m16 q25 731 q115 732 q116 733
def c9_412:=m4 q109 q128 (M 31 1)
def c9_413:=m5 q109 728 q128 729 730 178 3 408 409 410 411 412 734 735
def c9_414:=m6 q109 q128 (M 31 1) q69 584 413
def c9_417:=m3 q25 740
def c9_419:=m4 q112 q129 (M 31 2)
def c9_420:=m5 q112 737 q129 738 739 181 1 415 416 417 418 419 741 742
def c9_421:=m6 q112 q129 (M 31 2) q69 584 420
def m21 (x0 : Nat) (x1 : Nat) (x2 : Int) (x3 : Nat) (x4 : Str) (x5 : Nat) (x6 : Nat) (x7 : Nat) (x8 : Nat) (x9 : Nat) (x10 : Nat) (x11 : Nat) (x12 : Nat) (x13 : Nat):=Obj.mk y3 none (Data.dict (A [de P q17 x0 (vs q69 584),de P q19 x1 (vi x2 x3),de P x4 x5 (vr x6),de P q109 x7 (vr x8),de P q112 x9 (vr x10),de P q20 x11 (vr x12),de P q5 x13 vn]) 2) E
def c9_423:=m21 P 716 720 173 719 q108 727 407 736 414 743 421 744 422 745
def c9_424:=Obj.mk y9 none (Data.cls (ClassData.mk q126 [vr 391] [vr 424,vr 391,vr 363,y12] 423 q126 true [] [] false none false)) (A [sr 394,none,some (vs q126 709),some (vs q126 717),some y18,some vT])
def c9_425:=m8 424
def c9_426:=m9 424
def u70:=nd a11 (nd a12 (l1 c6_287) (l1 a11)) (nd c5_223 (l1 c7_351) .nil)
def u71:=nd c1_79 (nd c3_143 (l1 c6_271) (l1 c9_399)) (nd c4_207 (l1 c7_335) .nil)
def u72:=nd c2_103 (nd c5_167 (l1 c6_295) (l1 (c9_423 P))) (nd c5_231 (l1 c7_359) .nil)
def u73:=nd (c2_87 P) (nd a11 (l1 a11) (l1 c9_407)) (nd c5_215 (l1 a11) .nil)
def u74:=nd c2_99 (nd c3_163 (l1 a12) (l1 c9_419)) (nd c5_227 (l1 a12) .nil)
def u75:=nd c1_83 (nd a11 (l1 c6_275) (l1 c9_403)) (nd c0_23 (l1 c7_339) .nil)
def u76:=nd c2_91 (nd c3_155 (l1 a11) (l1 a11)) (nd c5_219 (l1 a11) .nil)
def u77:=nd c2_97 (nd a11 (l1 c6_289) (l1 c9_417)) (nd (c5_225 P) (l1 c7_353) .nil)
def u78:=nd (c1_81 P) (nd a12 (l1 c6_273) (l1 a11)) (nd c4_209 (l1 c7_337) .nil)
def u79:=nd c0_23 (nd c3_169 (l1 a11) (l1 c9_425)) (nd c5_233 (l1 a11) .nil)
def u80:=nd c2_89 (nd c3_153 (l1 c6_281) (l1 a12)) (nd a11 (l1 c7_345) .nil)
def u81:=nd c2_101 (nd c3_165 (l1 a11) (l1 c9_421)) (nd a11 (l1 a11) .nil)
def u82:=nd c0_35 (nd c3_149 (l1 a12) (l1 c9_405)) (nd a11 (l1 a12) .nil)
def u83:=nd c1_77 (nd c3_141 (l1 a11) (l1 a11)) (nd a11 (l1 a11) .nil)
def u84:=nd a12 (nd c3_157 (l1 c6_285) (l1 c9_413)) (nd c5_221 (l1 c7_349) .nil)
def u85:=nd c2_96 (nd c3_160 (l1 c6_288) (l1 a12)) (nd a11 (l1 c7_352) .nil)
def u86:=nd c1_80 (nd a11 (l1 a11) (l1 c9_400)) (nd c4_208 (l1 a11) .nil)
def u87:=nd c0_35 (nd c3_168 (l1 c6_296) (l1 c9_424)) (nd a11 (l1 c7_360) .nil)
def u88:=nd a11 (nd a12 (l1 c6_280) (l1 a11)) (nd c5_216 (l1 c7_344) .nil)
def u89:=nd (c2_100 P) (nd c3_164 (l1 c6_292) (l1 c9_420)) (nd c5_228 (l1 c7_356) .nil)
def u90:=nd c1_84 (nd c3_148 (l1 a11) (l1 a11)) (nd (c5_212 P) (l1 a11) .nil)
def u91:=nd a11 (nd a11 (l1 c6_268) (l1 (c9_396 P))) (nd c4_204 (l1 c7_332) .nil)
def u92:=nd a11 (nd c3_156 (l1 a12) (l1 c9_412)) (nd a11 (l1 a12) .nil)
def u93:=nd c2_98 (nd c3_162 (l1 a11) (l1 a11)) (nd c5_226 (l1 a11) .nil)
def u94:=nd c1_82 (nd c3_146 (l1 c6_274) (l1 a12)) (nd c4_172 (l1 c7_338) .nil)
def u95:=nd (c2_106 P) (nd c3_170 (l1 a12) (l1 c9_426)) (nd c5_234 (l1 (c7_362 P)) .nil)
def u96:=nd c2_90 (nd a11 (l1 c6_282) (l1 c9_410)) (nd a12 (l1 c7_346) .nil)
def u97:=nd c2_102 (nd (c3_166 P) (l1 c6_294) (l1 a11)) (nd a12 (l1 c7_358) .nil)
def u98:=nd c0_23 (nd c3_150 (l1 c6_278) (l1 c9_406)) (nd c5_214 (l1 c7_342) .nil)
def u99:=nd c1_78 (nd c3_142 (l1 a12) (l1 c9_398)) (nd (c4_206 P) (l1 a12) .nil)
def u100:=nd c2_94 (nd a11 (l1 a11) (l1 c9_414)) (nd c5_222 (l1 a11) .nil)
def tc9_:=nd (boot_o_0 P) (nd (boot_o_1 P) (nd (c9_3 P) (nd (boot_o_7 P) (nd a11 (nd c2_31 u44 u70) (nd c0_35 u71 u9)) (nd c0_23 (nd a12 (nd c1_71 (nd c3_135 (l1 a12) (l1 c9_391)) (nd a12 (l1 a12) .nil)) (u72 P)) (nd a12 (u73 P) (u45 P)))) (nd a11 (nd c0_19 (nd c0_35 u46 u74) (nd c1_51 u75 u47)) (nd c0_27 (nd (c0_43 P) (nd c1_75 (nd c3_139 (l1 c6_267) (l1 c0_23)) (nd c4_203 (l1 c7_331) .nil)) u48) (nd c1_59 u76 (u49 P))))) (nd (boot_o_5 P) (nd (boot_o_9 P) (nd c0_17 (nd c0_33 (u50 P) (u77 P)) (nd (c1_49 P) (u78 P) (u51 P))) (nd a11 (nd c0_41 u52 u79) (nd a11 u80 u53))) (nd a13 (nd c0_21 (nd (c0_37 P) u54 u81) (nd c1_53 u82 u55)) (nd a11 (nd c0_45 u83 u23) (nd c1_61 u84 (u56 P)))))) (nd (boot_o_2 P) (nd (boot_o_4 P) (nd (boot_o_8 P) (nd a12 (nd c0_32 u57 u85) (nd c0_23 u86 u58)) (nd (c0_24 P) (nd c0_40 u59 u87) (nd c1_56 u88 u60))) (nd c9_12 (nd c0_20 (nd c0_23 (u61 P) (u89 P)) (nd c1_52 (u90 P) u62)) (nd c0_28 (nd c0_44 (u91 P) u32) (nd c1_60 u92 u63)))) (nd (boot_o_6 P) (nd (boot_o_10 P) (nd a11 (nd c0_34 u64 u93) (nd a11 u94 (u65 P))) (nd a12 (nd a11 (nd a12 (nd a12 (l1 c6_266) (l1 c9_394)) (nd c4_202 (l1 c7_330) .nil)) (u95 P)) (nd c1_58 u96 (u66 P)))) (nd a14 (nd c0_22 (nd a11 (u67 P) (u97 P)) (nd a11 u98 u68)) (nd (c0_30 P) (nd c0_46 (u99 P) (u41 P)) (nd (c1_62 P) u100 u69)))))
def c10_3:=Obj.mk y3 none (Data.dict (A [de P q3 165 (vs q69 584),de P q5 166 vn,de P q6 167 vn,de P q7 168 y4,de P q8 169 vn,de P q9 170 (vr 6),de P q10 171 (vr 4),de P q11 173 (vs q1 172),de P q12 174 vn,de P q13 193 (vr 21),de P q14 213 (vr 31),de P q15 229 (vr 44),de P q22 254 (vr 63),de P q23 279 (vr 82),de P q30 304 (vr 101),de P q31 329 (vr 120),de P q34 392 (vr 167),de P q48 415 (vr 188),de P q49 438 (vr 207),de P q53 461 (vr 226),de P q54 465 (vi 400 464),de P q55 467 (vi 2000 466),de P q56 469 (vi 2000 468),de P q57 471 (vi 8 470),de P q58 473 (vi 100000 472),de P q59 475 (vi 32 474),de P q60 477 (vi 37 476),de P q61 479 (vi 126 478),de P q62 486 (vr 235),de P q63 492 (vr 240),de P q64 500 (vr 247),de P q70 583 (vr 306),de P q71 587 (vi 40 586),de P q94 609 (vr 311),de P q95 674 (vr 363),de P q121 708 (vr 391),de P q126 747 (vr 424),de P q130 786 (vr 457)]) 38) E
def c10_12:=Obj.mk vn none (Data.fields (A [vi 1 0,vi 0 0,vr 20,vi 5 0,vi 0 0,vr 27,vi 7 0,vi 0 0,vr 40,vi 9 0,vi 0 0,vr 52,vi 13 0,vi 0 0,vr 71,vi 17 0,vi 0 0,vr 90,vi 21 0,vi 0 0,vr 109,vi 26 0,vi 0 0,vr 128,vi 43 0,vi 0 0,vr 177,vi 47 0,vi 0 0,vr 196,vi 51 0,vi 0 0,vr 215,vi 64 0,vi 0 0,vr 234,vi 66 0,vi 0 0,vr 239,vi 76 0,vi 0 0,vr 246,vi 79 0,vi 0 0,vr 253,vi 146 0,vi 0 0,vr 317,vi 165 0,vi 0 0,vr 373,vi 173 0,vi 0 0,vr 399,vi 183 0,vi 0 0,vr 432])) E
def c10_391:=Obj.mk y9 none (Data.cls (ClassData.mk q121 [vr 363] [vr 391,vr 363,y12] 390 q121 true [] [vr 424,vr 457] false none false)) (A [sr 368,none,some (vs q121 675),some (vs q121 683),some y18,some vT])
def c10_429:=m20 P 755 757 q130 756 759 183 758 q108 766 440 775 447 782 454 783 455
def c10_431:=m2 185 4 439 188 446 191 453
def c10_432:=m0 q130 750 751 752 183 430 431 753 754
def c10_433:=m1 432 429 q69 584
def c10_436:=m3 q25 763
def c10_438:=m4 q108 q131 (M 32 0)
def c10_439:=m5 q108 760 q131 761 762 185 1 434 435 436 437 438 764 765
def c10_440:=m6 q108 q131 (M 32 0) q69 584 439
def c10_443:=m16 q25 770 q115 771 q116 772
def c10_445:=m4 q109 q132 (M 32 1)
def c10_446:=m5 q109 767 q132 768 769 188 3 441 442 443 444 445 773 774
def c10_447:=m6 q109 q132 (M 32 1) q69 584 446
def c10_450:=m3 q25 779
def c10_452:=m4 q112 q133 (M 32 2)
def c10_453:=m5 q112 776 q133 777 778 191 1 448 449 450 451 452 780 781
def c10_454:=m6 q112 q133 (M 32 2) q69 584 453
def c10_456:=m21 P 755 759 183 758 q108 766 440 775 447 782 454 783 455 784
def c10_457:=Obj.mk y9 none (Data.cls (ClassData.mk q130 [vr 391] [vr 457,vr 391,vr 363,y12] 456 q130 true [] [] false none false)) (A [sr 427,none,some (vs q130 748),some (vs q130 756),some y18,some vT])
def c10_458:=m8 457
def c10_459:=m9 457
def u101:=nd c1_63 (nd c3_127 (l1 a11) (l1 a12)) (nd c4_172 (l1 a11) (l1 c10_447))
def u102:=nd c1_71 (nd c3_135 (l1 a12) (l1 c10_391)) (nd a12 (l1 a12) (l1 a11))
def u103:=nd c0_23 (nd a12 (l1 c6_259) (l1 c8_387)) (nd c4_195 (l1 c7_323) (l1 a11))
def u104:=nd c1_75 (nd c3_139 (l1 c6_267) (l1 c0_23)) (nd c4_203 (l1 c7_331) (l1 c10_459))
def u105:=nd a11 (nd (c4_187 P) (l1 a11) (l1 c10_443)) (nd a11 (l1 c8_379) .nil)
def u106:=nd c1_65 (nd c3_129 (l1 c6_257) (l1 a11)) (nd (c4_193 P) (l1 c7_321) (l1 a12))
def u107:=nd a11 (nd a11 (l1 a11) (l1 c8_393)) (nd a11 (l1 a11) (l1 c10_457))
def u108:=nd a11 (nd a11 (l1 c6_261) (l1 c8_389)) (nd c4_197 (l1 c7_325) (l1 c10_453))
def u109:=nd (c3_125 P) (nd c4_189 (l1 c7_317) (l1 c10_445)) (nd c6_253 (l1 c8_381) .nil)
def u110:=nd c1_64 (nd c3_128 (l1 a12) (l1 c8_384)) (nd c0_23 (l1 a12) (l1 a11))
def u111:=nd c1_72 (nd c3_136 (l1 c6_264) (l1 c8_392)) (nd c4_200 (l1 c7_328) (l1 (c10_456 P)))
def u112:=nd (c1_68 P) (nd c3_132 (l1 c6_260) (l1 c8_388)) (nd c4_196 (l1 c7_324) (l1 c10_452))
def u113:=nd c0_23 (nd c4_188 (l1 c7_316) (l1 a11)) (nd c6_252 (l1 c8_380) .nil)
def u114:=nd c0_35 (nd a11 (l1 a11) (l1 c8_386)) (nd a11 (l1 a11) (l1 c10_450))
def u115:=nd a12 (nd a12 (l1 c6_266) (l1 c9_394)) (nd c4_202 (l1 c7_330) (l1 c10_458))
def u116:=nd c1_70 (nd c3_134 (l1 a11) (l1 (c8_390 P))) (nd a11 (l1 a11) (l1 c10_454))
def u117:=nd a11 (nd c4_190 (l1 c7_318) (l1 c10_446)) (nd c6_254 (l1 a11) .nil)
def tc10_:=nd (boot_o_0 P) (nd (boot_o_1 P) (nd (c10_3 P) (nd (boot_o_7 P) (nd a11 (nd c2_31 u101 u70) (nd c0_35 u71 (nd a11 (nd a11 (l1 c6_303) (l1 c10_431)) (nd c5_239 (l1 c7_367) .nil)))) (nd c0_23 (nd a12 u102 (u72 P)) (nd a12 (u73 P) (nd (c2_119 P) (nd c4_183 (l1 (c7_311 P)) (l1 c10_439)) (nd c5_247 (l1 a11) .nil))))) (nd a11 (nd c0_19 (nd c0_35 u103 u74) (nd c1_51 u75 (nd c2_115 (nd a11 (l1 c6_307) (l1 a12)) (nd c5_243 (l1 a11) .nil)))) (nd c0_27 (nd (c0_43 P) u104 (nd a11 (nd c3_171 (l1 c6_299) (l1 c9_394)) (nd c5_235 (l1 c8_363) .nil))) (nd c1_59 u76 (u105 P))))) (nd (boot_o_5 P) (nd (boot_o_9 P) (nd c0_17 (nd c0_33 (u106 P) (u77 P)) (nd (c1_49 P) (u78 P) (nd c2_113 (nd c4_177 (l1 (c6_305 P)) (l1 c10_433)) (nd a11 (l1 c0_23) .nil)))) (nd a11 (nd c0_41 u107 u79) (nd a11 u80 (nd c2_121 (nd c4_185 (l1 c0_23) (l1 a11)) (nd c0_23 (l1 c8_377) .nil))))) (nd a13 (nd c0_21 (nd (c0_37 P) u108 u81) (nd c1_53 u82 (nd c2_117 (nd c4_181 (l1 c6_309) (l1 a11)) (nd c5_245 (l1 c8_373) .nil)))) (nd a11 (nd c0_45 u83 (nd c2_109 (nd c0_23 (l1 c6_301) (l1 (c10_429 P))) (nd a12 (l1 c7_365) .nil))) (nd c1_61 u84 (u109 P)))))) (nd (boot_o_2 P) (nd (boot_o_4 P) (nd (boot_o_8 P) (nd a12 (nd c0_32 u110 u85) (nd c0_23 u86 (nd a12 (nd c4_176 (l1 c6_304) (l1 c10_432)) (nd c5_240 (l1 c8_368) .nil)))) (nd (c0_24 P) (nd c0_40 (u111 P) u87) (nd c1_56 u88 (nd c2_120 (nd c4_184 (l1 a11) (l1 c10_440)) (nd a11 (l1 a12) .nil))))) (nd c10_12 (nd c0_20 (nd c0_23 (u112 P) (u89 P)) (nd c1_52 (u90 P) (nd c2_116 (nd a12 (l1 c6_308) (l1 c10_436)) (nd a11 (l1 c8_372) .nil)))) (nd c0_28 (nd c0_44 (u91 P) (nd c2_108 (nd c4_172 (l1 a11) (l1 c0_23)) (nd a11 (l1 c7_364) .nil))) (nd c1_60 u92 u113)))) (nd (boot_o_6 P) (nd (boot_o_10 P) (nd a11 (nd c0_34 u114 u93) (nd a11 u94 (nd a11 (nd c4_178 (l1 c6_306) (l1 a11)) (nd a12 (l1 (c8_370 P)) .nil)))) (nd a12 (nd a11 u115 (u95 P)) (nd c1_58 u96 (nd c2_122 (nd a11 (l1 (c7_314 P)) (l1 a12)) (nd (c6_250 P) (l1 a11) .nil))))) (nd a14 (nd c0_22 (nd a11 (u116 P) (u97 P)) (nd a11 u98 (nd c2_118 (nd a11 (l1 c6_310) (l1 c10_438)) (nd c5_246 (l1 c8_374) .nil)))) (nd (c0_30 P) (nd c0_46 (u99 P) (nd c2_110 (nd (c4_174 P) (l1 c6_302) (l1 a11)) (nd c5_238 (l1 c7_366) .nil))) (nd (c1_62 P) u100 u117)))))
def c11_3:=Obj.mk y3 none (Data.dict (A [de P q3 165 (vs q69 584),de P q5 166 vn,de P q6 167 vn,de P q7 168 y4,de P q8 169 vn,de P q9 170 (vr 6),de P q10 171 (vr 4),de P q11 173 (vs q1 172),de P q12 174 vn,de P q13 193 (vr 21),de P q14 213 (vr 31),de P q15 229 (vr 44),de P q22 254 (vr 63),de P q23 279 (vr 82),de P q30 304 (vr 101),de P q31 329 (vr 120),de P q34 392 (vr 167),de P q48 415 (vr 188),de P q49 438 (vr 207),de P q53 461 (vr 226),de P q54 465 (vi 400 464),de P q55 467 (vi 2000 466),de P q56 469 (vi 2000 468),de P q57 471 (vi 8 470),de P q58 473 (vi 100000 472),de P q59 475 (vi 32 474),de P q60 477 (vi 37 476),de P q61 479 (vi 126 478),de P q62 486 (vr 235),de P q63 492 (vr 240),de P q64 500 (vr 247),de P q70 583 (vr 306),de P q71 587 (vi 40 586),de P q94 609 (vr 311),de P q95 674 (vr 363),de P q121 708 (vr 391),de P q126 747 (vr 424),de P q130 786 (vr 457),de P q134 845 (vr 504)]) 39) E
def c11_12:=Obj.mk vn none (Data.fields (A [vi 1 0,vi 0 0,vr 20,vi 5 0,vi 0 0,vr 27,vi 7 0,vi 0 0,vr 40,vi 9 0,vi 0 0,vr 52,vi 13 0,vi 0 0,vr 71,vi 17 0,vi 0 0,vr 90,vi 21 0,vi 0 0,vr 109,vi 26 0,vi 0 0,vr 128,vi 43 0,vi 0 0,vr 177,vi 47 0,vi 0 0,vr 196,vi 51 0,vi 0 0,vr 215,vi 64 0,vi 0 0,vr 234,vi 66 0,vi 0 0,vr 239,vi 76 0,vi 0 0,vr 246,vi 79 0,vi 0 0,vr 253,vi 146 0,vi 0 0,vr 317,vi 165 0,vi 0 0,vr 373,vi 173 0,vi 0 0,vr 399,vi 183 0,vi 0 0,vr 432,vi 193 0,vi 0 0,vr 465])) E
def c11_363:=Obj.mk y9 none (Data.cls (ClassData.mk q95 [y12] [vr 363,y12] 362 q95 true [] [vr 391,vr 504] false none false)) (A [none,none,some (vs q95 610),some (vs q95 618),some y18,some vT])
def c11_462:=Obj.mk y3 none (Data.dict (A [de P q17 794 (vs q69 584),de P q18 796 (vs q134 795),de P q19 798 (vi 193 797),de P q24 808 (vr 473),de P q107 815 (vr 480),de P q108 822 (vr 487),de P q109 831 (vr 494),de P q112 838 (vr 501),de P q20 842 (vr 502)]) 9) E
def c11_464:=m11 195 4 472 200 479 203 486 206 493 209 500
def c11_465:=m0 q134 789 790 791 193 463 464 792 793
def c11_466:=m1 465 462 q69 584
def c11_469:=m19 q25 802 q122 803 q135 804 q136 805
def c11_471:=m4 q24 q137 (M 33 0)
def c11_472:=m5 q24 799 q137 800 801 195 4 467 468 469 470 471 806 807
def c11_473:=m6 q24 q137 (M 33 0) q69 584 472
def c11_476:=m3 q25 812
def c11_478:=m4 q107 q138 (M 33 1)
def c11_479:=m5 q107 809 q138 810 811 200 1 474 475 476 477 478 813 814
def c11_480:=m6 q107 q138 (M 33 1) q69 584 479
def c11_483:=m3 q25 819
def c11_485:=m4 q108 q139 (M 33 2)
def c11_486:=m5 q108 816 q139 817 818 203 1 481 482 483 484 485 820 821
def c11_487:=m6 q108 q139 (M 33 2) q69 584 486
def c11_490:=m16 q25 826 q115 827 q116 828
def c11_492:=m4 q109 q140 (M 33 3)
def c11_493:=m5 q109 823 q140 824 825 206 3 488 489 490 491 492 829 830
def c11_494:=m6 q109 q140 (M 33 3) q69 584 493
def c11_497:=m3 q25 835
def c11_499:=m4 q112 q141 (M 33 4)
def c11_500:=m5 q112 832 q141 833 834 209 1 495 496 497 498 499 836 837
def c11_501:=m6 q112 q141 (M 33 4) q69 584 500
def c11_502:=m16 q136 839 q135 840 q122 841
def c11_503:=Obj.mk y3 none (Data.dict (A [de P q17 794 (vs q69 584),de P q19 798 (vi 193 797),de P q24 808 (vr 473),de P q107 815 (vr 480),de P q108 822 (vr 487),de P q109 831 (vr 494),de P q112 838 (vr 501),de P q20 842 (vr 502),de P q5 843 vn]) 2) E
def c11_504:=Obj.mk y9 none (Data.cls (ClassData.mk q134 [vr 363] [vr 504,vr 363,y12] 503 q134 true [] [] false none false)) (A [sr 460,none,some (vs q134 787),some (vs q134 795),some y18,some vT])
def c11_505:=m8 504
def c11_506:=m9 504
def u118:=nd a11 (nd a11 (l1 c6_303) (l1 c10_431)) (nd c5_239 (l1 c7_367) (l1 a11))
def u119:=nd c2_103 (nd c5_167 (l1 c6_295) (l1 (c9_423 P))) (nd c5_231 (l1 c7_359) (l1 c11_487))
def u120:=nd (c2_119 P) (nd c4_183 (l1 (c7_311 P)) (l1 c10_439)) (nd c5_247 (l1 a11) (l1 (c11_503 P)))
def u121:=nd c2_99 (nd c3_163 (l1 a12) (l1 c9_419)) (nd c5_227 (l1 a12) (l1 c11_483))
def u122:=nd c2_115 (nd a11 (l1 c6_307) (l1 a12)) (nd c5_243 (l1 a11) (l1 c11_499))
def u123:=nd a11 (nd c3_171 (l1 c6_299) (l1 c9_394)) (nd c5_235 (l1 c11_363) (l1 a11))
def u124:=nd c2_113 (nd c4_177 (l1 (c6_305 P)) (l1 c10_433)) (nd a11 (l1 c0_23) (l1 c11_497))
def u125:=nd c0_23 (nd c3_169 (l1 a11) (l1 c9_425)) (nd c5_233 (l1 a11) (l1 a12))
def u126:=nd c2_121 (nd c4_185 (l1 c0_23) (l1 a11)) (nd c0_23 (l1 c8_377) (l1 c11_505))
def u127:=nd c2_101 (nd c3_165 (l1 a11) (l1 c9_421)) (nd a11 (l1 a11) (l1 c11_485))
def u128:=nd c2_117 (nd c4_181 (l1 c6_309) (l1 a11)) (nd c5_245 (l1 c8_373) (l1 c11_501))
def u129:=nd c2_109 (nd c0_23 (l1 c6_301) (l1 (c10_429 P))) (nd a12 (l1 c7_365) (l1 c11_493))
def u130:=nd a12 (nd c4_176 (l1 c6_304) (l1 c10_432)) (nd c5_240 (l1 c8_368) (l1 a12))
def u131:=nd c0_35 (nd c3_168 (l1 c6_296) (l1 c9_424)) (nd a11 (l1 c7_360) (l1 a11))
def u132:=nd c2_120 (nd c4_184 (l1 a11) (l1 c10_440)) (nd a11 (l1 a12) (l1 c11_504))
def u133:=nd (c2_100 P) (nd c3_164 (l1 c6_292) (l1 c9_420)) (nd c5_228 (l1 c7_356) (l1 a11))
def u134:=nd c2_116 (nd a12 (l1 c6_308) (l1 c10_436)) (nd a11 (l1 c8_372) (l1 c11_500))
def u135:=nd c2_108 (nd c4_172 (l1 a11) (l1 c0_23)) (nd a11 (l1 c7_364) (l1 c11_492))
def u136:=nd a11 (nd c4_178 (l1 c6_306) (l1 a11)) (nd a12 (l1 (c8_370 P)) (l1 a11))
def u137:=nd (c2_106 P) (nd c3_170 (l1 a12) (l1 c9_426)) (nd c5_234 (l1 (c7_362 P)) (l1 c11_490))
def u138:=nd c2_122 (nd a11 (l1 (c7_314 P)) (l1 a12)) (nd (c6_250 P) (l1 a11) (l1 c11_506))
def u139:=nd c2_102 (nd (c3_166 P) (l1 c6_294) (l1 a11)) (nd a12 (l1 c7_358) (l1 c11_486))
def u140:=nd c2_118 (nd a11 (l1 c6_310) (l1 c10_438)) (nd c5_246 (l1 c8_374) (l1 c11_502))
def u141:=nd c2_110 (nd (c4_174 P) (l1 c6_302) (l1 a11)) (nd c5_238 (l1 c7_366) (l1 c11_494))
def tc11_:=nd (boot_o_0 P) (nd (boot_o_1 P) (nd (c11_3 P) (nd (boot_o_7 P) (nd a11 (nd c2_31 u101 (nd a11 (nd a12 (l1 c6_287) (l1 a11)) (nd c5_223 (l1 c7_351) (l1 c11_479)))) (nd c0_35 (nd c1_79 (nd c3_143 (l1 c6_271) (l1 c9_399)) (nd c4_207 (l1 c7_335) (l1 a11))) u118)) (nd c0_23 (nd a12 u102 (u119 P)) (nd a12 (nd (c2_87 P) (nd a11 (l1 a11) (l1 c9_407)) (nd c5_215 (l1 a11) (l1 c11_471))) (u120 P)))) (nd a11 (nd c0_19 (nd c0_35 u103 u121) (nd c1_51 (nd c1_83 (nd a11 (l1 c6_275) (l1 c9_403)) (nd c0_23 (l1 c7_339) (l1 a11))) u122)) (nd c0_27 (nd (c0_43 P) u104 u123) (nd c1_59 (nd c2_91 (nd c3_155 (l1 a11) (l1 a11)) (nd c5_219 (l1 a11) (l1 a12))) (u105 P))))) (nd (boot_o_5 P) (nd (boot_o_9 P) (nd c0_17 (nd c0_33 (u106 P) (nd c2_97 (nd a11 (l1 c6_289) (l1 c9_417)) (nd (c5_225 P) (l1 c7_353) (l1 a11)))) (nd (c1_49 P) (nd (c1_81 P) (nd a12 (l1 c6_273) (l1 a11)) (nd c4_209 (l1 c7_337) (l1 c11_465))) (u124 P))) (nd a11 (nd c0_41 u107 u125) (nd a11 (nd c2_89 (nd c3_153 (l1 c6_281) (l1 a12)) (nd a11 (l1 c7_345) (l1 c11_473))) u126))) (nd a13 (nd c0_21 (nd (c0_37 P) u108 u127) (nd c1_53 (nd c0_35 (nd c3_149 (l1 a12) (l1 c9_405)) (nd a11 (l1 a12) (l1 c11_469))) u128)) (nd a11 (nd c0_45 (nd c1_77 (nd c3_141 (l1 a11) (l1 a11)) (nd a11 (l1 a11) (l1 c0_23))) (u129 P)) (nd c1_61 (nd a12 (nd c3_157 (l1 c6_285) (l1 c9_413)) (nd c5_221 (l1 c7_349) (l1 a11))) (u109 P)))))) (nd (boot_o_2 P) (nd (boot_o_4 P) (nd (boot_o_8 P) (nd a12 (nd c0_32 u110 (nd c2_96 (nd c3_160 (l1 c6_288) (l1 a12)) (nd a11 (l1 c7_352) (l1 c11_480)))) (nd c0_23 (nd c1_80 (nd a11 (l1 a11) (l1 c9_400)) (nd c4_208 (l1 a11) (l1 c11_464))) u130)) (nd (c0_24 P) (nd c0_40 (u111 P) u131) (nd c1_56 (nd a11 (nd a12 (l1 c6_280) (l1 a11)) (nd c5_216 (l1 c7_344) (l1 c11_472))) u132))) (nd c11_12 (nd c0_20 (nd c0_23 (u112 P) (u133 P)) (nd c1_52 (nd c1_84 (nd c3_148 (l1 a11) (l1 a11)) (nd (c5_212 P) (l1 a11) (l1 a12))) u134)) (nd c0_28 (nd c0_44 (nd a11 (nd a11 (l1 c6_268) (l1 (c9_396 P))) (nd c4_204 (l1 c7_332) (l1 c8_368))) u135) (nd c1_60 (nd a11 (nd c3_156 (l1 a12) (l1 c9_412)) (nd a11 (l1 a12) (l1 c11_476))) u113)))) (nd (boot_o_6 P) (nd (boot_o_10 P) (nd a11 (nd c0_34 u114 (nd c2_98 (nd c3_162 (l1 a11) (l1 a11)) (nd c5_226 (l1 a11) (l1 a12)))) (nd a11 (nd c1_82 (nd c3_146 (l1 c6_274) (l1 a12)) (nd c4_172 (l1 c7_338) (l1 c11_466))) (u136 P))) (nd a12 (nd a11 u115 (u137 P)) (nd c1_58 (nd c2_90 (nd a11 (l1 c6_282) (l1 c9_410)) (nd a12 (l1 c7_346) (l1 a11))) (u138 P)))) (nd a14 (nd c0_22 (nd a11 (u116 P) (u139 P)) (nd a11 (nd c0_23 (nd c3_150 (l1 c6_278) (l1 c9_406)) (nd c5_214 (l1 c7_342) (l1 a11))) u140)) (nd (c0_30 P) (nd c0_46 (nd c1_78 (nd c3_142 (l1 a12) (l1 c9_398)) (nd (c4_206 P) (l1 a12) (l1 (c11_462 P)))) (u141 P)) (nd (c1_62 P) (nd c2_94 (nd a11 (l1 a11) (l1 c9_414)) (nd c5_222 (l1 a11) (l1 c11_478))) u117)))))
def c12_3:=Obj.mk y3 none (Data.dict (A [de P q3 165 (vs q69 584),de P q5 166 vn,de P q6 167 vn,de P q7 168 y4,de P q8 169 vn,de P q9 170 (vr 6),de P q10 171 (vr 4),de P q11 173 (vs q1 172),de P q12 174 vn,de P q13 193 (vr 21),de P q14 213 (vr 31),de P q15 229 (vr 44),de P q22 254 (vr 63),de P q23 279 (vr 82),de P q30 304 (vr 101),de P q31 329 (vr 120),de P q34 392 (vr 167),de P q48 415 (vr 188),de P q49 438 (vr 207),de P q53 461 (vr 226),de P q54 465 (vi 400 464),de P q55 467 (vi 2000 466),de P q56 469 (vi 2000 468),de P q57 471 (vi 8 470),de P q58 473 (vi 100000 472),de P q59 475 (vi 32 474),de P q60 477 (vi 37 476),de P q61 479 (vi 126 478),de P q62 486 (vr 235),de P q63 492 (vr 240),de P q64 500 (vr 247),de P q70 583 (vr 306),de P q71 587 (vi 40 586),de P q94 609 (vr 311),de P q95 674 (vr 363),de P q121 708 (vr 391),de P q126 747 (vr 424),de P q130 786 (vr 457),de P q134 845 (vr 504),de P q142 891 (vr 544)]) 40) E
def c12_12:=Obj.mk vn none (Data.fields (A [vi 1 0,vi 0 0,vr 20,vi 5 0,vi 0 0,vr 27,vi 7 0,vi 0 0,vr 40,vi 9 0,vi 0 0,vr 52,vi 13 0,vi 0 0,vr 71,vi 17 0,vi 0 0,vr 90,vi 21 0,vi 0 0,vr 109,vi 26 0,vi 0 0,vr 128,vi 43 0,vi 0 0,vr 177,vi 47 0,vi 0 0,vr 196,vi 51 0,vi 0 0,vr 215,vi 64 0,vi 0 0,vr 234,vi 66 0,vi 0 0,vr 239,vi 76 0,vi 0 0,vr 246,vi 79 0,vi 0 0,vr 253,vi 146 0,vi 0 0,vr 317,vi 165 0,vi 0 0,vr 373,vi 173 0,vi 0 0,vr 399,vi 183 0,vi 0 0,vr 432,vi 193 0,vi 0 0,vr 465,vi 211 0,vi 0 0,vr 512])) E
def c12_391:=Obj.mk y9 none (Data.cls (ClassData.mk q121 [vr 363] [vr 391,vr 363,y12] 390 q121 true [] [vr 424,vr 457,vr 544] false none false)) (A [sr 368,none,some (vs q121 675),some (vs q121 683),some y18,some vT])
def c12_509:=Obj.mk y3 none (Data.dict (A [de P q17 853 (vs q69 584),de P q18 855 (vs q142 854),de P q19 857 (vi 211 856),de P q108 864 (vr 520),de P q109 873 (vr 527),de P q111 880 (vr 534),de P q112 887 (vr 541),de P q20 888 (vr 542)]) 8) E
def c12_511:=Obj.mk vn none (Data.fields (A [vi 213 0,vi 4 0,vr 519,vi 216 0,vi 4 0,vr 526,vi 219 0,vi 4 0,vr 533,vi 222 0,vi 4 0,vr 540])) E
def c12_512:=m0 q142 848 849 850 211 510 511 851 852
def c12_513:=m1 512 509 q69 584
def c12_516:=m3 q25 861
def c12_518:=m4 q108 q143 (M 34 0)
def c12_519:=m5 q108 858 q143 859 860 213 1 514 515 516 517 518 862 863
def c12_520:=m6 q108 q143 (M 34 0) q69 584 519
def c12_523:=m16 q25 868 q115 869 q116 870
def c12_525:=m4 q109 q144 (M 34 1)
def c12_526:=m5 q109 865 q144 866 867 216 3 521 522 523 524 525 871 872
def c12_527:=m6 q109 q144 (M 34 1) q69 584 526
def c12_530:=m3 q25 877
def c12_532:=m4 q111 q145 (M 34 2)
def c12_533:=m5 q111 874 q145 875 876 219 1 528 529 530 531 532 878 879
def c12_534:=m6 q111 q145 (M 34 2) q69 584 533
def c12_537:=m3 q25 884
def c12_539:=m4 q112 q146 (M 34 3)
def c12_540:=m5 q112 881 q146 882 883 222 1 535 536 537 538 539 885 886
def c12_541:=m6 q112 q146 (M 34 3) q69 584 540
def c12_543:=Obj.mk y3 none (Data.dict (A [de P q17 853 (vs q69 584),de P q19 857 (vi 211 856),de P q108 864 (vr 520),de P q109 873 (vr 527),de P q111 880 (vr 534),de P q112 887 (vr 541),de P q20 888 (vr 542),de P q5 889 vn]) 2) E
def c12_544:=Obj.mk y9 none (Data.cls (ClassData.mk q142 [vr 391] [vr 544,vr 391,vr 363,y12] 543 q142 true [] [] false none false)) (A [sr 507,none,some (vs q142 846),some (vs q142 854),some y18,some vT])
def c12_545:=m8 544
def c12_546:=m9 544
def u142:=nd c3_127 (nd a11 (l1 c12_511) .nil) (l1 a12)
def u143:=nd a12 (nd c6_287 (l1 (c12_543 P)) .nil) (l1 a11)
def u144:=nd a11 (u143 P) (nd c5_223 (l1 c7_351) (l1 c11_479))
def u145:=nd c3_143 (nd c6_271 (l1 c12_527) .nil) (l1 c9_399)
def u146:=nd (c2_87 P) (nd a11 (nd a11 (l1 a11) .nil) (l1 c9_407)) (nd c5_215 (l1 a11) (l1 c11_471))
def u147:=nd a12 (nd c6_259 (l1 a12) .nil) (l1 c8_387)
def u148:=nd a11 (nd c6_275 (l1 a11) .nil) (l1 c9_403)
def u149:=nd c1_83 u148 (nd c0_23 (l1 c7_339) (l1 a11))
def u150:=nd c3_139 (nd c6_267 (l1 c12_523) .nil) (l1 c0_23)
def u151:=nd c3_155 (nd a11 (l1 c12_539) .nil) (l1 a11)
def u152:=nd c2_91 u151 (nd c5_219 (l1 a11) (l1 a12))
def u153:=nd c3_129 (nd c6_257 (l1 c12_513) .nil) (l1 a11)
def u154:=nd a11 (nd c6_289 (l1 c12_545) .nil) (l1 c9_417)
def u155:=nd c2_97 u154 (nd (c5_225 P) (l1 c7_353) (l1 a11))
def u156:=nd c3_153 (nd c6_281 (l1 c12_537) .nil) (l1 a12)
def u157:=nd c2_89 u156 (nd a11 (l1 c7_345) (l1 c11_473))
def u158:=nd a11 (nd c6_261 (l1 a11) .nil) (l1 c8_389)
def u159:=nd c3_149 (nd a12 (l1 c12_533) .nil) (l1 c9_405)
def u160:=nd c0_35 u159 (nd a11 (l1 a12) (l1 c11_469))
def u161:=nd c3_141 (nd a11 (l1 c12_525) .nil) (l1 a11)
def u162:=nd c3_157 (nd c6_285 (l1 c12_541) .nil) (l1 c9_413)
def u163:=nd a12 u162 (nd c5_221 (l1 c7_349) (l1 a11))
def u164:=nd c3_128 (nd a12 (l1 c12_512) .nil) (l1 c8_384)
def u165:=nd c3_160 (nd c6_288 (l1 c12_544) .nil) (l1 a12)
def u166:=nd c2_96 u165 (nd a11 (l1 c7_352) (l1 c11_480))
def u167:=nd c3_136 (nd c6_264 (l1 c12_520) .nil) (l1 c8_392)
def u168:=nd a11 (nd a12 (nd c6_280 (l1 a12) .nil) (l1 a11)) (nd c5_216 (l1 c7_344) (l1 c11_472))
def u169:=nd c3_132 (nd c6_260 (l1 c12_516) .nil) (l1 c8_388)
def u170:=nd c3_148 (nd a11 (l1 c12_532) .nil) (l1 a11)
def u171:=nd c1_84 u170 (nd (c5_212 P) (l1 a11) (l1 a12))
def u172:=nd a11 (nd c6_268 (l1 a11) .nil) (l1 (c9_396 P))
def u173:=nd c3_156 (nd a12 (l1 c12_540) .nil) (l1 c9_412)
def u174:=nd a11 u173 (nd a11 (l1 a12) (l1 c11_476))
def u175:=nd c3_162 (nd a11 (l1 c12_546) .nil) (l1 a11)
def u176:=nd c2_98 u175 (nd c5_226 (l1 a11) (l1 a12))
def u177:=nd c3_146 (nd c6_274 (l1 c12_530) .nil) (l1 a12)
def u178:=nd c1_82 u177 (nd c4_172 (l1 c7_338) (l1 c11_466))
def u179:=nd a12 (nd c6_266 (l1 a12) .nil) (l1 c9_394)
def u180:=nd a11 (nd c6_282 (l1 a11) .nil) (l1 c9_410)
def u181:=nd c2_90 u180 (nd a12 (l1 c7_346) (l1 a11))
def u182:=nd c3_134 (nd a11 (l1 c12_518) .nil) (l1 (c8_390 P))
def u183:=nd c3_150 (nd c6_278 (l1 c12_534) .nil) (l1 c9_406)
def u184:=nd c0_23 u183 (nd c5_214 (l1 c7_342) (l1 a11))
def u185:=nd c3_142 (nd a12 (l1 c12_526) .nil) (l1 c9_398)
def u186:=nd c2_94 (nd a11 (nd a11 (l1 a11) .nil) (l1 c9_414)) (nd c5_222 (l1 a11) (l1 c11_478))
def tc12_:=nd (boot_o_0 P) (nd (boot_o_1 P) (nd (c12_3 P) (nd (boot_o_7 P) (nd a11 (nd c2_31 (nd c1_63 u142 (nd c4_172 (l1 a11) (l1 c10_447))) (u144 P)) (nd c0_35 (nd c1_79 u145 (nd c4_207 (l1 c7_335) (l1 a11))) u118)) (nd c0_23 (nd a12 (nd c1_71 (nd c3_135 (nd a12 (l1 c12_519) .nil) (l1 c12_391)) (nd a12 (l1 a12) (l1 a11))) (u119 P)) (nd a12 (u146 P) (u120 P)))) (nd a11 (nd c0_19 (nd c0_35 (nd c0_23 u147 (nd c4_195 (l1 c7_323) (l1 a11))) u121) (nd c1_51 u149 u122)) (nd c0_27 (nd (c0_43 P) (nd c1_75 u150 (nd c4_203 (l1 c7_331) (l1 c10_459))) u123) (nd c1_59 u152 (nd a11 (nd (c4_187 P) (l1 a11) (l1 c10_443)) (nd a11 (l1 c8_379) (l1 c9_394))))))) (nd (boot_o_5 P) (nd (boot_o_9 P) (nd c0_17 (nd c0_33 (nd c1_65 u153 (nd (c4_193 P) (l1 c7_321) (l1 a12))) (u155 P)) (nd (c1_49 P) (nd (c1_81 P) (nd a12 (nd c6_273 (l1 a12) .nil) (l1 a11)) (nd c4_209 (l1 c7_337) (l1 c11_465))) (u124 P))) (nd a11 (nd c0_41 (nd a11 (nd a11 (nd a11 (l1 a11) .nil) (l1 c8_393)) (nd a11 (l1 a11) (l1 c10_457))) u125) (nd a11 u157 u126))) (nd a13 (nd c0_21 (nd (c0_37 P) (nd a11 u158 (nd c4_197 (l1 c7_325) (l1 c10_453))) u127) (nd c1_53 u160 u128)) (nd a11 (nd c0_45 (nd c1_77 u161 (nd a11 (l1 a11) (l1 c0_23))) (u129 P)) (nd c1_61 u163 (nd (c3_125 P) (nd c4_189 (l1 c7_317) (l1 c10_445)) (nd c6_253 (l1 c8_381) (l1 (c12_509 P))))))))) (nd (boot_o_2 P) (nd (boot_o_4 P) (nd (boot_o_8 P) (nd a12 (nd c0_32 (nd c1_64 u164 (nd c0_23 (l1 a12) (l1 a11))) u166) (nd c0_23 (nd c1_80 (nd a11 (nd a11 (l1 a11) .nil) (l1 c9_400)) (nd c4_208 (l1 a11) (l1 c11_464))) u130)) (nd (c0_24 P) (nd c0_40 (nd c1_72 u167 (nd c4_200 (l1 c7_328) (l1 (c10_456 P)))) u131) (nd c1_56 u168 u132))) (nd c12_12 (nd c0_20 (nd c0_23 (nd (c1_68 P) u169 (nd c4_196 (l1 c7_324) (l1 c10_452))) (u133 P)) (nd c1_52 (u171 P) u134)) (nd c0_28 (nd c0_44 (nd a11 (u172 P) (nd c4_204 (l1 c7_332) (l1 c8_368))) u135) (nd c1_60 u174 (nd c0_23 (nd c4_188 (l1 c7_316) (l1 a11)) (nd c6_252 (l1 c8_380) (l1 c0_23))))))) (nd (boot_o_6 P) (nd (boot_o_10 P) (nd a11 (nd c0_34 (nd c0_35 (nd a11 (nd a11 (l1 a11) .nil) (l1 c8_386)) (nd a11 (l1 a11) (l1 c10_450))) u176) (nd a11 u178 (u136 P))) (nd a12 (nd a11 (nd a12 u179 (nd c4_202 (l1 c7_330) (l1 c10_458))) (u137 P)) (nd c1_58 u181 (u138 P)))) (nd a14 (nd c0_22 (nd a11 (nd c1_70 (u182 P) (nd a11 (l1 a11) (l1 c10_454))) (u139 P)) (nd a11 u184 u140)) (nd (c0_30 P) (nd c0_46 (nd c1_78 u185 (nd (c4_206 P) (l1 a12) (l1 (c11_462 P)))) (u141 P)) (nd (c1_62 P) u186 (nd a11 (nd c4_190 (l1 c7_318) (l1 c10_446)) (nd c6_254 (l1 a11) (l1 a11))))))))
def c13_3:=Obj.mk y3 none (Data.dict (A [de P q3 165 (vs q69 584),de P q5 166 vn,de P q6 167 vn,de P q7 168 y4,de P q8 169 vn,de P q9 170 (vr 6),de P q10 171 (vr 4),de P q11 173 (vs q1 172),de P q12 174 vn,de P q13 193 (vr 21),de P q14 213 (vr 31),de P q15 229 (vr 44),de P q22 254 (vr 63),de P q23 279 (vr 82),de P q30 304 (vr 101),de P q31 329 (vr 120),de P q34 392 (vr 167),de P q48 415 (vr 188),de P q49 438 (vr 207),de P q53 461 (vr 226),de P q54 465 (vi 400 464),de P q55 467 (vi 2000 466),de P q56 469 (vi 2000 468),de P q57 471 (vi 8 470),de P q58 473 (vi 100000 472),de P q59 475 (vi 32 474),de P q60 477 (vi 37 476),de P q61 479 (vi 126 478),de P q62 486 (vr 235),de P q63 492 (vr 240),de P q64 500 (vr 247),de P q70 583 (vr 306),de P q71 587 (vi 40 586),de P q94 609 (vr 311),de P q95 674 (vr 363),de P q121 708 (vr 391),de P q126 747 (vr 424),de P q130 786 (vr 457),de P q134 845 (vr 504),de P q142 891 (vr 544),de P q147 949 (vr 591)]) 41) E
def c13_12:=Obj.mk vn none (Data.fields (A [vi 1 0,vi 0 0,vr 20,vi 5 0,vi 0 0,vr 27,vi 7 0,vi 0 0,vr 40,vi 9 0,vi 0 0,vr 52,vi 13 0,vi 0 0,vr 71,vi 17 0,vi 0 0,vr 90,vi 21 0,vi 0 0,vr 109,vi 26 0,vi 0 0,vr 128,vi 43 0,vi 0 0,vr 177,vi 47 0,vi 0 0,vr 196,vi 51 0,vi 0 0,vr 215,vi 64 0,vi 0 0,vr 234,vi 66 0,vi 0 0,vr 239,vi 76 0,vi 0 0,vr 246,vi 79 0,vi 0 0,vr 253,vi 146 0,vi 0 0,vr 317,vi 165 0,vi 0 0,vr 373,vi 173 0,vi 0 0,vr 399,vi 183 0,vi 0 0,vr 432,vi 193 0,vi 0 0,vr 465,vi 211 0,vi 0 0,vr 512,vi 224 0,vi 0 0,vr 552])) E
def c13_391:=Obj.mk y9 none (Data.cls (ClassData.mk q121 [vr 363] [vr 391,vr 363,y12] 390 q121 true [] [vr 424,vr 457,vr 544,vr 591] false none false)) (A [sr 368,none,some (vs q121 675),some (vs q121 683),some y18,some vT])
def c13_549:=Obj.mk y3 none (Data.dict (A [de P q17 899 (vs q69 584),de P q18 901 (vs q147 900),de P q19 903 (vi 224 902),de P q24 913 (vr 560),de P q108 920 (vr 567),de P q109 929 (vr 574),de P q110 937 (vr 581),de P q112 944 (vr 588),de P q20 946 (vr 589)]) 9) E
def c13_551:=m11 226 4 559 230 566 233 573 236 580 239 587
def c13_552:=m0 q147 894 895 896 224 550 551 897 898
def c13_553:=m1 552 549 q69 584
def c13_556:=m19 q25 907 q122 908 q123 909 q148 910
def c13_558:=m4 q24 q149 (M 35 0)
def c13_559:=m5 q24 904 q149 905 906 226 4 554 555 556 557 558 911 912
def c13_560:=m6 q24 q149 (M 35 0) q69 584 559
def c13_563:=m3 q25 917
def c13_565:=m4 q108 q150 (M 35 1)
def c13_566:=m5 q108 914 q150 915 916 230 1 561 562 563 564 565 918 919
def c13_567:=m6 q108 q150 (M 35 1) q69 584 566
def c13_570:=m16 q25 924 q115 925 q116 926
def c13_572:=m4 q109 q151 (M 35 2)
def c13_573:=m5 q109 921 q151 922 923 233 3 568 569 570 571 572 927 928
def c13_574:=m6 q109 q151 (M 35 2) q69 584 573
def c13_577:=m14 q25 933 q116 934
def c13_579:=m4 q110 q152 (M 35 3)
def c13_580:=m5 q110 930 q152 931 932 236 2 575 576 577 578 579 935 936
def c13_581:=m6 q110 q152 (M 35 3) q69 584 580
def c13_584:=m3 q25 941
def c13_586:=m4 q112 q153 (M 35 4)
def c13_587:=m5 q112 938 q153 939 940 239 1 582 583 584 585 586 942 943
def c13_588:=m6 q112 q153 (M 35 4) q69 584 587
def c13_589:=m3 q148 945
def c13_590:=Obj.mk y3 none (Data.dict (A [de P q17 899 (vs q69 584),de P q19 903 (vi 224 902),de P q24 913 (vr 560),de P q108 920 (vr 567),de P q109 929 (vr 574),de P q110 937 (vr 581),de P q112 944 (vr 588),de P q20 946 (vr 589),de P q5 947 vn]) 2) E
def c13_591:=Obj.mk y9 none (Data.cls (ClassData.mk q147 [vr 391] [vr 591,vr 391,vr 363,y12] 590 q147 true [] [] false none false)) (A [sr 547,none,some (vs q147 892),some (vs q147 900),some y18,some vT])
def c13_592:=m8 591
def c13_593:=m9 591
def u187:=nd c4_172 (nd a11 (l1 a11) .nil) (l1 c10_447)
def u188:=nd c1_63 u142 u187
def u189:=nd c4_207 (nd c7_335 (l1 c13_591) .nil) (l1 a11)
def u190:=nd c1_79 u145 u189
def u191:=nd a11 (nd c6_303 (l1 c13_559) .nil) (l1 c10_431)
def u192:=nd c1_71 (nd c3_135 (nd a12 (l1 c12_519) .nil) (l1 c13_391)) (nd a12 (nd a12 (l1 a12) .nil) (l1 a11))
def u193:=nd c5_167 (nd c6_295 (l1 c13_551) .nil) (l1 (c9_423 P))
def u194:=nd c4_183 (nd (c7_311 P) (l1 c13_567) .nil) (l1 c10_439)
def u195:=nd (c2_119 P) (u194 P) (nd c5_247 (l1 a11) (l1 (c11_503 P)))
def u196:=nd c4_195 (nd c7_323 (l1 c13_579) .nil) (l1 a11)
def u197:=nd c0_23 u147 u196
def u198:=nd c3_163 (nd a12 (l1 c9_394) .nil) (l1 c9_419)
def u199:=nd a11 (nd c6_307 (l1 c13_563) .nil) (l1 a12)
def u200:=nd c2_115 u199 (nd c5_243 (l1 a11) (l1 c11_499))
def u201:=nd c4_203 (nd c7_331 (l1 c13_587) .nil) (l1 c10_459)
def u202:=nd c1_75 u150 u201
def u203:=nd c3_171 (nd c6_299 (l1 a12) .nil) (l1 c9_394)
def u204:=nd (c4_187 P) (nd a11 (l1 a11) .nil) (l1 c10_443)
def u205:=nd a11 (u204 P) (nd a11 (l1 c8_379) (l1 c9_394))
def u206:=nd (c4_193 P) (nd c7_321 (l1 c13_577) .nil) (l1 a12)
def u207:=nd c1_65 u153 (u206 P)
def u208:=nd c4_209 (nd c7_337 (l1 c13_593) .nil) (l1 c11_465)
def u209:=nd (c1_81 P) (nd a12 (nd c6_273 (l1 a12) .nil) (l1 a11)) u208
def u210:=nd c4_177 (nd (c6_305 P) (l1 a11) .nil) (l1 c10_433)
def u211:=nd a11 (nd a11 (nd a11 (l1 a11) .nil) (l1 c8_393)) (nd a11 (nd a11 (l1 a11) .nil) (l1 c10_457))
def u212:=nd c3_169 (nd a11 (l1 c13_553) .nil) (l1 c9_425)
def u213:=nd c4_185 (nd c0_23 (l1 a12) .nil) (l1 a11)
def u214:=nd c2_121 u213 (nd c0_23 (l1 c8_377) (l1 c11_505))
def u215:=nd c4_197 (nd c7_325 (l1 c13_581) .nil) (l1 c10_453)
def u216:=nd a11 u158 u215
def u217:=nd c3_165 (nd a11 (l1 (c13_549 P)) .nil) (l1 c9_421)
def u218:=nd c4_181 (nd c6_309 (l1 c13_565) .nil) (l1 a11)
def u219:=nd c2_117 u218 (nd c5_245 (l1 c8_373) (l1 c11_501))
def u220:=nd a11 (nd a11 (l1 c13_589) .nil) (l1 c0_23)
def u221:=nd c1_77 u161 u220
def u222:=nd c0_23 (nd c6_301 (l1 a11) .nil) (l1 (c10_429 P))
def u223:=nd c4_189 (nd c7_317 (l1 c13_573) .nil) (l1 c10_445)
def u224:=nd (c3_125 P) u223 (nd c6_253 (l1 c8_381) (l1 (c12_509 P)))
def u225:=nd c1_64 u164 (nd c0_23 (nd a12 (l1 a12) .nil) (l1 a11))
def u226:=nd c4_208 (nd a11 (l1 c13_592) .nil) (l1 c11_464)
def u227:=nd c1_80 (nd a11 (nd a11 (l1 a11) .nil) (l1 c9_400)) u226
def u228:=nd c4_176 (nd c6_304 (l1 c13_560) .nil) (l1 c10_432)
def u229:=nd c4_200 (nd c7_328 (l1 c13_584) .nil) (l1 (c10_456 P))
def u230:=nd c1_72 u167 (u229 P)
def u231:=nd c3_168 (nd c6_296 (l1 c13_552) .nil) (l1 c9_424)
def u232:=nd c4_184 (nd a11 (l1 a11) .nil) (l1 c10_440)
def u233:=nd c2_120 u232 (nd a11 (l1 a12) (l1 c11_504))
def u234:=nd c4_196 (nd c7_324 (l1 c13_580) .nil) (l1 c10_452)
def u235:=nd (c1_68 P) u169 u234
def u236:=nd c3_164 (nd c6_292 (l1 c0_23) .nil) (l1 c9_420)
def u237:=nd a12 (nd c6_308 (l1 a11) .nil) (l1 c10_436)
def u238:=nd c2_116 u237 (nd a11 (l1 c8_372) (l1 c11_500))
def u239:=nd c4_204 (nd c7_332 (l1 c13_588) .nil) (l1 c8_368)
def u240:=nd a11 (u172 P) u239
def u241:=nd c4_172 (nd a11 (l1 c13_556) .nil) (l1 c0_23)
def u242:=nd c4_188 (nd c7_316 (l1 c13_572) .nil) (l1 a11)
def u243:=nd c0_23 u242 (nd c6_252 (l1 c8_380) (l1 c0_23))
def u244:=nd c0_35 (nd a11 (nd a11 (l1 a11) .nil) (l1 c8_386)) (nd a11 (nd a11 (l1 a11) .nil) (l1 c10_450))
def u245:=nd c4_178 (nd c6_306 (l1 a12) .nil) (l1 a11)
def u246:=nd c4_202 (nd c7_330 (l1 c13_586) .nil) (l1 c10_458)
def u247:=nd a12 u179 u246
def u248:=nd c3_170 (nd a12 (l1 a11) .nil) (l1 c9_426)
def u249:=nd a11 (nd (c7_314 P) (l1 c13_570) .nil) (l1 a12)
def u250:=nd c2_122 (u249 P) (nd (c6_250 P) (l1 a11) (l1 c11_506))
def u251:=nd c1_70 (u182 P) (nd a11 (nd a11 (l1 a11) .nil) (l1 c10_454))
def u252:=nd (c3_166 P) (nd c6_294 (l1 a11) .nil) (l1 a11)
def u253:=nd a11 (nd c6_310 (l1 c13_566) .nil) (l1 c10_438)
def u254:=nd c2_118 u253 (nd c5_246 (l1 c8_374) (l1 c11_502))
def u255:=nd (c4_206 P) (nd a12 (l1 (c13_590 P)) .nil) (l1 (c11_462 P))
def u256:=nd c1_78 u185 (u255 P)
def u257:=nd (c4_174 P) (nd c6_302 (l1 c13_558) .nil) (l1 a11)
def u258:=nd c4_190 (nd c7_318 (l1 c13_574) .nil) (l1 c10_446)
def u259:=nd a11 u258 (nd c6_254 (l1 a11) (l1 a11))
def tc13_:=nd (boot_o_0 P) (nd (boot_o_1 P) (nd (c13_3 P) (nd (boot_o_7 P) (nd a11 (nd c2_31 u188 (u144 P)) (nd c0_35 u190 (nd a11 u191 (nd c5_239 (l1 c7_367) (l1 a11))))) (nd c0_23 (nd a12 u192 (nd c2_103 (u193 P) (nd c5_231 (l1 c7_359) (l1 c11_487)))) (nd a12 (u146 P) (u195 P)))) (nd a11 (nd c0_19 (nd c0_35 u197 (nd c2_99 u198 (nd c5_227 (l1 a12) (l1 c11_483)))) (nd c1_51 u149 u200)) (nd c0_27 (nd (c0_43 P) u202 (nd a11 u203 (nd c5_235 (l1 c11_363) (l1 a11)))) (nd c1_59 u152 (u205 P))))) (nd (boot_o_5 P) (nd (boot_o_9 P) (nd c0_17 (nd c0_33 (u207 P) (u155 P)) (nd (c1_49 P) (u209 P) (nd c2_113 (u210 P) (nd a11 (l1 c0_23) (l1 c11_497))))) (nd a11 (nd c0_41 u211 (nd c0_23 u212 (nd c5_233 (l1 a11) (l1 a12)))) (nd a11 u157 u214))) (nd a13 (nd c0_21 (nd (c0_37 P) u216 (nd c2_101 (u217 P) (nd a11 (l1 a11) (l1 c11_485)))) (nd c1_53 u160 u219)) (nd a11 (nd c0_45 u221 (nd c2_109 (u222 P) (nd a12 (l1 c7_365) (l1 c11_493)))) (nd c1_61 u163 (u224 P)))))) (nd (boot_o_2 P) (nd (boot_o_4 P) (nd (boot_o_8 P) (nd a12 (nd c0_32 u225 u166) (nd c0_23 u227 (nd a12 u228 (nd c5_240 (l1 c8_368) (l1 a12))))) (nd (c0_24 P) (nd c0_40 (u230 P) (nd c0_35 u231 (nd a11 (l1 c7_360) (l1 a11)))) (nd c1_56 u168 u233))) (nd c13_12 (nd c0_20 (nd c0_23 (u235 P) (nd (c2_100 P) u236 (nd c5_228 (l1 c7_356) (l1 a11)))) (nd c1_52 (u171 P) u238)) (nd c0_28 (nd c0_44 (u240 P) (nd c2_108 u241 (nd a11 (l1 c7_364) (l1 c11_492)))) (nd c1_60 u174 u243)))) (nd (boot_o_6 P) (nd (boot_o_10 P) (nd a11 (nd c0_34 u244 u176) (nd a11 u178 (nd a11 u245 (nd a12 (l1 (c8_370 P)) (l1 a11))))) (nd a12 (nd a11 u247 (nd (c2_106 P) u248 (nd c5_234 (l1 (c7_362 P)) (l1 c11_490)))) (nd c1_58 u181 (u250 P)))) (nd a14 (nd c0_22 (nd a11 (u251 P) (nd c2_102 (u252 P) (nd a12 (l1 c7_358) (l1 c11_486)))) (nd a11 u184 u254)) (nd (c0_30 P) (nd c0_46 (u256 P) (nd c2_110 (u257 P) (nd c5_238 (l1 c7_366) (l1 c11_494)))) (nd (c1_62 P) u186 u259)))))
def c14_3:=Obj.mk y3 none (Data.dict (A [de P q3 165 (vs q69 584),de P q5 166 vn,de P q6 167 vn,de P q7 168 y4,de P q8 169 vn,de P q9 170 (vr 6),de P q10 171 (vr 4),de P q11 173 (vs q1 172),de P q12 174 vn,de P q13 193 (vr 21),de P q14 213 (vr 31),de P q15 229 (vr 44),de P q22 254 (vr 63),de P q23 279 (vr 82),de P q30 304 (vr 101),de P q31 329 (vr 120),de P q34 392 (vr 167),de P q48 415 (vr 188),de P q49 438 (vr 207),de P q53 461 (vr 226),de P q54 465 (vi 400 464),de P q55 467 (vi 2000 466),de P q56 469 (vi 2000 468),de P q57 471 (vi 8 470),de P q58 473 (vi 100000 472),de P q59 475 (vi 32 474),de P q60 477 (vi 37 476),de P q61 479 (vi 126 478),de P q62 486 (vr 235),de P q63 492 (vr 240),de P q64 500 (vr 247),de P q70 583 (vr 306),de P q71 587 (vi 40 586),de P q94 609 (vr 311),de P q95 674 (vr 363),de P q121 708 (vr 391),de P q126 747 (vr 424),de P q130 786 (vr 457),de P q134 845 (vr 504),de P q142 891 (vr 544),de P q147 949 (vr 591),de P q154 990 (vr 624)]) 42) E
def c14_12:=Obj.mk vn none (Data.fields (A [vi 1 0,vi 0 0,vr 20,vi 5 0,vi 0 0,vr 27,vi 7 0,vi 0 0,vr 40,vi 9 0,vi 0 0,vr 52,vi 13 0,vi 0 0,vr 71,vi 17 0,vi 0 0,vr 90,vi 21 0,vi 0 0,vr 109,vi 26 0,vi 0 0,vr 128,vi 43 0,vi 0 0,vr 177,vi 47 0,vi 0 0,vr 196,vi 51 0,vi 0 0,vr 215,vi 64 0,vi 0 0,vr 234,vi 66 0,vi 0 0,vr 239,vi 76 0,vi 0 0,vr 246,vi 79 0,vi 0 0,vr 253,vi 146 0,vi 0 0,vr 317,vi 165 0,vi 0 0,vr 373,vi 173 0,vi 0 0,vr 399,vi 183 0,vi 0 0,vr 432,vi 193 0,vi 0 0,vr 465,vi 211 0,vi 0 0,vr 512,vi 224 0,vi 0 0,vr 552,vi 241 0,vi 0 0,vr 599])) E
def c14_363:=Obj.mk y9 none (Data.cls (ClassData.mk q95 [y12] [vr 363,y12] 362 q95 true [] [vr 391,vr 504,vr 624] false none false)) (A [none,none,some (vs q95 610),some (vs q95 618),some y18,some vT])
def c14_596:=m20 P 957 959 q154 958 961 241 960 q24 969 607 978 614 985 621 987 622
def c14_598:=m2 243 4 606 246 613 249 620
def c14_599:=m0 q154 952 953 954 241 597 598 955 956
def c14_600:=m1 599 596 q69 584
def c14_603:=m14 q25 965 q148 966
def c14_605:=m4 q24 q155 (M 36 0)
def c14_606:=m5 q24 962 q155 963 964 243 2 601 602 603 604 605 967 968
def c14_607:=m6 q24 q155 (M 36 0) q69 584 606
def c14_610:=m16 q25 973 q115 974 q116 975
def c14_612:=m4 q109 q156 (M 36 1)
def c14_613:=m5 q109 970 q156 971 972 246 3 608 609 610 611 612 976 977
def c14_614:=m6 q109 q156 (M 36 1) q69 584 613
def c14_617:=m3 q25 982
def c14_619:=m4 q112 q157 (M 36 2)
def c14_620:=m5 q112 979 q157 980 981 249 1 615 616 617 618 619 983 984
def c14_621:=m6 q112 q157 (M 36 2) q69 584 620
def c14_622:=m3 q148 986
def c14_623:=m21 P 957 961 241 960 q24 969 607 978 614 985 621 987 622 988
def c14_624:=Obj.mk y9 none (Data.cls (ClassData.mk q154 [vr 363] [vr 624,vr 363,y12] 623 q154 true [] [] false none false)) (A [sr 594,none,some (vs q154 950),some (vs q154 958),some y18,some vT])
def c14_625:=m8 624
def c14_626:=m9 624
def u260:=nd c5_223 (nd c7_351 (l1 c14_607) .nil) (l1 c11_479)
def u261:=nd a11 u191 (nd c5_239 (nd c7_367 (l1 (c14_623 P)) .nil) (l1 a11))
def u262:=nd c5_231 (nd c7_359 (l1 a11) .nil) (l1 c11_487)
def u263:=nd c5_215 (nd a11 (l1 c14_599) .nil) (l1 c11_471)
def u264:=nd c5_227 (nd a12 (l1 a11) .nil) (l1 c11_483)
def u265:=nd c0_23 (nd c7_339 (l1 c0_23) .nil) (l1 a11)
def u266:=nd c5_219 (nd a11 (l1 c14_603) .nil) (l1 a12)
def u267:=nd (c5_225 P) (nd c7_353 (l1 a12) .nil) (l1 a11)
def u268:=nd c2_113 (u210 P) (nd a11 (nd c0_23 (l1 c14_625) .nil) (l1 c11_497))
def u269:=nd c5_233 (nd a11 (l1 c14_617) .nil) (l1 a12)
def u270:=nd a11 (nd c7_345 (l1 a11) .nil) (l1 c11_473)
def u271:=nd a11 (nd a11 (l1 c14_613) .nil) (l1 c11_485)
def u272:=nd a12 (nd c7_365 (l1 c14_621) .nil) (l1 c11_493)
def u273:=nd c5_221 (nd c7_349 (l1 c14_605) .nil) (l1 a11)
def u274:=nd a11 (nd c7_352 (l1 a11) .nil) (l1 c11_480)
def u275:=nd a12 u228 (nd c5_240 (nd c8_368 (l1 c14_624) .nil) (l1 a12))
def u276:=nd c5_216 (nd c7_344 (l1 c14_600) .nil) (l1 c11_472)
def u277:=nd c5_228 (nd c7_356 (l1 c14_612) .nil) (l1 a11)
def u278:=nd (c5_212 P) (nd a11 (l1 (c14_596 P)) .nil) (l1 a12)
def u279:=nd a11 (nd c7_364 (l1 c14_620) .nil) (l1 c11_492)
def u280:=nd c5_226 (nd a11 (l1 c14_610) .nil) (l1 a12)
def u281:=nd c4_172 (nd c7_338 (l1 c8_368) .nil) (l1 c11_466)
def u282:=nd a11 u245 (nd a12 (nd (c8_370 P) (l1 c14_626) .nil) (l1 a11))
def u283:=nd c5_234 (nd (c7_362 P) (l1 a11) .nil) (l1 c11_490)
def u284:=nd a12 (nd c7_358 (l1 c14_614) .nil) (l1 c11_486)
def u285:=nd c5_214 (nd c7_342 (l1 c14_598) .nil) (l1 a11)
def u286:=nd c5_238 (nd c7_366 (l1 c14_622) .nil) (l1 c11_494)
def u287:=nd c5_222 (nd a11 (l1 c14_606) .nil) (l1 c11_478)
def tc14_:=nd (boot_o_0 P) (nd (boot_o_1 P) (nd (c14_3 P) (nd (boot_o_7 P) (nd a11 (nd c2_31 u188 (nd a11 (u143 P) u260)) (nd c0_35 u190 (u261 P))) (nd c0_23 (nd a12 u192 (nd c2_103 (u193 P) u262)) (nd a12 (nd (c2_87 P) (nd a11 (nd a11 (l1 a11) .nil) (l1 c9_407)) u263) (u195 P)))) (nd a11 (nd c0_19 (nd c0_35 u197 (nd c2_99 u198 u264)) (nd c1_51 (nd c1_83 u148 u265) u200)) (nd c0_27 (nd (c0_43 P) u202 (nd a11 u203 (nd c5_235 (nd c14_363 (l1 c14_619) .nil) (l1 a11)))) (nd c1_59 (nd c2_91 u151 u266) (u205 P))))) (nd (boot_o_5 P) (nd (boot_o_9 P) (nd c0_17 (nd c0_33 (u207 P) (nd c2_97 u154 (u267 P))) (nd (c1_49 P) (u209 P) (u268 P))) (nd a11 (nd c0_41 u211 (nd c0_23 u212 u269)) (nd a11 (nd c2_89 u156 u270) u214))) (nd a13 (nd c0_21 (nd (c0_37 P) u216 (nd c2_101 (u217 P) u271)) (nd c1_53 (nd c0_35 u159 (nd a11 (nd a12 (l1 a11) .nil) (l1 c11_469))) u219)) (nd a11 (nd c0_45 u221 (nd c2_109 (u222 P) u272)) (nd c1_61 (nd a12 u162 u273) (u224 P)))))) (nd (boot_o_2 P) (nd (boot_o_4 P) (nd (boot_o_8 P) (nd a12 (nd c0_32 u225 (nd c2_96 u165 u274)) (nd c0_23 u227 u275)) (nd (c0_24 P) (nd c0_40 (u230 P) (nd c0_35 u231 (nd a11 (nd c7_360 (l1 a12) .nil) (l1 a11)))) (nd c1_56 (nd a11 (nd a12 (nd c6_280 (l1 a12) .nil) (l1 a11)) u276) u233))) (nd c14_12 (nd c0_20 (nd c0_23 (u235 P) (nd (c2_100 P) u236 u277)) (nd c1_52 (nd c1_84 u170 (u278 P)) u238)) (nd c0_28 (nd c0_44 (u240 P) (nd c2_108 u241 u279)) (nd c1_60 (nd a11 u173 (nd a11 (nd a12 (l1 a11) .nil) (l1 c11_476))) u243)))) (nd (boot_o_6 P) (nd (boot_o_10 P) (nd a11 (nd c0_34 u244 (nd c2_98 u175 u280)) (nd a11 (nd c1_82 u177 u281) (u282 P))) (nd a12 (nd a11 u247 (nd (c2_106 P) u248 (u283 P))) (nd c1_58 (nd c2_90 u180 (nd a12 (nd c7_346 (l1 a12) .nil) (l1 a11))) (u250 P)))) (nd a14 (nd c0_22 (nd a11 (u251 P) (nd c2_102 (u252 P) u284)) (nd a11 (nd c0_23 u183 u285) u254)) (nd (c0_30 P) (nd c0_46 (u256 P) (nd c2_110 (u257 P) u286)) (nd (c1_62 P) (nd c2_94 (nd a11 (nd a11 (l1 a11) .nil) (l1 c9_414)) u287) u259)))))
def c15_3:=Obj.mk y3 none (Data.dict (A [de P q3 165 (vs q158 1064),de P q5 166 vn,de P q6 167 vn,de P q7 168 y4,de P q8 169 vn,de P q9 170 (vr 6),de P q10 171 (vr 4),de P q11 173 (vs q1 172),de P q12 174 vn,de P q13 193 (vr 21),de P q14 213 (vr 31),de P q15 229 (vr 44),de P q22 254 (vr 63),de P q23 279 (vr 82),de P q30 304 (vr 101),de P q31 329 (vr 120),de P q34 392 (vr 167),de P q48 415 (vr 188),de P q49 438 (vr 207),de P q53 461 (vr 226),de P q54 465 (vi 400 464),de P q55 467 (vi 2000 466),de P q56 469 (vi 2000 468),de P q57 471 (vi 8 470),de P q58 473 (vi 100000 472),de P q59 475 (vi 32 474),de P q60 477 (vi 37 476),de P q61 479 (vi 126 478),de P q62 486 (vr 235),de P q63 492 (vr 240),de P q64 500 (vr 247),de P q70 583 (vr 306),de P q71 587 (vi 40 586),de P q94 609 (vr 311),de P q95 674 (vr 363),de P q121 708 (vr 391),de P q126 747 (vr 424),de P q130 786 (vr 457),de P q134 845 (vr 504),de P q142 891 (vr 544),de P q147 949 (vr 591),de P q154 990 (vr 624),de P q159 1031 (vr 657),de P q160 1037 (vr 664),de P q76 1046 (vr 671),de P q161 1054 (vr 678),de P q162 1063 (vr 685),de P q163 1068 (vr 686),de P q164 1070 (vi 12 1069)]) 49) E
def c15_12:=Obj.mk vn none (Data.fields (A [vi 1 0,vi 0 0,vr 20,vi 5 0,vi 0 0,vr 27,vi 7 0,vi 0 0,vr 40,vi 9 0,vi 0 0,vr 52,vi 13 0,vi 0 0,vr 71,vi 17 0,vi 0 0,vr 90,vi 21 0,vi 0 0,vr 109,vi 26 0,vi 0 0,vr 128,vi 43 0,vi 0 0,vr 177,vi 47 0,vi 0 0,vr 196,vi 51 0,vi 0 0,vr 215,vi 64 0,vi 0 0,vr 234,vi 66 0,vi 0 0,vr 239,vi 76 0,vi 0 0,vr 246,vi 79 0,vi 0 0,vr 253,vi 146 0,vi 0 0,vr 317,vi 165 0,vi 0 0,vr 373,vi 173 0,vi 0 0,vr 399,vi 183 0,vi 0 0,vr 432,vi 193 0,vi 0 0,vr 465,vi 211 0,vi 0 0,vr 512,vi 224 0,vi 0 0,vr 552,vi 241 0,vi 0 0,vr 599,vi 251 0,vi 0 0,vr 632,vi 261 0,vi 0 0,vr 663,vi 267 0,vi 0 0,vr 670,vi 277 0,vi 0 0,vr 677,vi 291 0,vi 0 0,vr 684])) E
def c15_363:=Obj.mk y9 none (Data.cls (ClassData.mk q95 [y12] [vr 363,y12] 362 q95 true [] [vr 391,vr 504,vr 624,vr 657] false none false)) (A [none,none,some (vs q95 610),some (vs q95 618),some y18,some vT])
def c15_629:=m20 P 998 1000 q159 999 1002 251 1001 q24 1010 640 1019 647 1026 654 1028 655
def c15_631:=m2 253 4 639 256 646 259 653
def c15_632:=m0 q159 993 994 995 251 630 631 996 997
def c15_633:=m1 632 629 q69 584
def c15_636:=m14 q25 1006 q148 1007
def c15_638:=m4 q24 q165 (M 37 0)
def c15_639:=m5 q24 1003 q165 1004 1005 253 2 634 635 636 637 638 1008 1009
def c15_640:=m6 q24 q165 (M 37 0) q69 584 639
def c15_643:=m16 q25 1014 q115 1015 q116 1016
def c15_645:=m4 q109 q166 (M 37 1)
def c15_646:=m5 q109 1011 q166 1012 1013 256 3 641 642 643 644 645 1017 1018
def c15_647:=m6 q109 q166 (M 37 1) q69 584 646
def c15_650:=m3 q25 1023
def c15_652:=m4 q112 q167 (M 37 2)
def c15_653:=m5 q112 1020 q167 1021 1022 259 1 648 649 650 651 652 1024 1025
def c15_654:=m6 q112 q167 (M 37 2) q69 584 653
def c15_655:=m3 q148 1027
def c15_656:=m21 P 998 1002 251 1001 q24 1010 640 1019 647 1026 654 1028 655 1029
def c15_657:=Obj.mk y9 none (Data.cls (ClassData.mk q159 [vr 363] [vr 657,vr 363,y12] 656 q159 true [] [] false none false)) (A [sr 627,none,some (vs q159 991),some (vs q159 999),some y18,some vT])
def c15_658:=m8 657
def c15_659:=m9 657
def c15_662:=m4 q160 q160 (B 38)
def c15_663:=m18 q160 1032 1033 1034 261 660 661 662 1035 1036
def c15_664:=m6 q160 q160 (B 38) q69 584 663
def c15_667:=m16 q168 1041 q169 1042 q68 1043
def c15_669:=m4 q76 q76 (B 39)
def c15_670:=m5 q76 1038 q76 1039 1040 267 2 665 666 667 668 669 1044 1045
def c15_671:=m6 q76 q76 (B 39) q69 584 670
def c15_674:=m14 q168 1050 q170 1051
def c15_676:=m4 q161 q161 (B 40)
def c15_677:=m5 q161 1047 q161 1048 1049 277 2 672 673 674 675 676 1052 1053
def c15_678:=m6 q161 q161 (B 40) q69 584 677
def c15_681:=m16 q122 1058 q135 1059 q136 1060
def c15_683:=m4 q162 q162 (B 41)
def c15_684:=m5 q162 1055 q162 1056 1057 291 3 679 680 681 682 683 1061 1062
def c15_685:=m6 q162 q162 (B 41) q69 584 684
def c15_686:=m14 q171 1066 q172 1067
def u288:=nd a12 (nd c6_287 (l1 (c12_543 P)) .nil) (nd a11 (l1 c15_671) .nil)
def u289:=nd c3_143 (nd c6_271 (l1 c12_527) .nil) (nd c9_399 (l1 c15_655) .nil)
def u290:=nd c5_167 (nd c6_295 (l1 c13_551) .nil) (nd (c9_423 P) (l1 a11) .nil)
def u291:=nd a11 (nd a11 (l1 a11) .nil) (nd c9_407 (l1 c15_663) .nil)
def u292:=nd c3_163 (nd a12 (l1 c9_394) .nil) (nd c9_419 (l1 a11) .nil)
def u293:=nd a11 (nd c6_275 (l1 a11) .nil) (nd c9_403 (l1 c15_659) .nil)
def u294:=nd c3_139 (nd c6_267 (l1 c12_523) .nil) (nd c0_23 (l1 a11) .nil)
def u295:=nd c3_171 (nd c6_299 (l1 a12) .nil) (nd c9_394 (l1 c15_683) .nil)
def u296:=nd c3_155 (nd a11 (l1 c12_539) .nil) (nd a11 (l1 c15_667) .nil)
def u297:=nd a11 (nd c6_289 (l1 c12_545) .nil) (nd c9_417 (l1 a12) .nil)
def u298:=nd a12 (nd c6_273 (l1 a12) .nil) (nd a11 (l1 c15_657) .nil)
def u299:=nd a11 (nd a11 (l1 a11) .nil) (nd c8_393 (l1 a12) .nil)
def u300:=nd c3_169 (nd a11 (l1 c13_553) .nil) (nd c9_425 (l1 c15_681) .nil)
def u301:=nd c3_153 (nd c6_281 (l1 c12_537) .nil) (nd a12 (l1 a11) .nil)
def u302:=nd c3_165 (nd a11 (l1 (c13_549 P)) .nil) (nd c9_421 (l1 c15_677) .nil)
def u303:=nd c3_149 (nd a12 (l1 c12_533) .nil) (nd c9_405 (l1 a12) .nil)
def u304:=nd c3_141 (nd a11 (l1 c12_525) .nil) (nd a11 (l1 c15_653) .nil)
def u305:=nd c0_23 (nd c6_301 (l1 a11) .nil) (nd (c10_429 P) (l1 c15_685) .nil)
def u306:=nd c3_157 (nd c6_285 (l1 c12_541) .nil) (nd c9_413 (l1 c15_669) .nil)
def u307:=nd c3_160 (nd c6_288 (l1 c12_544) .nil) (nd a12 (l1 a11) .nil)
def u308:=nd a11 (nd a11 (l1 a11) .nil) (nd c9_400 (l1 (c15_656 P)) .nil)
def u309:=nd c3_136 (nd c6_264 (l1 c12_520) .nil) (nd c8_392 (l1 a11) .nil)
def u310:=nd c3_168 (nd c6_296 (l1 c13_552) .nil) (nd c9_424 (l1 a12) .nil)
def u311:=nd a12 (nd c6_280 (l1 a12) .nil) (nd a11 (l1 c15_664) .nil)
def u312:=nd c3_164 (nd c6_292 (l1 c0_23) .nil) (nd c9_420 (l1 c15_676) .nil)
def u313:=nd c3_148 (nd a11 (l1 c12_532) .nil) (nd a11 (l1 a11) .nil)
def u314:=nd a11 (nd c6_268 (l1 a11) .nil) (nd (c9_396 P) (l1 c15_652) .nil)
def u315:=nd c4_172 (nd a11 (l1 c13_556) .nil) (nd c0_23 (l1 c15_684) .nil)
def u316:=nd c3_156 (nd a12 (l1 c12_540) .nil) (nd c9_412 (l1 a11) .nil)
def u317:=nd c3_162 (nd a11 (l1 c12_546) .nil) (nd a11 (l1 c15_674) .nil)
def u318:=nd c3_146 (nd c6_274 (l1 c12_530) .nil) (nd a12 (l1 c15_658) .nil)
def u319:=nd a12 (nd c6_266 (l1 a12) .nil) (nd c9_394 (l1 c15_650) .nil)
def u320:=nd c3_170 (nd a12 (l1 a11) .nil) (nd c9_426 (l1 a11) .nil)
def u321:=nd a11 (nd c6_282 (l1 a11) .nil) (nd c9_410 (l1 a12) .nil)
def u322:=nd (c3_166 P) (nd c6_294 (l1 a11) .nil) (nd a11 (l1 c15_678) .nil)
def u323:=nd c3_150 (nd c6_278 (l1 c12_534) .nil) (nd c9_406 (l1 c15_662) .nil)
def u324:=nd c3_142 (nd a12 (l1 c12_526) .nil) (nd c9_398 (l1 c15_654) .nil)
def u325:=nd (c4_174 P) (nd c6_302 (l1 c13_558) .nil) (nd a11 (l1 c15_686) .nil)
def u326:=nd a11 (nd a11 (l1 a11) .nil) (nd c9_414 (l1 c15_670) .nil)
def tc15_:=nd (boot_o_0 P) (nd (boot_o_1 P) (nd (c15_3 P) (nd (boot_o_7 P) (nd a11 (nd c2_31 (nd c1_63 (nd c3_127 (nd a11 (l1 c12_511) .nil) (nd a12 (l1 c15_639) .nil)) u187) (nd a11 (u288 P) u260)) (nd c0_35 (nd c1_79 u289 u189) (u261 P))) (nd c0_23 (nd a12 (nd c1_71 (nd c3_135 (nd a12 (l1 c12_519) .nil) (nd c13_391 (l1 c15_647) .nil)) (nd a12 (nd a12 (l1 a12) .nil) (l1 a11))) (nd c2_103 (u290 P) u262)) (nd a12 (nd (c2_87 P) u291 u263) (nd (c2_119 P) (u194 P) (nd c5_247 (nd a11 (l1 c15_631) .nil) (l1 (c11_503 P))))))) (nd a11 (nd c0_19 (nd c0_35 (nd c0_23 (nd a12 (nd c6_259 (l1 a12) .nil) (nd c8_387 (l1 c15_643) .nil)) u196) (nd c2_99 u292 u264)) (nd c1_51 (nd c1_83 u293 u265) (nd c2_115 u199 (nd c5_243 (nd a11 (l1 c8_368) .nil) (l1 c11_499))))) (nd c0_27 (nd (c0_43 P) (nd c1_75 u294 u201) (nd a11 u295 (nd c5_235 (nd c15_363 (l1 c14_619) .nil) (l1 a11)))) (nd c1_59 (nd c2_91 u296 u266) (nd a11 (u204 P) (nd a11 (nd c8_379 (l1 a12) .nil) (l1 c9_394))))))) (nd (boot_o_5 P) (nd (boot_o_9 P) (nd c0_17 (nd c0_33 (nd c1_65 (nd c3_129 (nd c6_257 (l1 c12_513) .nil) (nd a11 (l1 a11) .nil)) (u206 P)) (nd c2_97 u297 (u267 P))) (nd (c1_49 P) (nd (c1_81 P) u298 u208) (u268 P))) (nd a11 (nd c0_41 (nd a11 u299 (nd a11 (nd a11 (l1 a11) .nil) (l1 c10_457))) (nd c0_23 u300 u269)) (nd a11 (nd c2_89 u301 u270) (nd c2_121 u213 (nd c0_23 (nd c8_377 (l1 c15_633) .nil) (l1 c11_505)))))) (nd a13 (nd c0_21 (nd (c0_37 P) (nd a11 (nd a11 (nd c6_261 (l1 a11) .nil) (nd c8_389 (l1 c15_645) .nil)) u215) (nd c2_101 (u302 P) u271)) (nd c1_53 (nd c0_35 u303 (nd a11 (nd a12 (l1 a11) .nil) (l1 c11_469))) (nd c2_117 u218 (nd c5_245 (nd c8_373 (l1 (c15_629 P)) .nil) (l1 c11_501))))) (nd a11 (nd c0_45 (nd c1_77 u304 u220) (nd c2_109 (u305 P) u272)) (nd c1_61 (nd a12 u306 u273) (nd (c3_125 P) u223 (nd c6_253 (nd c8_381 (l1 a11) .nil) (l1 (c12_509 P))))))))) (nd (boot_o_2 P) (nd (boot_o_4 P) (nd (boot_o_8 P) (nd a12 (nd c0_32 (nd c1_64 (nd c3_128 (nd a12 (l1 c12_512) .nil) (nd c8_384 (l1 c15_640) .nil)) (nd c0_23 (nd a12 (l1 a12) .nil) (l1 a11))) (nd c2_96 u307 u274)) (nd c0_23 (nd c1_80 (u308 P) u226) u275)) (nd (c0_24 P) (nd c0_40 (nd c1_72 u309 (u229 P)) (nd c0_35 u310 (nd a11 (nd c7_360 (l1 a12) .nil) (l1 a11)))) (nd c1_56 (nd a11 u311 u276) (nd c2_120 u232 (nd a11 (nd a12 (l1 c15_632) .nil) (l1 c11_504)))))) (nd c15_12 (nd c0_20 (nd c0_23 (nd (c1_68 P) (nd c3_132 (nd c6_260 (l1 c12_516) .nil) (nd c8_388 (l1 a11) .nil)) u234) (nd (c2_100 P) u312 u277)) (nd c1_52 (nd c1_84 u313 (u278 P)) (nd c2_116 u237 (nd a11 (nd c8_372 (l1 c0_23) .nil) (l1 c11_500))))) (nd c0_28 (nd c0_44 (nd a11 (u314 P) u239) (nd c2_108 u315 u279)) (nd c1_60 (nd a11 u316 (nd a11 (nd a12 (l1 a11) .nil) (l1 c11_476))) (nd c0_23 u242 (nd c6_252 (nd c8_380 (l1 c15_636) .nil) (l1 c0_23))))))) (nd (boot_o_6 P) (nd (boot_o_10 P) (nd a11 (nd c0_34 (nd c0_35 (nd a11 (nd a11 (l1 a11) .nil) (nd c8_386 (l1 a12) .nil)) (nd a11 (nd a11 (l1 a11) .nil) (l1 c10_450))) (nd c2_98 u317 u280)) (nd a11 (nd c1_82 u318 u281) (u282 P))) (nd a12 (nd a11 (nd a12 u319 u246) (nd (c2_106 P) u320 (u283 P))) (nd c1_58 (nd c2_90 u321 (nd a12 (nd c7_346 (l1 a12) .nil) (l1 a11))) (nd c2_122 (u249 P) (nd (c6_250 P) (nd a11 (l1 a11) .nil) (l1 c11_506)))))) (nd a14 (nd c0_22 (nd a11 (nd c1_70 (nd c3_134 (nd a11 (l1 c12_518) .nil) (nd (c8_390 P) (l1 c15_646) .nil)) (nd a11 (nd a11 (l1 a11) .nil) (l1 c10_454))) (nd c2_102 (u322 P) u284)) (nd a11 (nd c0_23 u323 u285) (nd c2_118 u253 (nd c5_246 (nd c8_374 (l1 a11) .nil) (l1 c11_502))))) (nd (c0_30 P) (nd c0_46 (nd c1_78 u324 (u255 P)) (nd c2_110 (u325 P) u286)) (nd (c1_62 P) (nd c2_94 u326 u287) (nd a11 u258 (nd c6_254 (nd a11 (l1 c15_638) .nil) (l1 a11))))))))
def c16_3:=Obj.mk y3 none (Data.dict (A [de P q3 165 (vs q173 1158),de P q5 166 vn,de P q6 167 vn,de P q7 168 y4,de P q8 169 vn,de P q9 170 (vr 6),de P q10 171 (vr 4),de P q11 173 (vs q1 172),de P q12 174 vn,de P q13 193 (vr 21),de P q14 213 (vr 31),de P q15 229 (vr 44),de P q22 254 (vr 63),de P q23 279 (vr 82),de P q30 304 (vr 101),de P q31 329 (vr 120),de P q34 392 (vr 167),de P q48 415 (vr 188),de P q49 438 (vr 207),de P q53 461 (vr 226),de P q54 465 (vi 400 464),de P q55 467 (vi 2000 466),de P q56 469 (vi 2000 468),de P q57 471 (vi 8 470),de P q58 473 (vi 100000 472),de P q59 475 (vi 32 474),de P q60 477 (vi 37 476),de P q61 479 (vi 126 478),de P q62 486 (vr 235),de P q63 492 (vr 240),de P q64 500 (vr 247),de P q70 583 (vr 306),de P q71 587 (vi 40 586),de P q94 609 (vr 311),de P q95 674 (vr 363),de P q121 708 (vr 391),de P q126 747 (vr 424),de P q130 786 (vr 457),de P q134 845 (vr 504),de P q142 891 (vr 544),de P q147 949 (vr 591),de P q154 990 (vr 624),de P q159 1031 (vr 657),de P q160 1037 (vr 664),de P q76 1046 (vr 671),de P q161 1054 (vr 678),de P q162 1063 (vr 685),de P q163 1068 (vr 686),de P q164 1070 (vi 12 1069),de P q174 1109 (vr 710),de P q175 1115 (vr 719),de P q176 1123 (vr 726),de P q177 1131 (vr 733),de P q178 1140 (vr 740),de P q179 1149 (vr 747),de P q180 1157 (vr 754),de P q181 1167 (vr 761),de P q182 1174 (vr 768),de P q183 1183 (vr 775)]) 59) E
def c16_12:=Obj.mk vn none (Data.fields (A [vi 1 0,vi 0 0,vr 20,vi 5 0,vi 0 0,vr 27,vi 7 0,vi 0 0,vr 40,vi 9 0,vi 0 0,vr 52,vi 13 0,vi 0 0,vr 71,vi 17 0,vi 0 0,vr 90,vi 21 0,vi 0 0,vr 109,vi 26 0,vi 0 0,vr 128,vi 43 0,vi 0 0,vr 177,vi 47 0,vi 0 0,vr 196,vi 51 0,vi 0 0,vr 215,vi 64 0,vi 0 0,vr 234,vi 66 0,vi 0 0,vr 239,vi 76 0,vi 0 0,vr 246,vi 79 0,vi 0 0,vr 253,vi 146 0,vi 0 0,vr 317,vi 165 0,vi 0 0,vr 373,vi 173 0,vi 0 0,vr 399,vi 183 0,vi 0 0,vr 432,vi 193 0,vi 0 0,vr 465,vi 211 0,vi 0 0,vr 512,vi 224 0,vi 0 0,vr 552,vi 241 0,vi 0 0,vr 599,vi 251 0,vi 0 0,vr 632,vi 261 0,vi 0 0,vr 663,vi 267 0,vi 0 0,vr 670,vi 277 0,vi 0 0,vr 677,vi 291 0,vi 0 0,vr 684,vi 298 0,vi 0 0,vr 692,vi 307 0,vi 0 0,vr 718,vi 315 0,vi 0 0,vr 725,vi 320 0,vi 0 0,vr 732,vi 325 0,vi 0 0,vr 739,vi 331 0,vi 0 0,vr 746,vi 334 0,vi 0 0,vr 753,vi 339 0,vi 0 0,vr 760,vi 343 0,vi 0 0,vr 767,vi 345 0,vi 0 0,vr 774])) E
def c16_689:=Obj.mk y3 none (Data.dict (A [de P q17 1078 (vs q158 1064),de P q18 1080 (vs q174 1079),de P q19 1082 (vi 298 1081),de P q24 1091 (vr 700),de P q112 1098 (vr 707),de P q20 1102 (vr 708)]) 6) E
def c16_691:=Obj.mk vn none (Data.fields (A [vi 300 0,vi 4 0,vr 699,vi 305 0,vi 4 0,vr 706])) E
def c16_692:=m0 q174 1073 1074 1075 298 690 691 1076 1077
def c16_693:=m1 692 689 q158 1064
def c16_696:=m16 q25 1086 q184 1087 q185 1088
def c16_698:=m4 q24 q186 (M 45 0)
def c16_699:=m5 q24 1083 q186 1084 1085 300 3 694 695 696 697 698 1089 1090
def c16_700:=m6 q24 q186 (M 45 0) q158 1064 699
def c16_703:=m3 q25 1095
def c16_705:=m4 q112 q187 (M 45 1)
def c16_706:=m5 q112 1092 q187 1093 1094 305 1 701 702 703 704 705 1096 1097
def c16_707:=m6 q112 q187 (M 45 1) q158 1064 706
def c16_708:=m16 q184 1099 q83 1100 q185 1101
def c16_709:=Obj.mk y3 none (Data.dict (A [de P q17 1078 (vs q158 1064),de P q19 1082 (vi 298 1081),de P q24 1091 (vr 700),de P q112 1098 (vr 707),de P q20 1102 (vr 708),de P q47 1104 (vr 711),de P q21 1106 (vr 712),de P q5 1107 vn]) 4) E
def c16_710:=Obj.mk y9 none (Data.cls (ClassData.mk q174 [y12] [vr 710,y12] 709 q174 true [] [] false none false)) (A [none,none,some (vs q174 1071),some (vs q174 1079),some y18,some vT])
def c16_711:=m17 1103 710
def c16_712:=m7 1105 710
def c16_713:=m8 710
def c16_714:=m9 710
def c16_717:=m4 q175 q175 (B 46)
def c16_718:=m18 q175 1110 1111 1112 307 715 716 717 1113 1114
def c16_719:=m6 q175 q175 (B 46) q158 1064 718
def c16_722:=m14 q78 1119 q68 1120
def c16_724:=m4 q176 q176 (B 47)
def c16_725:=m5 q176 1116 q176 1117 1118 315 2 720 721 722 723 724 1121 1122
def c16_726:=m6 q176 q176 (B 47) q158 1064 725
def c16_729:=m14 q188 1127 q16 1128
def c16_731:=m4 q177 q177 (B 48)
def c16_732:=m5 q177 1124 q177 1125 1126 320 1 727 728 729 730 731 1129 1130
def c16_733:=m6 q177 q177 (B 48) q158 1064 732
def c16_736:=m16 q188 1135 q189 1136 q16 1137
def c16_738:=m4 q178 q178 (B 49)
def c16_739:=m5 q178 1132 q178 1133 1134 325 2 734 735 736 737 738 1138 1139
def c16_740:=m6 q178 q178 (B 49) q158 1064 739
def c16_743:=m16 q190 1144 q189 1145 q107 1146
def c16_745:=m4 q179 q179 (B 50)
def c16_746:=m5 q179 1141 q179 1142 1143 331 2 741 742 743 744 745 1147 1148
def c16_747:=m6 q179 q179 (B 50) q158 1064 746
def c16_750:=m14 q188 1153 q16 1154
def c16_752:=m4 q180 q180 (B 51)
def c16_753:=m5 q180 1150 q180 1151 1152 334 1 748 749 750 751 752 1155 1156
def c16_754:=m6 q180 q180 (B 51) q158 1064 753
def c16_757:=m14 q191 1163 q192 1164
def c16_759:=m4 q181 q181 (B 53)
def c16_760:=m5 q181 1160 q181 1161 1162 339 2 755 756 757 758 759 1165 1166
def c16_761:=m6 q181 q181 (B 53) q173 1158 760
def c16_764:=m3 q193 1171
def c16_766:=m4 q182 q182 (B 54)
def c16_767:=m5 q182 1168 q182 1169 1170 343 1 762 763 764 765 766 1172 1173
def c16_768:=m6 q182 q182 (B 54) q173 1158 767
def c16_771:=m16 q194 1178 q192 1179 q195 1180
def c16_773:=m4 q183 q183 (B 55)
def c16_774:=m5 q183 1175 q183 1176 1177 345 2 769 770 771 772 773 1181 1182
def c16_775:=m6 q183 q183 (B 55) q173 1158 774
def u327:=nd c1_63 (nd c3_127 (nd a11 (l1 c12_511) (l1 c16_767)) (nd a12 (l1 c15_639) .nil)) (nd c4_172 (nd a11 (l1 a11) .nil) (nd c10_447 (l1 c16_703) .nil))
def u328:=nd c5_223 (nd c7_351 (l1 c14_607) .nil) (nd c11_479 (l1 a12) .nil)
def u329:=nd c4_207 (nd c7_335 (l1 c13_591) .nil) (nd a11 (l1 c16_719) .nil)
def u330:=nd c5_239 (nd c7_367 (l1 (c14_623 P)) .nil) (nd a11 (l1 a11) .nil)
def u331:=nd c1_71 (nd c3_135 (nd a12 (l1 c12_519) (l1 c16_775)) (nd c13_391 (l1 c15_647) .nil)) (nd a12 (nd a12 (l1 a12) .nil) (nd a11 (l1 c16_711) .nil))
def u332:=nd c5_231 (nd c7_359 (l1 a11) .nil) (nd c11_487 (l1 c16_743) .nil)
def u333:=nd c5_215 (nd a11 (l1 c14_599) .nil) (nd c11_471 (l1 a11) .nil)
def u334:=nd c5_247 (nd a11 (l1 c15_631) .nil) (nd (c11_503 P) (l1 c16_759) .nil)
def u335:=nd c0_23 (nd a12 (nd c6_259 (l1 a12) (l1 c16_771)) (nd c8_387 (l1 c15_643) .nil)) (nd c4_195 (nd c7_323 (l1 c13_579) .nil) (nd a11 (l1 c16_707) .nil))
def u336:=nd c5_227 (nd a12 (l1 a11) .nil) (nd c11_483 (l1 c16_739) .nil)
def u337:=nd c0_23 (nd c7_339 (l1 c0_23) .nil) (nd a11 (l1 a11) .nil)
def u338:=nd c5_243 (nd a11 (l1 c8_368) .nil) (nd c11_499 (l1 a11) .nil)
def u339:=nd c4_203 (nd c7_331 (l1 c13_587) .nil) (nd c10_459 (l1 a11) .nil)
def u340:=nd c5_235 (nd c15_363 (l1 c14_619) .nil) (nd a11 (l1 c16_747) .nil)
def u341:=nd c5_219 (nd a11 (l1 c14_603) .nil) (nd a12 (l1 c16_731) .nil)
def u342:=nd a11 (nd c8_379 (l1 a12) .nil) (nd c9_394 (l1 a12) .nil)
def u343:=nd c1_65 (nd c3_129 (nd c6_257 (l1 c12_513) (l1 a11)) (nd a11 (l1 a11) .nil)) (nd (c4_193 P) (nd c7_321 (l1 c13_577) .nil) (nd a12 (l1 c16_705) .nil))
def u344:=nd (c5_225 P) (nd c7_353 (l1 a12) .nil) (nd a11 (l1 a11) .nil)
def u345:=nd c4_209 (nd c7_337 (l1 c13_593) .nil) (nd c11_465 (l1 a12) .nil)
def u346:=nd a11 (nd c0_23 (l1 c14_625) .nil) (nd c11_497 (l1 c16_753) .nil)
def u347:=nd a11 (nd a11 (l1 a11) .nil) (nd c10_457 (l1 c16_713) .nil)
def u348:=nd c5_233 (nd a11 (l1 c14_617) .nil) (nd a12 (l1 c16_745) .nil)
def u349:=nd a11 (nd c7_345 (l1 a11) .nil) (nd c11_473 (l1 c16_729) .nil)
def u350:=nd c0_23 (nd c8_377 (l1 c15_633) .nil) (nd c11_505 (l1 c16_761) .nil)
def u351:=nd a11 (nd a11 (nd c6_261 (l1 a11) (l1 c16_773)) (nd c8_389 (l1 c15_645) .nil)) (nd c4_197 (nd c7_325 (l1 c13_581) .nil) (nd c10_453 (l1 (c16_709 P)) .nil))
def u352:=nd a11 (nd a11 (l1 c14_613) .nil) (nd c11_485 (l1 a11) .nil)
def u353:=nd a11 (nd a12 (l1 a11) .nil) (nd c11_469 (l1 c16_725) .nil)
def u354:=nd c5_245 (nd c8_373 (l1 (c15_629 P)) .nil) (nd c11_501 (l1 c16_757) .nil)
def u355:=nd a11 (nd a11 (l1 c13_589) .nil) (nd c0_23 (l1 c16_717) .nil)
def u356:=nd a12 (nd c7_365 (l1 c14_621) .nil) (nd c11_493 (l1 a12) .nil)
def u357:=nd c5_221 (nd c7_349 (l1 c14_605) .nil) (nd a11 (l1 c16_733) .nil)
def u358:=nd c6_253 (nd c8_381 (l1 a11) .nil) (nd (c12_509 P) (l1 a11) .nil)
def u359:=nd c1_64 (nd c3_128 (nd a12 (l1 c12_512) (l1 c16_768)) (nd c8_384 (l1 c15_640) .nil)) (nd c0_23 (nd a12 (l1 a12) .nil) (nd a11 (l1 a11) .nil))
def u360:=nd a11 (nd c7_352 (l1 a11) .nil) (nd c11_480 (l1 c16_736) .nil)
def u361:=nd c4_208 (nd a11 (l1 c13_592) .nil) (nd c11_464 (l1 a11) .nil)
def u362:=nd c5_240 (nd c8_368 (l1 c14_624) .nil) (nd a12 (l1 c16_752) .nil)
def u363:=nd c4_200 (nd c7_328 (l1 c13_584) .nil) (nd (c10_456 P) (l1 c16_712) .nil)
def u364:=nd a11 (nd c7_360 (l1 a12) .nil) (nd a11 (l1 a11) .nil)
def u365:=nd c5_216 (nd c7_344 (l1 c14_600) .nil) (nd c11_472 (l1 a12) .nil)
def u366:=nd a11 (nd a12 (l1 c15_632) .nil) (nd c11_504 (l1 c16_760) .nil)
def u367:=nd (c1_68 P) (nd c3_132 (nd c6_260 (l1 c12_516) (l1 a11)) (nd c8_388 (l1 a11) .nil)) (nd c4_196 (nd c7_324 (l1 c13_580) .nil) (nd c10_452 (l1 c16_708) .nil))
def u368:=nd c5_228 (nd c7_356 (l1 c14_612) .nil) (nd a11 (l1 c16_740) .nil)
def u369:=nd (c5_212 P) (nd a11 (l1 (c14_596 P)) .nil) (nd a12 (l1 c16_724) .nil)
def u370:=nd a11 (nd c8_372 (l1 c0_23) .nil) (nd c11_500 (l1 a12) .nil)
def u371:=nd c4_204 (nd c7_332 (l1 c13_588) .nil) (nd c8_368 (l1 a12) .nil)
def u372:=nd a11 (nd c7_364 (l1 c14_620) .nil) (nd c11_492 (l1 a11) .nil)
def u373:=nd a11 (nd a12 (l1 a11) .nil) (nd c11_476 (l1 c16_732) .nil)
def u374:=nd c6_252 (nd c8_380 (l1 c15_636) .nil) (nd c0_23 (l1 c16_764) .nil)
def u375:=nd c0_35 (nd a11 (nd a11 (l1 a11) (l1 a12)) (nd c8_386 (l1 a12) .nil)) (nd a11 (nd a11 (l1 a11) .nil) (nd c10_450 (l1 c16_706) .nil))
def u376:=nd c5_226 (nd a11 (l1 c14_610) .nil) (nd a12 (l1 c16_738) .nil)
def u377:=nd c4_172 (nd c7_338 (l1 c8_368) .nil) (nd c11_466 (l1 c16_722) .nil)
def u378:=nd a12 (nd (c8_370 P) (l1 c14_626) .nil) (nd a11 (l1 c16_754) .nil)
def u379:=nd c4_202 (nd c7_330 (l1 c13_586) .nil) (nd c10_458 (l1 c16_714) .nil)
def u380:=nd c5_234 (nd (c7_362 P) (l1 a11) .nil) (nd c11_490 (l1 c16_746) .nil)
def u381:=nd a12 (nd c7_346 (l1 a12) .nil) (nd a11 (l1 a11) .nil)
def u382:=nd (c6_250 P) (nd a11 (l1 a11) .nil) (nd c11_506 (l1 a11) .nil)
def u383:=nd c1_70 (nd c3_134 (nd a11 (l1 c12_518) (l1 c16_774)) (nd (c8_390 P) (l1 c15_646) .nil)) (nd a11 (nd a11 (l1 a11) .nil) (nd c10_454 (l1 c16_710) .nil))
def u384:=nd a12 (nd c7_358 (l1 c14_614) .nil) (nd c11_486 (l1 a12) .nil)
def u385:=nd c5_214 (nd c7_342 (l1 c14_598) .nil) (nd a11 (l1 c16_726) .nil)
def u386:=nd c5_246 (nd c8_374 (l1 a11) .nil) (nd c11_502 (l1 a11) .nil)
def u387:=nd (c4_206 P) (nd a12 (l1 (c13_590 P)) .nil) (nd (c11_462 P) (l1 c16_718) .nil)
def u388:=nd c5_238 (nd c7_366 (l1 c14_622) .nil) (nd c11_494 (l1 c16_750) .nil)
def u389:=nd c5_222 (nd a11 (l1 c14_606) .nil) (nd c11_478 (l1 a11) .nil)
def u390:=nd a11 (nd c4_190 (nd c7_318 (l1 c13_574) .nil) (nd c10_446 (l1 a12) .nil)) (nd c6_254 (nd a11 (l1 c15_638) .nil) (nd a11 (l1 c16_766) .nil))
def tc16_:=nd (boot_o_0 P) (nd (boot_o_1 P) (nd (c16_3 P) (nd (boot_o_7 P) (nd a11 (nd c2_31 u327 (nd a11 (u288 P) u328)) (nd c0_35 (nd c1_79 u289 u329) (nd a11 (nd a11 (nd c6_303 (l1 c13_559) .nil) (nd c10_431 (l1 a11) .nil)) (u330 P)))) (nd c0_23 (nd a12 u331 (nd c2_103 (u290 P) u332)) (nd a12 (nd (c2_87 P) u291 u333) (nd (c2_119 P) (nd c4_183 (nd (c7_311 P) (l1 c13_567) .nil) (nd c10_439 (l1 a12) .nil)) (u334 P))))) (nd a11 (nd c0_19 (nd c0_35 u335 (nd c2_99 u292 u336)) (nd c1_51 (nd c1_83 u293 u337) (nd c2_115 (nd a11 (nd c6_307 (l1 c13_563) .nil) (nd a12 (l1 c16_691) .nil)) u338))) (nd c0_27 (nd (c0_43 P) (nd c1_75 u294 u339) (nd a11 u295 u340)) (nd c1_59 (nd c2_91 u296 u341) (nd a11 (nd (c4_187 P) (nd a11 (l1 a11) .nil) (nd c10_443 (l1 c16_699) .nil)) u342))))) (nd (boot_o_5 P) (nd (boot_o_9 P) (nd c0_17 (nd c0_33 (u343 P) (nd c2_97 u297 (u344 P))) (nd (c1_49 P) (nd (c1_81 P) u298 u345) (nd c2_113 (nd c4_177 (nd (c6_305 P) (l1 a11) .nil) (nd c10_433 (l1 (c16_689 P)) .nil)) u346))) (nd a11 (nd c0_41 (nd a11 u299 u347) (nd c0_23 u300 u348)) (nd a11 (nd c2_89 u301 u349) (nd c2_121 (nd c4_185 (nd c0_23 (l1 a12) .nil) (nd a11 (l1 a11) .nil)) u350)))) (nd a13 (nd c0_21 (nd (c0_37 P) (u351 P) (nd c2_101 (u302 P) u352)) (nd c1_53 (nd c0_35 u303 u353) (nd c2_117 (nd c4_181 (nd c6_309 (l1 c13_565) .nil) (nd a11 (l1 c16_693) .nil)) (u354 P)))) (nd a11 (nd c0_45 (nd c1_77 u304 u355) (nd c2_109 (u305 P) u356)) (nd c1_61 (nd a12 u306 u357) (nd (c3_125 P) (nd c4_189 (nd c7_317 (l1 c13_573) .nil) (nd c10_445 (l1 a11) .nil)) (u358 P))))))) (nd (boot_o_2 P) (nd (boot_o_4 P) (nd (boot_o_8 P) (nd a12 (nd c0_32 u359 (nd c2_96 u307 u360)) (nd c0_23 (nd c1_80 (u308 P) u361) (nd a12 (nd c4_176 (nd c6_304 (l1 c13_560) .nil) (nd c10_432 (l1 c0_23) .nil)) u362))) (nd (c0_24 P) (nd c0_40 (nd c1_72 u309 (u363 P)) (nd c0_35 u310 u364)) (nd c1_56 (nd a11 u311 u365) (nd c2_120 (nd c4_184 (nd a11 (l1 a11) .nil) (nd c10_440 (l1 c16_696) .nil)) u366)))) (nd c16_12 (nd c0_20 (nd c0_23 (u367 P) (nd (c2_100 P) u312 u368)) (nd c1_52 (nd c1_84 u313 (u369 P)) (nd c2_116 (nd a12 (nd c6_308 (l1 a11) .nil) (nd c10_436 (l1 c16_692) .nil)) u370))) (nd c0_28 (nd c0_44 (nd a11 (u314 P) u371) (nd c2_108 u315 u372)) (nd c1_60 (nd a11 u316 u373) (nd c0_23 (nd c4_188 (nd c7_316 (l1 c13_572) .nil) (nd a11 (l1 c16_700) .nil)) u374))))) (nd (boot_o_6 P) (nd (boot_o_10 P) (nd a11 (nd c0_34 u375 (nd c2_98 u317 u376)) (nd a11 (nd c1_82 u318 u377) (nd a11 (nd c4_178 (nd c6_306 (l1 a12) .nil) (nd a11 (l1 a11) .nil)) (u378 P)))) (nd a12 (nd a11 (nd a12 u319 u379) (nd (c2_106 P) u320 (u380 P))) (nd c1_58 (nd c2_90 u321 u381) (nd c2_122 (nd a11 (nd (c7_314 P) (l1 c13_570) .nil) (nd a12 (l1 c16_698) .nil)) (u382 P))))) (nd a14 (nd c0_22 (nd a11 (u383 P) (nd c2_102 (u322 P) u384)) (nd a11 (nd c0_23 u323 u385) (nd c2_118 (nd a11 (nd c6_310 (l1 c13_566) .nil) (nd c10_438 (l1 a11) .nil)) u386))) (nd (c0_30 P) (nd c0_46 (nd c1_78 u324 (u387 P)) (nd c2_110 (u325 P) u388)) (nd (c1_62 P) (nd c2_94 u326 u389) u390)))))
def c17_3:=Obj.mk y3 none (Data.dict (A [de P q3 165 (vs q173 1158),de P q5 166 vn,de P q6 167 vn,de P q7 168 y4,de P q8 169 vn,de P q9 170 (vr 6),de P q10 171 (vr 4),de P q11 173 (vs q1 172),de P q12 174 vn,de P q13 193 (vr 21),de P q14 213 (vr 31),de P q15 229 (vr 44),de P q22 254 (vr 63),de P q23 279 (vr 82),de P q30 304 (vr 101),de P q31 329 (vr 120),de P q34 392 (vr 167),de P q48 415 (vr 188),de P q49 438 (vr 207),de P q53 461 (vr 226),de P q54 465 (vi 400 464),de P q55 467 (vi 2000 466),de P q56 469 (vi 2000 468),de P q57 471 (vi 8 470),de P q58 473 (vi 100000 472),de P q59 475 (vi 32 474),de P q60 477 (vi 37 476),de P q61 479 (vi 126 478),de P q62 486 (vr 235),de P q63 492 (vr 240),de P q64 500 (vr 247),de P q70 583 (vr 306),de P q71 587 (vi 40 586),de P q94 609 (vr 311),de P q95 674 (vr 363),de P q121 708 (vr 391),de P q126 747 (vr 424),de P q130 786 (vr 457),de P q134 845 (vr 504),de P q142 891 (vr 544),de P q147 949 (vr 591),de P q154 990 (vr 624),de P q159 1031 (vr 657),de P q160 1037 (vr 664),de P q76 1046 (vr 671),de P q161 1054 (vr 678),de P q162 1063 (vr 685),de P q163 1068 (vr 686),de P q164 1070 (vi 12 1069),de P q174 1109 (vr 710),de P q175 1115 (vr 719),de P q176 1123 (vr 726),de P q177 1131 (vr 733),de P q178 1140 (vr 740),de P q179 1149 (vr 747),de P q180 1157 (vr 754),de P q181 1167 (vr 761),de P q182 1174 (vr 768),de P q183 1183 (vr 775),de P q196 1191 (vr 782),de P q197 1204 (vr 789),de P q198 1213 (vr 796),de P q199 1224 (vr 803),de P q200 1234 (vr 810),de P q201 1243 (vr 817),de P q202 1252 (vr 824),de P q203 1258 (vr 829)]) 67) E
def c17_12:=Obj.mk vn none (Data.fields (A [vi 1 0,vi 0 0,vr 20,vi 5 0,vi 0 0,vr 27,vi 7 0,vi 0 0,vr 40,vi 9 0,vi 0 0,vr 52,vi 13 0,vi 0 0,vr 71,vi 17 0,vi 0 0,vr 90,vi 21 0,vi 0 0,vr 109,vi 26 0,vi 0 0,vr 128,vi 43 0,vi 0 0,vr 177,vi 47 0,vi 0 0,vr 196,vi 51 0,vi 0 0,vr 215,vi 64 0,vi 0 0,vr 234,vi 66 0,vi 0 0,vr 239,vi 76 0,vi 0 0,vr 246,vi 79 0,vi 0 0,vr 253,vi 146 0,vi 0 0,vr 317,vi 165 0,vi 0 0,vr 373,vi 173 0,vi 0 0,vr 399,vi 183 0,vi 0 0,vr 432,vi 193 0,vi 0 0,vr 465,vi 211 0,vi 0 0,vr 512,vi 224 0,vi 0 0,vr 552,vi 241 0,vi 0 0,vr 599,vi 251 0,vi 0 0,vr 632,vi 261 0,vi 0 0,vr 663,vi 267 0,vi 0 0,vr 670,vi 277 0,vi 0 0,vr 677,vi 291 0,vi 0 0,vr 684,vi 298 0,vi 0 0,vr 692,vi 307 0,vi 0 0,vr 718,vi 315 0,vi 0 0,vr 725,vi 320 0,vi 0 0,vr 732,vi 325 0,vi 0 0,vr 739,vi 331 0,vi 0 0,vr 746,vi 334 0,vi 0 0,vr 753,vi 339 0,vi 0 0,vr 760,vi 343 0,vi 0 0,vr 767,vi 345 0,vi 0 0,vr 774,vi 348 0,vi 0 0,vr 781,vi 354 0,vi 0 0,vr 788,vi 369 0,vi 0 0,vr 795,vi 376 0,vi 0 0,vr 802,vi 386 0,vi 0 0,vr 809,vi 399 0,vi 0 0,vr 816,vi 405 0,vi 0 0,vr 823,vi 411 0,vi 0 0,vr 828])) E
def c17_778:=m14 q195 1187 q204 1188
def c17_780:=m4 q196 q196 (B 56)
def c17_781:=m5 q196 1184 q196 1185 1186 348 2 776 777 778 779 780 1189 1190
def c17_782:=m6 q196 q196 (B 56) q173 1158 781
def c17_785:=Obj.mk y0 none (Data.seq (A [vs q194 1195,vs q205 1196,vs q206 1197,vs q207 1198,vs q204 1199,vs q208 1200,vs q209 1201]) 0) E
def c17_787:=m4 q197 q197 (B 57)
def c17_788:=m5 q197 1192 q197 1193 1194 354 2 783 784 785 786 787 1202 1203
def c17_789:=m6 q197 q197 (B 57) q173 1158 788
def c17_792:=m16 q210 1208 q205 1209 q211 1210
def c17_794:=m4 q198 q198 (B 58)
def c17_795:=m5 q198 1205 q198 1206 1207 369 2 790 791 792 793 794 1211 1212
def c17_796:=m6 q198 q198 (B 58) q173 1158 795
def c17_799:=Obj.mk y0 none (Data.seq (A [vs q212 1217,vs q213 1218,vs q205 1219,vs q192 1220,vs q214 1221]) 0) E
def c17_801:=m4 q199 q199 (B 59)
def c17_802:=m5 q199 1214 q199 1215 1216 376 3 797 798 799 800 801 1222 1223
def c17_803:=m6 q199 q199 (B 59) q173 1158 802
def c17_806:=m19 q215 1228 q205 1229 q193 1230 q216 1231
def c17_808:=m4 q200 q200 (B 60)
def c17_809:=m5 q200 1225 q200 1226 1227 386 2 804 805 806 807 808 1232 1233
def c17_810:=m6 q200 q200 (B 60) q173 1158 809
def c17_813:=m16 q215 1238 q205 1239 q216 1240
def c17_815:=m4 q201 q201 (B 61)
def c17_816:=m5 q201 1235 q201 1236 1237 399 2 811 812 813 814 815 1241 1242
def c17_817:=m6 q201 q201 (B 61) q173 1158 816
def c17_820:=m16 q195 1247 q217 1248 q216 1249
def c17_822:=m4 q202 q202 (B 62)
def c17_823:=m5 q202 1244 q202 1245 1246 405 1 818 819 820 821 822 1250 1251
def c17_824:=m6 q202 q202 (B 62) q173 1158 823
def c17_827:=m4 q203 q203 (B 63)
def c17_828:=m18 q203 1253 1254 1255 411 825 826 827 1256 1257
def c17_829:=m6 q203 q203 (B 63) q173 1158 828
def u391:=nd (boot_o_0 P) (nd (boot_o_1 P) (nd (c17_3 P) (nd (boot_o_7 P) (nd a11 (nd c2_31 u327 (nd a11 (nd a12 (nd c6_287 (l1 (c12_543 P)) (l1 c17_799)) (nd a11 (l1 c15_671) .nil)) u328)) (nd c0_35 (nd c1_79 (nd c3_143 (nd c6_271 (l1 c12_527) (l1 a11)) (nd c9_399 (l1 c15_655) .nil)) u329) (nd a11 (nd a11 (nd c6_303 (l1 c13_559) (l1 c17_815)) (nd c10_431 (l1 a11) .nil)) (u330 P)))) (nd c0_23 (nd a12 u331 (nd c2_103 (nd c5_167 (nd c6_295 (l1 c13_551) (l1 a11)) (nd (c9_423 P) (l1 a11) .nil)) u332)) (nd a12 (nd (c2_87 P) (nd a11 (nd a11 (l1 a11) (l1 a12)) (nd c9_407 (l1 c15_663) .nil)) u333) (nd (c2_119 P) (nd c4_183 (nd (c7_311 P) (l1 c13_567) (l1 c17_823)) (nd c10_439 (l1 a12) .nil)) (u334 P))))) (nd a11 (nd c0_19 (nd c0_35 u335 (nd c2_99 (nd c3_163 (nd a12 (l1 c9_394) (l1 c17_803)) (nd c9_419 (l1 a11) .nil)) u336)) (nd c1_51 (nd c1_83 (nd a11 (nd c6_275 (l1 a11) (l1 c17_787)) (nd c9_403 (l1 c15_659) .nil)) u337) (nd c2_115 (nd a11 (nd c6_307 (l1 c13_563) (l1 a12)) (nd a12 (l1 c16_691) .nil)) u338))) (nd c0_27 (nd (c0_43 P) (nd c1_75 (nd c3_139 (nd c6_267 (l1 c12_523) (l1 a11)) (nd c0_23 (l1 a11) .nil)) u339) (nd a11 (nd c3_171 (nd c6_299 (l1 a12) (l1 a11)) (nd c9_394 (l1 c15_683) .nil)) u340)) (nd c1_59 (nd c2_91 (nd c3_155 (nd a11 (l1 c12_539) (l1 c17_795)) (nd a11 (l1 c15_667) .nil)) u341) (nd a11 (nd (c4_187 P) (nd a11 (l1 a11) (l1 c17_827)) (nd c10_443 (l1 c16_699) .nil)) u342))))) (nd (boot_o_5 P) (nd (boot_o_9 P) (nd c0_17 (nd c0_33 (u343 P) (nd c2_97 (nd a11 (nd c6_289 (l1 c12_545) (l1 c17_801)) (nd c9_417 (l1 a12) .nil)) (u344 P))) (nd (c1_49 P) (nd (c1_81 P) (nd a12 (nd c6_273 (l1 a12) (l1 c17_785)) (nd a11 (l1 c15_657) .nil)) u345) (nd c2_113 (nd c4_177 (nd (c6_305 P) (l1 a11) (l1 c17_817)) (nd c10_433 (l1 (c16_689 P)) .nil)) u346))) (nd a11 (nd c0_41 (nd a11 (nd a11 (nd a11 (l1 a11) (l1 a12)) (nd c8_393 (l1 a12) .nil)) u347) (nd c0_23 (nd c3_169 (nd a11 (l1 c13_553) (l1 c17_809)) (nd c9_425 (l1 c15_681) .nil)) u348)) (nd a11 (nd c2_89 (nd c3_153 (nd c6_281 (l1 c12_537) (l1 a11)) (nd a12 (l1 a11) .nil)) u349) (nd c2_121 (nd c4_185 (nd c0_23 (l1 a12) (l1 a11)) (nd a11 (l1 a11) .nil)) u350)))) (nd a13 (nd c0_21 (nd (c0_37 P) (u351 P) (nd c2_101 (nd c3_165 (nd a11 (l1 (c13_549 P)) (l1 a12)) (nd c9_421 (l1 c15_677) .nil)) u352)) (nd c1_53 (nd c0_35 (nd c3_149 (nd a12 (l1 c12_533) (l1 c17_789)) (nd c9_405 (l1 a12) .nil)) u353) (nd c2_117 (nd c4_181 (nd c6_309 (l1 c13_565) (l1 a11)) (nd a11 (l1 c16_693) .nil)) (u354 P)))) (nd a11 (nd c0_45 (nd c1_77 (nd c3_141 (nd a11 (l1 c12_525) (l1 c17_781)) (nd a11 (l1 c15_653) .nil)) u355) (nd c2_109 (nd c0_23 (nd c6_301 (l1 a11) (l1 c17_813)) (nd (c10_429 P) (l1 c15_685) .nil)) u356)) (nd c1_61 (nd a12 (nd c3_157 (nd c6_285 (l1 c12_541) (l1 a11)) (nd c9_413 (l1 c15_669) .nil)) u357) (nd (c3_125 P) (nd c4_189 (nd c7_317 (l1 c13_573) (l1 c17_829)) (nd c10_445 (l1 a11) .nil)) (u358 P))))))) (nd (boot_o_2 P) (nd (boot_o_4 P) (nd (boot_o_8 P) (nd a12 (nd c0_32 u359 (nd c2_96 (nd c3_160 (nd c6_288 (l1 c12_544) (l1 a11)) (nd a12 (l1 a11) .nil)) u360)) (nd c0_23 (nd c1_80 (nd a11 (nd a11 (l1 a11) (l1 a12)) (nd c9_400 (l1 (c15_656 P)) .nil)) u361) (nd a12 (nd c4_176 (nd c6_304 (l1 c13_560) (l1 c17_816)) (nd c10_432 (l1 c0_23) .nil)) u362))) (nd (c0_24 P) (nd c0_40 (nd c1_72 (nd c3_136 (nd c6_264 (l1 c12_520) (l1 a11)) (nd c8_392 (l1 a11) .nil)) (u363 P)) (nd c0_35 (nd c3_168 (nd c6_296 (l1 c13_552) (l1 c17_808)) (nd c9_424 (l1 a12) .nil)) u364)) (nd c1_56 (nd a11 (nd a12 (nd c6_280 (l1 a12) (l1 c17_792)) (nd a11 (l1 c15_664) .nil)) u365) (nd c2_120 (nd c4_184 (nd a11 (l1 a11) (l1 c17_824)) (nd c10_440 (l1 c16_696) .nil)) u366)))) (nd c17_12 (nd c0_20 (nd c0_23 (u367 P) (nd (c2_100 P) (nd c3_164 (nd c6_292 (l1 c0_23) (l1 a11)) (nd c9_420 (l1 c15_676) .nil)) u368)) (nd c1_52 (nd c1_84 (nd c3_148 (nd a11 (l1 c12_532) (l1 c17_788)) (nd a11 (l1 a11) .nil)) (u369 P)) (nd c2_116 (nd a12 (nd c6_308 (l1 a11) (l1 c17_820)) (nd c10_436 (l1 c16_692) .nil)) u370))) (nd c0_28 (nd c0_44 (nd a11 (nd a11 (nd c6_268 (l1 a11) (l1 c17_780)) (nd (c9_396 P) (l1 c15_652) .nil)) u371) (nd c2_108 (nd c4_172 (nd a11 (l1 c13_556) (l1 a12)) (nd c0_23 (l1 c15_684) .nil)) u372)) (nd c1_60 (nd a11 (nd c3_156 (nd a12 (l1 c12_540) (l1 c17_796)) (nd c9_412 (l1 a11) .nil)) u373) (nd c0_23 (nd c4_188 (nd c7_316 (l1 c13_572) (l1 c17_828)) (nd a11 (l1 c16_700) .nil)) u374))))) (nd (boot_o_6 P) (nd (boot_o_10 P) (nd a11 (nd c0_34 u375 (nd c2_98 (nd c3_162 (nd a11 (l1 c12_546) (l1 c17_802)) (nd a11 (l1 c15_674) .nil)) u376)) (nd a11 (nd c1_82 (nd c3_146 (nd c6_274 (l1 c12_530) (l1 a11)) (nd a12 (l1 c15_658) .nil)) u377) (nd a11 (nd c4_178 (nd c6_306 (l1 a12) (l1 a11)) (nd a11 (l1 a11) .nil)) (u378 P)))) (nd a12 (nd a11 (nd a12 (nd a12 (nd c6_266 (l1 a12) (l1 c17_778)) (nd c9_394 (l1 c15_650) .nil)) u379) (nd (c2_106 P) (nd c3_170 (nd a12 (l1 a11) (l1 c17_810)) (nd c9_426 (l1 a11) .nil)) (u380 P))) (nd c1_58 (nd c2_90 (nd a11 (nd c6_282 (l1 a11) (l1 c17_794)) (nd c9_410 (l1 a12) .nil)) u381) (nd c2_122 (nd a11 (nd (c7_314 P) (l1 c13_570) (l1 a12)) (nd a12 (l1 c16_698) .nil)) (u382 P))))) (nd a14 (nd c0_22 (nd a11 (u383 P) (nd c2_102 (nd (c3_166 P) (nd c6_294 (l1 a11) (l1 c17_806)) (nd a11 (l1 c15_678) .nil)) u384)) (nd a11 (nd c0_23 (nd c3_150 (nd c6_278 (l1 c12_534) (l1 a11)) (nd c9_406 (l1 c15_662) .nil)) u385) (nd c2_118 (nd a11 (nd c6_310 (l1 c13_566) (l1 c17_822)) (nd c10_438 (l1 a11) .nil)) u386))) (nd (c0_30 P) (nd c0_46 (nd c1_78 (nd c3_142 (nd a12 (l1 c12_526) (l1 c17_782)) (nd c9_398 (l1 c15_654) .nil)) (u387 P)) (nd c2_110 (nd (c4_174 P) (nd c6_302 (l1 c13_558) (l1 a11)) (nd a11 (l1 c15_686) .nil)) u388)) (nd (c1_62 P) (nd c2_94 (nd a11 (nd a11 (l1 a11) (l1 a12)) (nd c9_414 (l1 c15_670) .nil)) u389) u390)))))
def tc17_:=u391 P
def tz:=u391 P
end
noncomputable def sa (w : World) (os : OsState) : SharedT := SharedT.mk (ta w.params) 15 (@Life.mk [] [] [] 0 [] [] false E [] 0 false false false 0 [2000, 10, 10] false 0 true [] [] 0 false) E (@Drawn.mk 0 0 0 0) 187 os
noncomputable def sb (w : World) (os : OsState) : SharedT := SharedT.mk (tb w.params) 15 (@Life.mk [] [] [] 0 [] [] false E [] 0 false false false 0 [2000, 10, 10] false 0 true [] [] 0 false) E (@Drawn.mk 0 0 0 0) 187 os
noncomputable def sc0_ (w : World) (os : OsState) : SharedT := SharedT.mk (tc0_ w.params) 47 (@Life.mk [] [] [] 0 [] [] false E [] 0 false false false 0 [2000, 10, 10] false 0 true [] [] 0 false) E (@Drawn.mk 0 0 0 0) 230 os
noncomputable def sc1_ (w : World) (os : OsState) : SharedT := SharedT.mk (tc1_ w.params) 85 (@Life.mk [] [] [] 0 [] [] false E [] 0 false false false 0 [2000, 10, 10] false 0 true [] [] 0 false) E (@Drawn.mk 0 0 0 0) 280 os
noncomputable def sc2_ (w : World) (os : OsState) : SharedT := SharedT.mk (tc2_ w.params) 123 (@Life.mk [] [] [] 0 [] [] false E [] 0 false false false 0 [2000, 10, 10] false 0 true [] [] 0 false) E (@Drawn.mk 0 0 0 0) 332 os
noncomputable def sc3_ (w : World) (os : OsState) : SharedT := SharedT.mk (tc3_ w.params) 172 (@Life.mk [] [] [] 0 [] [] false E [] 0 false false false 0 [2000, 10, 10] false 0 true [] [] 0 false) E (@Drawn.mk 0 0 0 0) 393 os
noncomputable def sc4_ (w : World) (os : OsState) : SharedT := SharedT.mk (tc4_ w.params) 210 (@Life.mk [] [] [] 0 [] [] false E [] 0 false false false 0 [2000, 10, 10] false 0 true [] [] 0 false) E (@Drawn.mk 0 0 0 0) 439 os
noncomputable def sc5_ (w : World) (os : OsState) : SharedT := SharedT.mk (tc5_ w.params) 248 (@Life.mk [] [] [] 0 [] [] false E [] 0 false false false 0 [2000, 10, 10] false 0 true [] [] 0 false) E (@Drawn.mk 0 0 0 0) 501 os
noncomputable def sc6_ (w : World) (os : OsState) : SharedT := SharedT.mk (tc6_ w.params) 311 (@Life.mk [] [] [] 0 [] [] false E [] 0 false false false 0 [2000, 10, 10] false 0 true [] [] 0 false) E (@Drawn.mk 0 0 0 0) 588 os
noncomputable def sc7_ (w : World) (os : OsState) : SharedT := SharedT.mk (tc7_ w.params) 368 (@Life.mk [] [] [] 0 [] [] false E [] 0 false false false 0 [2000, 10, 10] false 0 true [] [] 0 false) E (@Drawn.mk 0 0 0 0) 675 os
noncomputable def sc8_ (w : World) (os : OsState) : SharedT := SharedT.mk (tc8_ w.params) 394 (@Life.mk [] [] [] 0 [] [] false E [] 0 false false false 0 [2000, 10, 10] false 0 true [] [] 0 false) E (@Drawn.mk 0 0 0 0) 709 os
noncomputable def sc9_ (w : World) (os : OsState) : SharedT := SharedT.mk (tc9_ w.params) 427 (@Life.mk [] [] [] 0 [] [] false E [] 0 false false false 0 [2000, 10, 10] false 0 true [] [] 0 false) E (@Drawn.mk 0 0 0 0) 748 os
noncomputable def sc10_ (w : World) (os : OsState) : SharedT := SharedT.mk (tc10_ w.params) 460 (@Life.mk [] [] [] 0 [] [] false E [] 0 false false false 0 [2000, 10, 10] false 0 true [] [] 0 false) E (@Drawn.mk 0 0 0 0) 787 os
noncomputable def sc11_ (w : World) (os : OsState) : SharedT := SharedT.mk (tc11_ w.params) 507 (@Life.mk [] [] [] 0 [] [] false E [] 0 false false false 0 [2000, 10, 10] false 0 true [] [] 0 false) E (@Drawn.mk 0 0 0 0) 846 os
noncomputable def sc12_ (w : World) (os : OsState) : SharedT := SharedT.mk (tc12_ w.params) 547 (@Life.mk [] [] [] 0 [] [] false E [] 0 false false false 0 [2000, 10, 10] false 0 true [] [] 0 false) E (@Drawn.mk 0 0 0 0) 892 os
noncomputable def sc13_ (w : World) (os : OsState) : SharedT := SharedT.mk (tc13_ w.params) 594 (@Life.mk [] [] [] 0 [] [] false E [] 0 false false false 0 [2000, 10, 10] false 0 true [] [] 0 false) E (@Drawn.mk 0 0 0 0) 950 os
noncomputable def sc14_ (w : World) (os : OsState) : SharedT := SharedT.mk (tc14_ w.params) 627 (@Life.mk [] [] [] 0 [] [] false E [] 0 false false false 0 [2000, 10, 10] false 0 true [] [] 0 false) E (@Drawn.mk 0 0 0 0) 991 os
noncomputable def sc15_ (w : World) (os : OsState) : SharedT := SharedT.mk (tc15_ w.params) 687 (@Life.mk [] [] [] 0 [] [] false E [] 0 false false false 0 [2000, 10, 10] false 0 true [] [] 0 false) E (@Drawn.mk 0 0 0 0) 1071 os
noncomputable def sc16_ (w : World) (os : OsState) : SharedT := SharedT.mk (tc16_ w.params) 776 (@Life.mk [] [] [] 0 [] [] false E [] 0 false false false 0 [2000, 10, 10] false 0 true [] [] 0 false) E (@Drawn.mk 0 0 0 0) 1184 os
noncomputable def sc17_ (w : World) (os : OsState) : SharedT := SharedT.mk (tc17_ w.params) 830 (@Life.mk [] [] [] 0 [] [] false E [] 0 false false false 0 [2000, 10, 10] false 0 true [] [] 0 false) E (@Drawn.mk 0 0 0 0) 1259 os
noncomputable abbrev e0 : Env := { scope := p0.main.scope, locals := mainNs, globals := mainNs, cells := [], code := (vr 13), frame := some 14 }
noncomputable abbrev en : Env := { scope := pq.main.scope, locals := mainNs, globals := mainNs, cells := [], code := (vr 13), frame := some 14 }
theorem bs : behindTheImports p0 = ((p0.main.body.drop 0).take 4 ++ ((p0.main.body.drop 4).take 2 ++ ((p0.main.body.drop 6).take 3 ++ ((p0.main.body.drop 9).take 1 ++ ((p0.main.body.drop 10).take 2 ++ ((p0.main.body.drop 12).take 13 ++ ((p0.main.body.drop 25).take 3 ++ ((p0.main.body.drop 28).take 2 ++ ((p0.main.body.drop 30).take 1 ++ ((p0.main.body.drop 31).take 1 ++ ((p0.main.body.drop 32).take 1 ++ ((p0.main.body.drop 33).take 1 ++ ((p0.main.body.drop 34).take 1 ++ ((p0.main.body.drop 35).take 1 ++ ((p0.main.body.drop 36).take 1 ++ ((p0.main.body.drop 37).take 8 ++ ((p0.main.body.drop 45).take 11 ++ ((p0.main.body.drop 56).take 8 ++ [])))))))))))))))))) := by kernel_rfl
theorem pre_l (w : World) (os : OsState) : topGo treeTable p0 w 11 (sr 6) 12 ⟨boot_heap w.params, Array.mk [], boot_drawn, boot_toks, os⟩ (topStub p0) = some ((sa w os).abs, ⟨denote treeTable (Code.body (behindTheImports p0) e0), Code.body (behindTheImports p0) e0, (@Pos.mk 0 0 0 0), [topFrame (@Pos.mk 0 0 0 0)]⟩) := by
  rw [PySem.W.Fast.te15667345088766844465, PySem.W.Fast.te14364793385576792824, PySem.W.Fast.te11892475500146522536, pe]
  kernel_rfl
theorem blk_l (w : World) (os : OsState) : segRun treeTable p0 w 11 (sr 6) 1 1 (sa w os).abs (blockOf (behindTheImports p0) e0 (Code.body (behindTheImports p0) e0) (@Pos.mk 0 0 0 0) [topFrame (@Pos.mk 0 0 0 0)]) = some (Flow.next, (sb w os).abs, Code.body (behindTheImports p0) e0, (@Pos.mk 0 0 0 0)) := by
  refine segRun_of ?_
  rw [PySem.W.Fast.te10110043849684766642, PySem.W.Fast.te14364793385576792824, pe]
  kernel_rfl
theorem g0 (p : Program) (b : List Stmt) : ∀ w : World, (fun os => PySem.W.Fast.tw10110043849684766642 PySem.W.Fast.tw14364793385576792824 p w 11 (sr 6) 1 438 (sb w os) (piecesOf ((pq.main.body.drop 0).take 4) en (Code.body b en) (@Pos.mk 0 0 0 0) [topFrame (@Pos.mk 0 0 0 0)])) = (fun os => some (Flow.next, sc0_ w os, Code.body b en, (@Pos.mk 7 0 8 8))) := fun w => by kernel_rfl
theorem h0 (b : List Stmt) (w : World) (os : OsState) : segRun treeTable p0 w 11 (sr 6) 1 438 (sb w os).abs (piecesOf ((p0.main.body.drop 0).take 4) e0 (Code.body b e0) (@Pos.mk 0 0 0 0) [topFrame (@Pos.mk 0 0 0 0)]) = some (Flow.next, (sc0_ w os).abs, Code.body b e0, (@Pos.mk 7 0 8 8)) := by
  refine segRun_of ?_
  rw [PySem.W.Fast.te10110043849684766642, PySem.W.Fast.te14364793385576792824, pe]
  exact congrFun (g0 pq b w) os
theorem g1 (p : Program) (b : List Stmt) : ∀ w : World, (fun os => PySem.W.Fast.tw10110043849684766642 PySem.W.Fast.tw14364793385576792824 p w 11 (sr 6) 1 491 (sc0_ w os) (piecesOf ((pq.main.body.drop 4).take 2) en (Code.body b en) (@Pos.mk 7 0 8 8) [topFrame (@Pos.mk 0 0 0 0)])) = (fun os => some (Flow.next, sc1_ w os, Code.body b en, (@Pos.mk 13 0 16 20))) := fun w => by kernel_rfl
theorem h1 (b : List Stmt) (w : World) (os : OsState) : segRun treeTable p0 w 11 (sr 6) 1 491 (sc0_ w os).abs (piecesOf ((p0.main.body.drop 4).take 2) e0 (Code.body b e0) (@Pos.mk 7 0 8 8) [topFrame (@Pos.mk 0 0 0 0)]) = some (Flow.next, (sc1_ w os).abs, Code.body b e0, (@Pos.mk 13 0 16 20)) := by
  refine segRun_of ?_
  rw [PySem.W.Fast.te10110043849684766642, PySem.W.Fast.te14364793385576792824, pe]
  exact congrFun (g1 pq b w) os
theorem g2 (p : Program) (b : List Stmt) : ∀ w : World, (fun os => PySem.W.Fast.tw10110043849684766642 PySem.W.Fast.tw14364793385576792824 p w 11 (sr 6) 1 500 (sc1_ w os) (piecesOf ((pq.main.body.drop 6).take 3) en (Code.body b en) (@Pos.mk 13 0 16 20) [topFrame (@Pos.mk 0 0 0 0)])) = (fun os => some (Flow.next, sc2_ w os, Code.body b en, (@Pos.mk 25 0 25 8))) := fun w => by kernel_rfl
theorem h2 (b : List Stmt) (w : World) (os : OsState) : segRun treeTable p0 w 11 (sr 6) 1 500 (sc1_ w os).abs (piecesOf ((p0.main.body.drop 6).take 3) e0 (Code.body b e0) (@Pos.mk 13 0 16 20) [topFrame (@Pos.mk 0 0 0 0)]) = some (Flow.next, (sc2_ w os).abs, Code.body b e0, (@Pos.mk 25 0 25 8)) := by
  refine segRun_of ?_
  rw [PySem.W.Fast.te10110043849684766642, PySem.W.Fast.te14364793385576792824, pe]
  exact congrFun (g2 pq b w) os
theorem g3 (p : Program) (b : List Stmt) : ∀ w : World, (fun os => PySem.W.Fast.tw10110043849684766642 PySem.W.Fast.tw14364793385576792824 p w 11 (sr 6) 1 351 (sc2_ w os) (piecesOf ((pq.main.body.drop 9).take 1) en (Code.body b en) (@Pos.mk 25 0 25 8) [topFrame (@Pos.mk 0 0 0 0)])) = (fun os => some (Flow.next, sc3_ w os, Code.body b en, (@Pos.mk 26 0 42 51))) := fun w => by kernel_rfl
theorem h3 (b : List Stmt) (w : World) (os : OsState) : segRun treeTable p0 w 11 (sr 6) 1 351 (sc2_ w os).abs (piecesOf ((p0.main.body.drop 9).take 1) e0 (Code.body b e0) (@Pos.mk 25 0 25 8) [topFrame (@Pos.mk 0 0 0 0)]) = some (Flow.next, (sc3_ w os).abs, Code.body b e0, (@Pos.mk 26 0 42 51)) := by
  refine segRun_of ?_
  rw [PySem.W.Fast.te10110043849684766642, PySem.W.Fast.te14364793385576792824, pe]
  exact congrFun (g3 pq b w) os
theorem g4 (p : Program) (b : List Stmt) : ∀ w : World, (fun os => PySem.W.Fast.tw10110043849684766642 PySem.W.Fast.tw14364793385576792824 p w 11 (sr 6) 1 487 (sc3_ w os) (piecesOf ((pq.main.body.drop 10).take 2) en (Code.body b en) (@Pos.mk 26 0 42 51) [topFrame (@Pos.mk 0 0 0 0)])) = (fun os => some (Flow.next, sc4_ w os, Code.body b en, (@Pos.mk 47 0 50 21))) := fun w => by kernel_rfl
theorem h4 (b : List Stmt) (w : World) (os : OsState) : segRun treeTable p0 w 11 (sr 6) 1 487 (sc3_ w os).abs (piecesOf ((p0.main.body.drop 10).take 2) e0 (Code.body b e0) (@Pos.mk 26 0 42 51) [topFrame (@Pos.mk 0 0 0 0)]) = some (Flow.next, (sc4_ w os).abs, Code.body b e0, (@Pos.mk 47 0 50 21)) := by
  refine segRun_of ?_
  rw [PySem.W.Fast.te10110043849684766642, PySem.W.Fast.te14364793385576792824, pe]
  exact congrFun (g4 pq b w) os
theorem g5 (p : Program) (b : List Stmt) : ∀ w : World, (fun os => PySem.W.Fast.tw10110043849684766642 PySem.W.Fast.tw14364793385576792824 p w 11 (sr 6) 1 410 (sc4_ w os) (piecesOf ((pq.main.body.drop 12).take 13) en (Code.body b en) (@Pos.mk 47 0 50 21) [topFrame (@Pos.mk 0 0 0 0)])) = (fun os => some (Flow.next, sc5_ w os, Code.body b en, (@Pos.mk 76 0 78 57))) := fun w => by kernel_rfl
theorem h5 (b : List Stmt) (w : World) (os : OsState) : segRun treeTable p0 w 11 (sr 6) 1 410 (sc4_ w os).abs (piecesOf ((p0.main.body.drop 12).take 13) e0 (Code.body b e0) (@Pos.mk 47 0 50 21) [topFrame (@Pos.mk 0 0 0 0)]) = some (Flow.next, (sc5_ w os).abs, Code.body b e0, (@Pos.mk 76 0 78 57)) := by
  refine segRun_of ?_
  rw [PySem.W.Fast.te10110043849684766642, PySem.W.Fast.te14364793385576792824, pe]
  exact congrFun (g5 pq b w) os
theorem g6 (p : Program) (b : List Stmt) : ∀ w : World, (fun os => PySem.W.Fast.tw10110043849684766642 PySem.W.Fast.tw14364793385576792824 p w 11 (sr 6) 1 439 (sc5_ w os) (piecesOf ((pq.main.body.drop 25).take 3) en (Code.body b en) (@Pos.mk 76 0 78 57) [topFrame (@Pos.mk 0 0 0 0)])) = (fun os => some (Flow.next, sc6_ w os, Code.body b en, (@Pos.mk 144 0 144 18))) := fun w => by kernel_rfl
theorem h6 (b : List Stmt) (w : World) (os : OsState) : segRun treeTable p0 w 11 (sr 6) 1 439 (sc5_ w os).abs (piecesOf ((p0.main.body.drop 25).take 3) e0 (Code.body b e0) (@Pos.mk 76 0 78 57) [topFrame (@Pos.mk 0 0 0 0)]) = some (Flow.next, (sc6_ w os).abs, Code.body b e0, (@Pos.mk 144 0 144 18)) := by
  refine segRun_of ?_
  rw [PySem.W.Fast.te10110043849684766642, PySem.W.Fast.te14364793385576792824, pe]
  exact congrFun (g6 pq b w) os
theorem g7 (p : Program) (b : List Stmt) : ∀ w : World, (fun os => PySem.W.Fast.tw10110043849684766642 PySem.W.Fast.tw14364793385576792824 p w 11 (sr 6) 1 494 (sc6_ w os) (piecesOf ((pq.main.body.drop 28).take 2) en (Code.body b en) (@Pos.mk 144 0 144 18) [topFrame (@Pos.mk 0 0 0 0)])) = (fun os => some (Flow.next, sc7_ w os, Code.body b en, (@Pos.mk 146 0 164 16))) := byRow2 "special-get-raises" (P := fun w => (fun os => PySem.W.Fast.tw10110043849684766642 PySem.W.Fast.tw14364793385576792824 p w 11 (sr 6) 1 494 (sc6_ w os) (piecesOf ((pq.main.body.drop 28).take 2) en (Code.body b en) (@Pos.mk 144 0 144 18) [topFrame (@Pos.mk 0 0 0 0)])) = (fun os => some (Flow.next, sc7_ w os, Code.body b en, (@Pos.mk 146 0 164 16)))) (fun w => by kernel_rfl) (fun w => by kernel_rfl)
theorem h7 (b : List Stmt) (w : World) (os : OsState) : segRun treeTable p0 w 11 (sr 6) 1 494 (sc6_ w os).abs (piecesOf ((p0.main.body.drop 28).take 2) e0 (Code.body b e0) (@Pos.mk 144 0 144 18) [topFrame (@Pos.mk 0 0 0 0)]) = some (Flow.next, (sc7_ w os).abs, Code.body b e0, (@Pos.mk 146 0 164 16)) := by
  refine segRun_of ?_
  rw [PySem.W.Fast.te10110043849684766642, PySem.W.Fast.te14364793385576792824, pe]
  exact congrFun (g7 pq b w) os
theorem g8 (p : Program) (b : List Stmt) : ∀ w : World, (fun os => PySem.W.Fast.tw10110043849684766642 PySem.W.Fast.tw14364793385576792824 p w 11 (sr 6) 1 279 (sc7_ w os) (piecesOf ((pq.main.body.drop 30).take 1) en (Code.body b en) (@Pos.mk 146 0 164 16) [topFrame (@Pos.mk 0 0 0 0)])) = (fun os => some (Flow.next, sc8_ w os, Code.body b en, (@Pos.mk 165 0 172 25))) := fun w => by kernel_rfl
theorem h8 (b : List Stmt) (w : World) (os : OsState) : segRun treeTable p0 w 11 (sr 6) 1 279 (sc7_ w os).abs (piecesOf ((p0.main.body.drop 30).take 1) e0 (Code.body b e0) (@Pos.mk 146 0 164 16) [topFrame (@Pos.mk 0 0 0 0)]) = some (Flow.next, (sc8_ w os).abs, Code.body b e0, (@Pos.mk 165 0 172 25)) := by
  refine segRun_of ?_
  rw [PySem.W.Fast.te10110043849684766642, PySem.W.Fast.te14364793385576792824, pe]
  exact congrFun (g8 pq b w) os
theorem g9 (p : Program) (b : List Stmt) : ∀ w : World, (fun os => PySem.W.Fast.tw10110043849684766642 PySem.W.Fast.tw14364793385576792824 p w 11 (sr 6) 1 322 (sc8_ w os) (piecesOf ((pq.main.body.drop 31).take 1) en (Code.body b en) (@Pos.mk 165 0 172 25) [topFrame (@Pos.mk 0 0 0 0)])) = (fun os => some (Flow.next, sc9_ w os, Code.body b en, (@Pos.mk 173 0 182 16))) := fun w => by kernel_rfl
theorem h9 (b : List Stmt) (w : World) (os : OsState) : segRun treeTable p0 w 11 (sr 6) 1 322 (sc8_ w os).abs (piecesOf ((p0.main.body.drop 31).take 1) e0 (Code.body b e0) (@Pos.mk 165 0 172 25) [topFrame (@Pos.mk 0 0 0 0)]) = some (Flow.next, (sc9_ w os).abs, Code.body b e0, (@Pos.mk 173 0 182 16)) := by
  refine segRun_of ?_
  rw [PySem.W.Fast.te10110043849684766642, PySem.W.Fast.te14364793385576792824, pe]
  exact congrFun (g9 pq b w) os
theorem g10 (p : Program) (b : List Stmt) : ∀ w : World, (fun os => PySem.W.Fast.tw10110043849684766642 PySem.W.Fast.tw14364793385576792824 p w 11 (sr 6) 1 322 (sc9_ w os) (piecesOf ((pq.main.body.drop 32).take 1) en (Code.body b en) (@Pos.mk 173 0 182 16) [topFrame (@Pos.mk 0 0 0 0)])) = (fun os => some (Flow.next, sc10_ w os, Code.body b en, (@Pos.mk 183 0 192 16))) := fun w => by kernel_rfl
theorem h10 (b : List Stmt) (w : World) (os : OsState) : segRun treeTable p0 w 11 (sr 6) 1 322 (sc9_ w os).abs (piecesOf ((p0.main.body.drop 32).take 1) e0 (Code.body b e0) (@Pos.mk 173 0 182 16) [topFrame (@Pos.mk 0 0 0 0)]) = some (Flow.next, (sc10_ w os).abs, Code.body b e0, (@Pos.mk 183 0 192 16)) := by
  refine segRun_of ?_
  rw [PySem.W.Fast.te10110043849684766642, PySem.W.Fast.te14364793385576792824, pe]
  exact congrFun (g10 pq b w) os
theorem g11 (p : Program) (b : List Stmt) : ∀ w : World, (fun os => PySem.W.Fast.tw10110043849684766642 PySem.W.Fast.tw14364793385576792824 p w 11 (sr 6) 1 376 (sc10_ w os) (piecesOf ((pq.main.body.drop 33).take 1) en (Code.body b en) (@Pos.mk 183 0 192 16) [topFrame (@Pos.mk 0 0 0 0)])) = (fun os => some (Flow.next, sc11_ w os, Code.body b en, (@Pos.mk 193 0 210 17))) := fun w => by kernel_rfl
theorem h11 (b : List Stmt) (w : World) (os : OsState) : segRun treeTable p0 w 11 (sr 6) 1 376 (sc10_ w os).abs (piecesOf ((p0.main.body.drop 33).take 1) e0 (Code.body b e0) (@Pos.mk 183 0 192 16) [topFrame (@Pos.mk 0 0 0 0)]) = some (Flow.next, (sc11_ w os).abs, Code.body b e0, (@Pos.mk 193 0 210 17)) := by
  refine segRun_of ?_
  rw [PySem.W.Fast.te10110043849684766642, PySem.W.Fast.te14364793385576792824, pe]
  exact congrFun (g11 pq b w) os
theorem g12 (p : Program) (b : List Stmt) : ∀ w : World, (fun os => PySem.W.Fast.tw10110043849684766642 PySem.W.Fast.tw14364793385576792824 p w 11 (sr 6) 1 353 (sc11_ w os) (piecesOf ((pq.main.body.drop 34).take 1) en (Code.body b en) (@Pos.mk 193 0 210 17) [topFrame (@Pos.mk 0 0 0 0)])) = (fun os => some (Flow.next, sc12_ w os, Code.body b en, (@Pos.mk 211 0 223 17))) := fun w => by kernel_rfl
theorem h12 (b : List Stmt) (w : World) (os : OsState) : segRun treeTable p0 w 11 (sr 6) 1 353 (sc11_ w os).abs (piecesOf ((p0.main.body.drop 34).take 1) e0 (Code.body b e0) (@Pos.mk 193 0 210 17) [topFrame (@Pos.mk 0 0 0 0)]) = some (Flow.next, (sc12_ w os).abs, Code.body b e0, (@Pos.mk 211 0 223 17)) := by
  refine segRun_of ?_
  rw [PySem.W.Fast.te10110043849684766642, PySem.W.Fast.te14364793385576792824, pe]
  exact congrFun (g12 pq b w) os
theorem g13 (p : Program) (b : List Stmt) : ∀ w : World, (fun os => PySem.W.Fast.tw10110043849684766642 PySem.W.Fast.tw14364793385576792824 p w 11 (sr 6) 1 389 (sc12_ w os) (piecesOf ((pq.main.body.drop 35).take 1) en (Code.body b en) (@Pos.mk 211 0 223 17) [topFrame (@Pos.mk 0 0 0 0)])) = (fun os => some (Flow.next, sc13_ w os, Code.body b en, (@Pos.mk 224 0 240 17))) := fun w => by kernel_rfl
theorem h13 (b : List Stmt) (w : World) (os : OsState) : segRun treeTable p0 w 11 (sr 6) 1 389 (sc12_ w os).abs (piecesOf ((p0.main.body.drop 35).take 1) e0 (Code.body b e0) (@Pos.mk 211 0 223 17) [topFrame (@Pos.mk 0 0 0 0)]) = some (Flow.next, (sc13_ w os).abs, Code.body b e0, (@Pos.mk 224 0 240 17)) := by
  refine segRun_of ?_
  rw [PySem.W.Fast.te10110043849684766642, PySem.W.Fast.te14364793385576792824, pe]
  exact congrFun (g13 pq b w) os
theorem g14 (p : Program) (b : List Stmt) : ∀ w : World, (fun os => PySem.W.Fast.tw10110043849684766642 PySem.W.Fast.tw14364793385576792824 p w 11 (sr 6) 1 310 (sc13_ w os) (piecesOf ((pq.main.body.drop 36).take 1) en (Code.body b en) (@Pos.mk 224 0 240 17) [topFrame (@Pos.mk 0 0 0 0)])) = (fun os => some (Flow.next, sc14_ w os, Code.body b en, (@Pos.mk 241 0 250 17))) := fun w => by kernel_rfl
theorem h14 (b : List Stmt) (w : World) (os : OsState) : segRun treeTable p0 w 11 (sr 6) 1 310 (sc13_ w os).abs (piecesOf ((p0.main.body.drop 36).take 1) e0 (Code.body b e0) (@Pos.mk 224 0 240 17) [topFrame (@Pos.mk 0 0 0 0)]) = some (Flow.next, (sc14_ w os).abs, Code.body b e0, (@Pos.mk 241 0 250 17)) := by
  refine segRun_of ?_
  rw [PySem.W.Fast.te10110043849684766642, PySem.W.Fast.te14364793385576792824, pe]
  exact congrFun (g14 pq b w) os
theorem g15 (p : Program) (b : List Stmt) : ∀ w : World, (fun os => PySem.W.Fast.tw10110043849684766642 PySem.W.Fast.tw14364793385576792824 p w 11 (sr 6) 1 458 (sc14_ w os) (piecesOf ((pq.main.body.drop 37).take 8) en (Code.body b en) (@Pos.mk 241 0 250 17) [topFrame (@Pos.mk 0 0 0 0)])) = (fun os => some (Flow.next, sc15_ w os, Code.body b en, (@Pos.mk 297 0 297 10))) := fun w => by kernel_rfl
theorem h15 (b : List Stmt) (w : World) (os : OsState) : segRun treeTable p0 w 11 (sr 6) 1 458 (sc14_ w os).abs (piecesOf ((p0.main.body.drop 37).take 8) e0 (Code.body b e0) (@Pos.mk 241 0 250 17) [topFrame (@Pos.mk 0 0 0 0)]) = some (Flow.next, (sc15_ w os).abs, Code.body b e0, (@Pos.mk 297 0 297 10)) := by
  refine segRun_of ?_
  rw [PySem.W.Fast.te10110043849684766642, PySem.W.Fast.te14364793385576792824, pe]
  exact congrFun (g15 pq b w) os
theorem g16 (p : Program) (b : List Stmt) : ∀ w : World, (fun os => PySem.W.Fast.tw10110043849684766642 PySem.W.Fast.tw14364793385576792824 p w 11 (sr 6) 1 534 (sc15_ w os) (piecesOf ((pq.main.body.drop 45).take 11) en (Code.body b en) (@Pos.mk 297 0 297 10) [topFrame (@Pos.mk 0 0 0 0)])) = (fun os => some (Flow.next, sc16_ w os, Code.body b en, (@Pos.mk 345 0 347 67))) := fun w => by kernel_rfl
theorem h16 (b : List Stmt) (w : World) (os : OsState) : segRun treeTable p0 w 11 (sr 6) 1 534 (sc15_ w os).abs (piecesOf ((p0.main.body.drop 45).take 11) e0 (Code.body b e0) (@Pos.mk 297 0 297 10) [topFrame (@Pos.mk 0 0 0 0)]) = some (Flow.next, (sc16_ w os).abs, Code.body b e0, (@Pos.mk 345 0 347 67)) := by
  refine segRun_of ?_
  rw [PySem.W.Fast.te10110043849684766642, PySem.W.Fast.te14364793385576792824, pe]
  exact congrFun (g16 pq b w) os
theorem g17 (p : Program) (b : List Stmt) : ∀ w : World, (fun os => PySem.W.Fast.tw10110043849684766642 PySem.W.Fast.tw14364793385576792824 p w 11 (sr 6) 1 250 (sc16_ w os) (piecesOf ((pq.main.body.drop 56).take 8) en (Code.body b en) (@Pos.mk 345 0 347 67) [topFrame (@Pos.mk 0 0 0 0)])) = (fun os => some (Flow.next, sc17_ w os, Code.body b en, (@Pos.mk 411 0 427 103))) := fun w => by kernel_rfl
theorem h17 (b : List Stmt) (w : World) (os : OsState) : segRun treeTable p0 w 11 (sr 6) 1 250 (sc16_ w os).abs (piecesOf ((p0.main.body.drop 56).take 8) e0 (Code.body b e0) (@Pos.mk 345 0 347 67) [topFrame (@Pos.mk 0 0 0 0)]) = some (Flow.next, (sc17_ w os).abs, Code.body b e0, (@Pos.mk 411 0 427 103)) := by
  refine segRun_of ?_
  rw [PySem.W.Fast.te10110043849684766642, PySem.W.Fast.te14364793385576792824, pe]
  exact congrFun (g17 pq b w) os
noncomputable abbrev H1 : Params → Heap := fun P => absHeap (tz P) 830 (@Life.mk [] [] [] 0 [] [] false E [] 0 false false false 0 [2000, 10, 10] false 0 true [] [] 0 false)
theorem fin_l (b : List Stmt) (w : World) (os : OsState) : topRun treeTable p0 w 11 (sr 6) 2 (sc17_ w os).abs ⟨doneF .next, Code.body b e0, (@Pos.mk 411 0 427 103), [topFrame (@Pos.mk 0 0 0 0)]⟩ = some ⟨H1 w.params, Array.mk [], (@Drawn.mk 0 0 0 0), 1259, os⟩ := by
  rw [PySem.W.Fast.te14082659384304107361, PySem.W.Fast.te14364793385576792824, pe]
  kernel_rfl
theorem run_l (w : World) (os : OsState) : topRun treeTable p0 w 11 (sr 6) (12 + (1 + (438 + (491 + (500 + (351 + (487 + (410 + (439 + (494 + (279 + (322 + (322 + (376 + (353 + (389 + (310 + (458 + (534 + (250 + 2)))))))))))))))))))) ⟨boot_heap w.params, Array.mk [], boot_drawn, boot_toks, os⟩ (topStub p0) = some ⟨H1 w.params, Array.mk [], (@Drawn.mk 0 0 0 0), 1259, os⟩ := by
  refine go_top (pre_l w os) (piece_block (blk_l w os) ?k)
  rw [bs]
  exact piece_app (h0 _ w os) (piece_app (h1 _ w os) (piece_app (h2 _ w os) (piece_app (h3 _ w os) (piece_app (h4 _ w os) (piece_app (h5 _ w os) (piece_app (h6 _ w os) (piece_app (h7 _ w os) (piece_app (h8 _ w os) (piece_app (h9 _ w os) (piece_app (h10 _ w os) (piece_app (h11 _ w os) (piece_app (h12 _ w os) (piece_app (h13 _ w os) (piece_app (h14 _ w os) (piece_app (h15 _ w os) (piece_app (h16 _ w os) (piece_app (h17 _ w os) (piece_nil (fin_l _ w os)))))))))))))))))))
abbrev kF (a b : String) (s : Stmt) (m : String) (n v : Nat) : Params → Obj := fun P => (Obj.mk (@Value.type "function") none (Data.func (fk (@Str.ofString a) (@Str.ofString b) s 3 [] vn vn vn (@Value.str (@Str.ofString m) n) none (vr v) vn 0)) E)
abbrev k21:=kF "_wall" "_wall" (T 0) "__main__" 164 20
abbrev k60:=kF "__init__" "NoText.__init__" (N 4 0) "pactroom.errors" 194 59
abbrev k79:=kF "__init__" "NoPlace.__init__" (N 5 0) "pactroom.errors" 194 78
abbrev k98:=kF "__init__" "NoWayBack.__init__" (N 6 0) "pactroom.errors" 194 97
abbrev k117:=kF "__init__" "NoFit.__init__" (N 7 0) "pactroom.errors" 194 116
abbrev k136:=kF "__init__" "Lock.__init__" (N 9 0) "pactroom.kinds" 330 135
abbrev k143:=kF "kind" "Lock.kind" (N 9 1) "pactroom.kinds" 330 142
abbrev k150:=kF "beside" "Lock.beside" (N 9 2) "pactroom.kinds" 330 149
abbrev k157:=kF "covers" "Lock.covers" (N 9 3) "pactroom.kinds" 330 156
abbrev k164:=kF "told" "Lock.told" (N 9 4) "pactroom.kinds" 330 163
abbrev k185:=kF "kind" "Read.kind" (N 10 0) "pactroom.kinds" 330 184
abbrev k204:=kF "kind" "Mean.kind" (N 11 0) "pactroom.kinds" 330 203
abbrev k223:=kF "kind" "Change.kind" (N 12 0) "pactroom.kinds" 330 222
abbrev k235:=kF "is_whole" "is_whole" (T 22) "pactroom.things" 462 234
abbrev k240:=kF "read_thing" "read_thing" (T 23) "pactroom.things" 462 239
abbrev k247:=kF "is_sign" "is_sign" (T 24) "pactroom.things" 462 246
abbrev k261:=kF "__init__" "Reader.__init__" (N 25 0) "pactroom.things" 462 260
abbrev k268:=kF "passes" "Reader.passes" (N 25 1) "pactroom.things" 462 267
abbrev k275:=kF "read_any" "Reader.read_any" (N 25 2) "pactroom.things" 462 274
abbrev k282:=kF "read_parts" "Reader.read_parts" (N 25 3) "pactroom.things" 462 281
abbrev k289:=kF "read_below" "Reader.read_below" (N 25 4) "pactroom.things" 462 288
abbrev k296:=kF "read_number" "Reader.read_number" (N 25 5) "pactroom.things" 462 295
abbrev k303:=kF "read_signs" "Reader.read_signs" (N 25 6) "pactroom.things" 462 302
abbrev k325:=kF "house" "Step.house" (N 29 0) "pactroom.steps" 584 324
abbrev k332:=kF "lock" "Step.lock" (N 29 1) "pactroom.steps" 584 331
abbrev k339:=kF "step_done" "Step.step_done" (N 29 2) "pactroom.steps" 584 338
abbrev k346:=kF "back" "Step.back" (N 29 3) "pactroom.steps" 584 345
abbrev k353:=kF "sure" "Step.sure" (N 29 4) "pactroom.steps" 584 352
abbrev k360:=kF "spelled" "Step.spelled" (N 29 5) "pactroom.steps" 584 359
abbrev k381:=kF "__init__" "CellStep.__init__" (N 30 0) "pactroom.steps" 584 380
abbrev k388:=kF "house" "CellStep.house" (N 30 1) "pactroom.steps" 584 387
abbrev k407:=kF "lock" "TakeStep.lock" (N 31 0) "pactroom.steps" 584 406
abbrev k414:=kF "step_done" "TakeStep.step_done" (N 31 1) "pactroom.steps" 584 413
abbrev k421:=kF "spelled" "TakeStep.spelled" (N 31 2) "pactroom.steps" 584 420
abbrev k440:=kF "lock" "MeanStep.lock" (N 32 0) "pactroom.steps" 584 439
abbrev k447:=kF "step_done" "MeanStep.step_done" (N 32 1) "pactroom.steps" 584 446
abbrev k454:=kF "spelled" "MeanStep.spelled" (N 32 2) "pactroom.steps" 584 453
abbrev k473:=kF "__init__" "SumStep.__init__" (N 33 0) "pactroom.steps" 584 472
abbrev k480:=kF "house" "SumStep.house" (N 33 1) "pactroom.steps" 584 479
abbrev k487:=kF "lock" "SumStep.lock" (N 33 2) "pactroom.steps" 584 486
abbrev k494:=kF "step_done" "SumStep.step_done" (N 33 3) "pactroom.steps" 584 493
abbrev k501:=kF "spelled" "SumStep.spelled" (N 33 4) "pactroom.steps" 584 500
abbrev k520:=kF "lock" "GiveStep.lock" (N 34 0) "pactroom.steps" 584 519
abbrev k527:=kF "step_done" "GiveStep.step_done" (N 34 1) "pactroom.steps" 584 526
abbrev k534:=kF "sure" "GiveStep.sure" (N 34 2) "pactroom.steps" 584 533
abbrev k541:=kF "spelled" "GiveStep.spelled" (N 34 3) "pactroom.steps" 584 540
abbrev k560:=kF "__init__" "AddStep.__init__" (N 35 0) "pactroom.steps" 584 559
abbrev k567:=kF "lock" "AddStep.lock" (N 35 1) "pactroom.steps" 584 566
abbrev k574:=kF "step_done" "AddStep.step_done" (N 35 2) "pactroom.steps" 584 573
abbrev k581:=kF "back" "AddStep.back" (N 35 3) "pactroom.steps" 584 580
abbrev k588:=kF "spelled" "AddStep.spelled" (N 35 4) "pactroom.steps" 584 587
abbrev k607:=kF "__init__" "PlusStep.__init__" (N 36 0) "pactroom.steps" 584 606
abbrev k614:=kF "step_done" "PlusStep.step_done" (N 36 1) "pactroom.steps" 584 613
abbrev k621:=kF "spelled" "PlusStep.spelled" (N 36 2) "pactroom.steps" 584 620
abbrev k640:=kF "__init__" "NeedStep.__init__" (N 37 0) "pactroom.steps" 584 639
abbrev k647:=kF "step_done" "NeedStep.step_done" (N 37 1) "pactroom.steps" 584 646
abbrev k654:=kF "spelled" "NeedStep.spelled" (N 37 2) "pactroom.steps" 584 653
abbrev k664:=kF "read_step" "read_step" (T 38) "pactroom.steps" 584 663
abbrev k671:=kF "read_number" "read_number" (T 39) "pactroom.steps" 584 670
abbrev k678:=kF "made_step" "made_step" (T 40) "pactroom.steps" 584 677
abbrev k685:=kF "made_sum" "made_sum" (T 41) "pactroom.steps" 584 684
abbrev k700:=kF "__init__" "Pact.__init__" (N 45 0) "pactroom.pacts" 1064 699
abbrev k707:=kF "spelled" "Pact.spelled" (N 45 1) "pactroom.pacts" 1064 706
abbrev k719:=kF "read_pact" "read_pact" (T 46) "pactroom.pacts" 1064 718
abbrev k726:=kF "read_part" "read_part" (T 47) "pactroom.pacts" 1064 725
abbrev k733:=kF "turning" "turning" (T 48) "pactroom.pacts" 1064 732
abbrev k740:=kF "look" "look" (T 49) "pactroom.pacts" 1064 739
abbrev k747:=kF "is_there" "is_there" (T 50) "pactroom.pacts" 1064 746
abbrev k754:=kF "look_behind" "look_behind" (T 51) "pactroom.pacts" 1064 753
abbrev k761:=kF "_law_cell" "_law_cell" (T 53) "law_pactroom_k26_looked_at" 1158 760
abbrev k768:=kF "_law_whole" "_law_whole" (T 54) "law_pactroom_k26_looked_at" 1158 767
abbrev k775:=kF "_law_mixed" "_law_mixed" (T 55) "law_pactroom_k26_looked_at" 1158 774
abbrev k782:=kF "_law_place" "_law_place" (T 56) "law_pactroom_k26_looked_at" 1158 781
abbrev k789:=kF "_law_step" "_law_step" (T 57) "law_pactroom_k26_looked_at" 1158 788
abbrev k796:=kF "_law_is_there" "_law_is_there" (T 58) "law_pactroom_k26_looked_at" 1158 795
abbrev k803:=kF "_law_due" "_law_due" (T 59) "law_pactroom_k26_looked_at" 1158 802
abbrev k810:=kF "_law_found" "_law_found" (T 60) "law_pactroom_k26_looked_at" 1158 809
abbrev k817:=kF "_law_any" "_law_any" (T 61) "law_pactroom_k26_looked_at" 1158 816
abbrev k824:=kF "_law_by_hand" "_law_by_hand" (T 62) "law_pactroom_k26_looked_at" 1158 823
abbrev k829:=kF "law" "law" (T 63) "law_pactroom_k26_looked_at" 1158 828
noncomputable def Kf : Params → Frag := fun P => (nat_lit 2, boot_o_2 P) :: (nat_lit 3, c17_3 P) :: (nat_lit 15, a11) :: (nat_lit 17, c0_17) :: (nat_lit 18, a11) :: (nat_lit 20, c0_20) :: (nat_lit 21, k21 P) :: (nat_lit 22, c0_22) :: (nat_lit 29, a11) :: (nat_lit 30, c0_30 P) :: (nat_lit 31, c2_31) :: (nat_lit 32, c0_32) :: (nat_lit 35, c0_35) :: (nat_lit 42, a11) :: (nat_lit 43, c0_43 P) :: (nat_lit 44, c0_44) :: (nat_lit 47, c0_35) :: (nat_lit 54, a11) :: (nat_lit 56, c1_56) :: (nat_lit 57, a11) :: (nat_lit 59, c1_59) :: (nat_lit 60, k60 P) :: (nat_lit 61, c1_61) :: (nat_lit 62, c1_62 P) :: (nat_lit 63, c1_63) :: (nat_lit 66, c0_35) :: (nat_lit 73, a11) :: (nat_lit 75, c1_75) :: (nat_lit 76, a11) :: (nat_lit 78, c1_78) :: (nat_lit 79, k79 P) :: (nat_lit 80, c1_80) :: (nat_lit 81, c1_81 P) :: (nat_lit 82, c1_82) :: (nat_lit 85, c0_35) :: (nat_lit 92, a11) :: (nat_lit 94, c2_94) :: (nat_lit 95, a11) :: (nat_lit 97, c2_97) :: (nat_lit 98, k98 P) :: (nat_lit 99, c2_99) :: (nat_lit 100, c2_100 P) :: (nat_lit 101, c2_101) :: (nat_lit 104, c0_35) :: (nat_lit 111, a11) :: (nat_lit 113, c2_113) :: (nat_lit 114, a11) :: (nat_lit 116, c2_116) :: (nat_lit 117, k117 P) :: (nat_lit 118, c2_118) :: (nat_lit 119, c2_119 P) :: (nat_lit 120, c2_120) :: (nat_lit 130, a11) :: (nat_lit 132, c3_132) :: (nat_lit 133, a11) :: (nat_lit 135, c3_135) :: (nat_lit 136, k136 P) :: (nat_lit 137, a11) :: (nat_lit 139, c3_139) :: (nat_lit 140, a11) :: (nat_lit 142, c3_142) :: (nat_lit 143, k143 P) :: (nat_lit 144, a11) :: (nat_lit 146, c3_146) :: (nat_lit 147, a11) :: (nat_lit 149, c3_149) :: (nat_lit 150, k150 P) :: (nat_lit 151, a11) :: (nat_lit 153, c3_153) :: (nat_lit 154, a11) :: (nat_lit 156, c3_156) :: (nat_lit 157, k157 P) :: (nat_lit 158, a11) :: (nat_lit 160, c3_160) :: (nat_lit 161, a11) :: (nat_lit 163, c3_163) :: (nat_lit 164, k164 P) :: (nat_lit 165, c3_165) :: (nat_lit 166, c3_166 P) :: (nat_lit 167, c5_167) :: (nat_lit 168, c3_168) :: (nat_lit 169, c3_169) :: (nat_lit 172, c4_172) :: (nat_lit 179, a11) :: (nat_lit 181, c4_181) :: (nat_lit 182, a11) :: (nat_lit 184, c4_184) :: (nat_lit 185, k185 P) :: (nat_lit 186, a11) :: (nat_lit 187, c4_187 P) :: (nat_lit 188, c4_188) :: (nat_lit 191, c4_172) :: (nat_lit 198, a11) :: (nat_lit 200, c4_200) :: (nat_lit 201, a11) :: (nat_lit 203, c4_203) :: (nat_lit 204, k204 P) :: (nat_lit 205, a11) :: (nat_lit 206, c4_206 P) :: (nat_lit 207, c4_207) :: (nat_lit 210, c4_172) :: (nat_lit 217, a11) :: (nat_lit 219, c5_219) :: (nat_lit 220, a11) :: (nat_lit 222, c5_222) :: (nat_lit 223, k223 P) :: (nat_lit 224, a11) :: (nat_lit 225, c5_225 P) :: (nat_lit 226, c5_226) :: (nat_lit 229, a11) :: (nat_lit 231, c5_231) :: (nat_lit 232, a11) :: (nat_lit 234, c5_234) :: (nat_lit 235, k235 P) :: (nat_lit 236, a11) :: (nat_lit 239, c5_239) :: (nat_lit 240, k240 P) :: (nat_lit 241, a11) :: (nat_lit 243, c5_243) :: (nat_lit 244, a11) :: (nat_lit 246, c5_246) :: (nat_lit 247, k247 P) :: (nat_lit 255, a11) :: (nat_lit 257, c6_257) :: (nat_lit 258, a11) :: (nat_lit 260, c6_260) :: (nat_lit 261, k261 P) :: (nat_lit 262, a11) :: (nat_lit 264, c6_264) :: (nat_lit 265, a11) :: (nat_lit 267, c6_267) :: (nat_lit 268, k268 P) :: (nat_lit 269, a11) :: (nat_lit 271, c6_271) :: (nat_lit 272, a11) :: (nat_lit 274, c6_274) :: (nat_lit 275, k275 P) :: (nat_lit 276, a11) :: (nat_lit 278, c6_278) :: (nat_lit 279, a11) :: (nat_lit 281, c6_281) :: (nat_lit 282, k282 P) :: (nat_lit 283, a11) :: (nat_lit 285, c6_285) :: (nat_lit 286, a11) :: (nat_lit 288, c6_288) :: (nat_lit 289, k289 P) :: (nat_lit 290, a11) :: (nat_lit 292, c6_292) :: (nat_lit 293, a11) :: (nat_lit 295, c6_295) :: (nat_lit 296, k296 P) :: (nat_lit 297, a11) :: (nat_lit 299, c6_299) :: (nat_lit 300, a11) :: (nat_lit 302, c6_302) :: (nat_lit 303, k303 P) :: (nat_lit 304, c6_304) :: (nat_lit 305, c6_305 P) :: (nat_lit 306, c6_306) :: (nat_lit 307, c6_307) :: (nat_lit 308, c6_308) :: (nat_lit 311, c7_311 P) :: (nat_lit 319, a11) :: (nat_lit 321, c7_321) :: (nat_lit 322, a11) :: (nat_lit 324, c7_324) :: (nat_lit 325, k325 P) :: (nat_lit 326, a11) :: (nat_lit 328, c7_328) :: (nat_lit 329, a11) :: (nat_lit 331, c7_331) :: (nat_lit 332, k332 P) :: (nat_lit 333, a11) :: (nat_lit 335, c7_335) :: (nat_lit 336, a11) :: (nat_lit 338, c7_338) :: (nat_lit 339, k339 P) :: (nat_lit 340, a11) :: (nat_lit 342, c7_342) :: (nat_lit 343, a11) :: (nat_lit 345, c7_345) :: (nat_lit 346, k346 P) :: (nat_lit 347, a11) :: (nat_lit 349, c7_349) :: (nat_lit 350, a11) :: (nat_lit 352, c7_352) :: (nat_lit 353, k353 P) :: (nat_lit 354, a11) :: (nat_lit 356, c7_356) :: (nat_lit 357, a11) :: (nat_lit 359, c7_359) :: (nat_lit 360, k360 P) :: (nat_lit 361, a11) :: (nat_lit 362, c7_362 P) :: (nat_lit 363, c15_363) :: (nat_lit 364, c7_364) :: (nat_lit 365, c7_365) :: (nat_lit 368, c8_368) :: (nat_lit 375, a11) :: (nat_lit 377, c8_377) :: (nat_lit 378, a11) :: (nat_lit 380, c8_380) :: (nat_lit 381, k381 P) :: (nat_lit 382, a11) :: (nat_lit 384, c8_384) :: (nat_lit 385, a11) :: (nat_lit 387, c8_387) :: (nat_lit 388, k388 P) :: (nat_lit 389, c8_389) :: (nat_lit 390, c8_390 P) :: (nat_lit 391, c13_391) :: (nat_lit 394, c9_394) :: (nat_lit 401, a11) :: (nat_lit 403, c9_403) :: (nat_lit 404, a11) :: (nat_lit 406, c9_406) :: (nat_lit 407, k407 P) :: (nat_lit 408, a11) :: (nat_lit 410, c9_410) :: (nat_lit 411, a11) :: (nat_lit 413, c9_413) :: (nat_lit 414, k414 P) :: (nat_lit 415, a11) :: (nat_lit 417, c9_417) :: (nat_lit 418, a11) :: (nat_lit 420, c9_420) :: (nat_lit 421, k421 P) :: (nat_lit 422, a11) :: (nat_lit 423, c9_423 P) :: (nat_lit 424, c9_424) :: (nat_lit 427, c9_394) :: (nat_lit 434, a11) :: (nat_lit 436, c10_436) :: (nat_lit 437, a11) :: (nat_lit 439, c10_439) :: (nat_lit 440, k440 P) :: (nat_lit 441, a11) :: (nat_lit 443, c10_443) :: (nat_lit 444, a11) :: (nat_lit 446, c10_446) :: (nat_lit 447, k447 P) :: (nat_lit 448, a11) :: (nat_lit 450, c10_450) :: (nat_lit 451, a11) :: (nat_lit 453, c10_453) :: (nat_lit 454, k454 P) :: (nat_lit 455, a11) :: (nat_lit 456, c10_456 P) :: (nat_lit 457, c10_457) :: (nat_lit 460, c8_368) :: (nat_lit 467, a11) :: (nat_lit 469, c11_469) :: (nat_lit 470, a11) :: (nat_lit 472, c11_472) :: (nat_lit 473, k473 P) :: (nat_lit 474, a11) :: (nat_lit 476, c11_476) :: (nat_lit 477, a11) :: (nat_lit 479, c11_479) :: (nat_lit 480, k480 P) :: (nat_lit 481, a11) :: (nat_lit 483, c11_483) :: (nat_lit 484, a11) :: (nat_lit 486, c11_486) :: (nat_lit 487, k487 P) :: (nat_lit 488, a11) :: (nat_lit 490, c11_490) :: (nat_lit 491, a11) :: (nat_lit 493, c11_493) :: (nat_lit 494, k494 P) :: (nat_lit 495, a11) :: (nat_lit 497, c11_497) :: (nat_lit 498, a11) :: (nat_lit 500, c11_500) :: (nat_lit 501, k501 P) :: (nat_lit 502, c11_502) :: (nat_lit 503, c11_503 P) :: (nat_lit 504, c11_504) :: (nat_lit 507, c9_394) :: (nat_lit 514, a11) :: (nat_lit 516, c12_516) :: (nat_lit 517, a11) :: (nat_lit 519, c12_519) :: (nat_lit 520, k520 P) :: (nat_lit 521, a11) :: (nat_lit 523, c12_523) :: (nat_lit 524, a11) :: (nat_lit 526, c12_526) :: (nat_lit 527, k527 P) :: (nat_lit 528, a11) :: (nat_lit 530, c12_530) :: (nat_lit 531, a11) :: (nat_lit 533, c12_533) :: (nat_lit 534, k534 P) :: (nat_lit 535, a11) :: (nat_lit 537, c12_537) :: (nat_lit 538, a11) :: (nat_lit 540, c12_540) :: (nat_lit 541, k541 P) :: (nat_lit 542, a11) :: (nat_lit 543, c12_543 P) :: (nat_lit 544, c12_544) :: (nat_lit 547, c9_394) :: (nat_lit 554, a11) :: (nat_lit 556, c13_556) :: (nat_lit 557, a11) :: (nat_lit 559, c13_559) :: (nat_lit 560, k560 P) :: (nat_lit 561, a11) :: (nat_lit 563, c13_563) :: (nat_lit 564, a11) :: (nat_lit 566, c13_566) :: (nat_lit 567, k567 P) :: (nat_lit 568, a11) :: (nat_lit 570, c13_570) :: (nat_lit 571, a11) :: (nat_lit 573, c13_573) :: (nat_lit 574, k574 P) :: (nat_lit 575, a11) :: (nat_lit 577, c13_577) :: (nat_lit 578, a11) :: (nat_lit 580, c13_580) :: (nat_lit 581, k581 P) :: (nat_lit 582, a11) :: (nat_lit 584, c13_584) :: (nat_lit 585, a11) :: (nat_lit 587, c13_587) :: (nat_lit 588, k588 P) :: (nat_lit 589, c13_589) :: (nat_lit 590, c13_590 P) :: (nat_lit 591, c13_591) :: (nat_lit 594, c8_368) :: (nat_lit 601, a11) :: (nat_lit 603, c14_603) :: (nat_lit 604, a11) :: (nat_lit 606, c14_606) :: (nat_lit 607, k607 P) :: (nat_lit 608, a11) :: (nat_lit 610, c14_610) :: (nat_lit 611, a11) :: (nat_lit 613, c14_613) :: (nat_lit 614, k614 P) :: (nat_lit 615, a11) :: (nat_lit 617, c14_617) :: (nat_lit 618, a11) :: (nat_lit 620, c14_620) :: (nat_lit 621, k621 P) :: (nat_lit 622, c14_622) :: (nat_lit 623, c14_623 P) :: (nat_lit 624, c14_624) :: (nat_lit 627, c8_368) :: (nat_lit 634, a11) :: (nat_lit 636, c15_636) :: (nat_lit 637, a11) :: (nat_lit 639, c15_639) :: (nat_lit 640, k640 P) :: (nat_lit 641, a11) :: (nat_lit 643, c15_643) :: (nat_lit 644, a11) :: (nat_lit 646, c15_646) :: (nat_lit 647, k647 P) :: (nat_lit 648, a11) :: (nat_lit 650, c15_650) :: (nat_lit 651, a11) :: (nat_lit 653, c15_653) :: (nat_lit 654, k654 P) :: (nat_lit 655, c15_655) :: (nat_lit 656, c15_656 P) :: (nat_lit 657, c15_657) :: (nat_lit 660, a11) :: (nat_lit 663, c15_663) :: (nat_lit 664, k664 P) :: (nat_lit 665, a11) :: (nat_lit 667, c15_667) :: (nat_lit 668, a11) :: (nat_lit 670, c15_670) :: (nat_lit 671, k671 P) :: (nat_lit 672, a11) :: (nat_lit 674, c15_674) :: (nat_lit 675, a11) :: (nat_lit 677, c15_677) :: (nat_lit 678, k678 P) :: (nat_lit 679, a11) :: (nat_lit 681, c15_681) :: (nat_lit 682, a11) :: (nat_lit 684, c15_684) :: (nat_lit 685, k685 P) :: (nat_lit 686, c15_686) :: (nat_lit 694, a11) :: (nat_lit 696, c16_696) :: (nat_lit 697, a11) :: (nat_lit 699, c16_699) :: (nat_lit 700, k700 P) :: (nat_lit 701, a11) :: (nat_lit 703, c16_703) :: (nat_lit 704, a11) :: (nat_lit 706, c16_706) :: (nat_lit 707, k707 P) :: (nat_lit 708, c16_708) :: (nat_lit 709, c16_709 P) :: (nat_lit 710, c16_710) :: (nat_lit 711, c16_711) :: (nat_lit 712, c16_712) :: (nat_lit 715, a11) :: (nat_lit 718, c16_718) :: (nat_lit 719, k719 P) :: (nat_lit 720, a11) :: (nat_lit 722, c16_722) :: (nat_lit 723, a11) :: (nat_lit 725, c16_725) :: (nat_lit 726, k726 P) :: (nat_lit 727, a11) :: (nat_lit 729, c16_729) :: (nat_lit 730, a11) :: (nat_lit 732, c16_732) :: (nat_lit 733, k733 P) :: (nat_lit 734, a11) :: (nat_lit 736, c16_736) :: (nat_lit 737, a11) :: (nat_lit 739, c16_739) :: (nat_lit 740, k740 P) :: (nat_lit 741, a11) :: (nat_lit 743, c16_743) :: (nat_lit 744, a11) :: (nat_lit 746, c16_746) :: (nat_lit 747, k747 P) :: (nat_lit 748, a11) :: (nat_lit 750, c16_750) :: (nat_lit 751, a11) :: (nat_lit 753, c16_753) :: (nat_lit 754, k754 P) :: (nat_lit 755, a11) :: (nat_lit 757, c16_757) :: (nat_lit 758, a11) :: (nat_lit 760, c16_760) :: (nat_lit 761, k761 P) :: (nat_lit 762, a11) :: (nat_lit 764, c16_764) :: (nat_lit 765, a11) :: (nat_lit 767, c16_767) :: (nat_lit 768, k768 P) :: (nat_lit 769, a11) :: (nat_lit 771, c16_771) :: (nat_lit 772, a11) :: (nat_lit 774, c16_774) :: (nat_lit 775, k775 P) :: (nat_lit 776, a11) :: (nat_lit 778, c17_778) :: (nat_lit 779, a11) :: (nat_lit 781, c17_781) :: (nat_lit 782, k782 P) :: (nat_lit 783, a11) :: (nat_lit 785, c17_785) :: (nat_lit 786, a11) :: (nat_lit 788, c17_788) :: (nat_lit 789, k789 P) :: (nat_lit 790, a11) :: (nat_lit 792, c17_792) :: (nat_lit 793, a11) :: (nat_lit 795, c17_795) :: (nat_lit 796, k796 P) :: (nat_lit 797, a11) :: (nat_lit 799, c17_799) :: (nat_lit 800, a11) :: (nat_lit 802, c17_802) :: (nat_lit 803, k803 P) :: (nat_lit 804, a11) :: (nat_lit 806, c17_806) :: (nat_lit 807, a11) :: (nat_lit 809, c17_809) :: (nat_lit 810, k810 P) :: (nat_lit 811, a11) :: (nat_lit 813, c17_813) :: (nat_lit 814, a11) :: (nat_lit 816, c17_816) :: (nat_lit 817, k817 P) :: (nat_lit 818, a11) :: (nat_lit 820, c17_820) :: (nat_lit 821, a11) :: (nat_lit 823, c17_823) :: (nat_lit 824, k824 P) :: (nat_lit 825, a11) :: (nat_lit 828, c17_828) :: (nat_lit 829, k829 P) :: []
noncomputable def Ka : List Addr := [2, 3, 15, 17, 18, 20, 21, 22, 29, 30, 31, 32, 35, 42, 43, 44, 47, 54, 56, 57, 59, 60, 61, 62, 63, 66, 73, 75, 76, 78, 79, 80, 81, 82, 85, 92, 94, 95, 97, 98, 99, 100, 101, 104, 111, 113, 114, 116, 117, 118, 119, 120, 130, 132, 133, 135, 136, 137, 139, 140, 142, 143, 144, 146, 147, 149, 150, 151, 153, 154, 156, 157, 158, 160, 161, 163, 164, 165, 166, 167, 168, 169, 172, 179, 181, 182, 184, 185, 186, 187, 188, 191, 198, 200, 201, 203, 204, 205, 206, 207, 210, 217, 219, 220, 222, 223, 224, 225, 226, 229, 231, 232, 234, 235, 236, 239, 240, 241, 243, 244, 246, 247, 255, 257, 258, 260, 261, 262, 264, 265, 267, 268, 269, 271, 272, 274, 275, 276, 278, 279, 281, 282, 283, 285, 286, 288, 289, 290, 292, 293, 295, 296, 297, 299, 300, 302, 303, 304, 305, 306, 307, 308, 311, 319, 321, 322, 324, 325, 326, 328, 329, 331, 332, 333, 335, 336, 338, 339, 340, 342, 343, 345, 346, 347, 349, 350, 352, 353, 354, 356, 357, 359, 360, 361, 362, 363, 364, 365, 368, 375, 377, 378, 380, 381, 382, 384, 385, 387, 388, 389, 390, 391, 394, 401, 403, 404, 406, 407, 408, 410, 411, 413, 414, 415, 417, 418, 420, 421, 422, 423, 424, 427, 434, 436, 437, 439, 440, 441, 443, 444, 446, 447, 448, 450, 451, 453, 454, 455, 456, 457, 460, 467, 469, 470, 472, 473, 474, 476, 477, 479, 480, 481, 483, 484, 486, 487, 488, 490, 491, 493, 494, 495, 497, 498, 500, 501, 502, 503, 504, 507, 514, 516, 517, 519, 520, 521, 523, 524, 526, 527, 528, 530, 531, 533, 534, 535, 537, 538, 540, 541, 542, 543, 544, 547, 554, 556, 557, 559, 560, 561, 563, 564, 566, 567, 568, 570, 571, 573, 574, 575, 577, 578, 580, 581, 582, 584, 585, 587, 588, 589, 590, 591, 594, 601, 603, 604, 606, 607, 608, 610, 611, 613, 614, 615, 617, 618, 620, 621, 622, 623, 624, 627, 634, 636, 637, 639, 640, 641, 643, 644, 646, 647, 648, 650, 651, 653, 654, 655, 656, 657, 660, 663, 664, 665, 667, 668, 670, 671, 672, 674, 675, 677, 678, 679, 681, 682, 684, 685, 686, 694, 696, 697, 699, 700, 701, 703, 704, 706, 707, 708, 709, 710, 711, 712, 715, 718, 719, 720, 722, 723, 725, 726, 727, 729, 730, 732, 733, 734, 736, 737, 739, 740, 741, 743, 744, 746, 747, 748, 750, 751, 753, 754, 755, 757, 758, 760, 761, 762, 764, 765, 767, 768, 769, 771, 772, 774, 775, 776, 778, 779, 781, 782, 783, 785, 786, 788, 789, 790, 792, 793, 795, 796, 797, 799, 800, 802, 803, 804, 806, 807, 809, 810, 811, 813, 814, 816, 817, 818, 820, 821, 823, 824, 825, 828, 829]
theorem ke (P : Params) : Ka = (Kf P).map (·.1) := by kernel_rfl
noncomputable abbrev HK : Hook := kHook Kf Ka ke
noncomputable abbrev R : RowW := PySem.Challenge.rw_pactroom_k26_looked_at.row.toRowW
noncomputable abbrev lo : List Str := [Str.ofString "SHAPES"]
noncomputable abbrev lvv : List (Str × WData) := []
noncomputable def qv : Program := { p0 with main := { p0.main with body := [T 0, T 2, T 3, T 4, T 5, T 6, T 7, T 9, T 10, T 11, T 12, T 14, T 15, T 16, T 17, T 18, T 19, T 20, T 21, T 22, T 23, T 24, T 25, T 27, T 28, T 29, T 30, T 31, T 32, T 33, T 34, T 35, T 36, T 37, T 38, T 39, T 40, T 41, T 43, T 44, T 45, T 46, T 47, T 48, T 49, T 50, T 51, T 53, T 54, T 55, T 56, T 57, T 58, T 59, T 60, T 61, T 62, T 63] } }
noncomputable abbrev Xt : Shared → Bool := fun s => xlAt qv lvv s && recOk (RowW.records R) s
theorem size_l (w : World) : ((boot_heap w.params).isNs mainGlobals && (A [] : Array GenState).size == 0, (boot_heap w.params).objs.size, (boot_heap w.params).nsMap mainGlobals "__annotations__") = (true, 11, (sr 6)) := by kernel_rfl
theorem look1 (w : World) (os : OsState) : (staticsOk (importedModules p0.main.body) (boot_heap w.params) (H1 w.params) && namesBound p0 (H1 w.params) && gensDone ⟨H1 w.params, Array.mk [], (@Drawn.mk 0 0 0 0), 1259, os⟩ && laidKept (boot_heap w.params) (H1 w.params)) = true := by kernel_rfl
theorem look2 (w : World) (os : OsState) : openSeen qv lo (importedModules p0.main.body) Xt true ⟨H1 w.params, Array.mk [], (@Drawn.mk 0 0 0 0), 1259, os⟩ = openGood qv lo := by kernel_rfl
theorem look3 (w : World) (os : OsState) : Hook.obs HK ⟨H1 w.params, Array.mk [], (@Drawn.mk 0 0 0 0), 1259, os⟩ = Hook.val HK w := by kernel_rfl
theorem left : LeftO p0 qv lo Xt (Hook.obs HK) (Hook.val HK) 14496 := LeftO.of_pieces (boot_open (by kernel_rfl) (by kernel_rfl) (fun s => by kernel_rfl)) size_l run_l (by decide) fun w => funext fun os => looks_pair (look1 w os) (looks_pair (look2 w os) (look3 w os))
end
end Q
end
set_option maxHeartbeats 4000000
namespace K26
open PySem L2 Lo St
def kmk (a b c : Addr) : Kd → Addr
  | .read => a
  | .mean => b
  | .change => c
def wmk (a b c d e f g : Addr) : Wd → Addr
  | .take => a
  | .mean => b
  | .sum => c
  | .give => d
  | .add => e
  | .plus => f
  | .need => g
abbrev bmV : List Value := [.type "ValueError", .type "Exception", .type "BaseException", .type "object"]
theorem all_mk {l : PySem.W.OpenLaw} {w : World} {K : PySem.W.Frag} {h : Heap} {mg : Str → Option Value} {fa CR fkR CM fkM CC fkC fi ft CRd fri frp fra frb frn frx WA fxiY fxhY fxlA fxsZ WB fxlB WD fxiD fxhD fxlD WE fxlE fxsE WF fxiF fxlF WG fxiG fxhZ fxlZ WN fxiN CY CP fpi CE CTx feT CAx feA CBx feB CFx feF fW1 fR1 fG1 fS1 fN1 fM1 fU1 fA3 fB3 fD3 fL3 fI3 fK3 fA2 fW2 fX2 fP2 fS2 fT2 fD2 fF2 fY2 fH2 fZ aSh aMn CNo : Addr} (X : K.In h) (G : h.Ns mainGlobals mg) (hfa : mg "law" = some (.ref fa))
    {odkR ankR odkM ankM odkC ankC odi ani odt ant odri anri odrp anrp odra anra odrb anrb odrn anrn odrx anrx odxiY anxiY odxhY anxhY odxlA anxlA odxsZ anxsZ odxlB anxlB odxiD anxiD odxhD anxhD odxlD anxlD odxlE anxlE odxsE anxsE odxiF anxiF odxlF anxlF odxiG anxiG odxhZ anxhZ odxlZ anxlZ odxiN anxiN odpi anpi odeT aneT odeA aneA odeB aneB odeF aneF odW1 anW1 odR1 anR1 odG1 anG1 odS1 anS1 odN1 anN1 odM1 anM1 odU1 anU1 odA3 anA3 odB3 anB3 odD3 anD3 odL3 anL3 odI3 anI3 odK3 anK3 odA2 anA2 odW2 anW2 odX2 anX2 odP2 anP2 odS2 anS2 odT2 anT2 odD2 anD2 odF2 anF2 odY2 anY2 odH2 anH2 odZ anZ : Option Addr} {slkR slkM slkC sli slt slri slrp slra slrb slrn slrx slxiY slxhY slxlA slxsZ slxlB slxiD slxhD slxlD slxlE slxsE slxiF slxlF slxiG slxhZ slxlZ slxiN slpi sleT sleA sleB sleF slW1 slR1 slG1 slS1 slN1 slM1 slU1 slA3 slB3 slD3 slL3 slI3 slK3 slA2 slW2 slX2 slP2 slS2 slT2 slD2 slF2 slY2 slH2 slZ : Array (Option Value)} {ockR kVkR dckR pmkR cdkR ctkR ockM kVkM dckM pmkM cdkM ctkM ockC kVkC dckC pmkC cdkC ctkC oci kVi dci pmi cdi cti oct kVt dct pmt cdt ctt ocri kVri dcri pmri cdri ctri ocrp kVrp dcrp pmrp cdrp ctrp ocra kVra dcra pmra cdra ctra ocrb kVrb dcrb pmrb cdrb ctrb ocrn kVrn dcrn pmrn cdrn ctrn ocrx kVrx dcrx pmrx cdrx ctrx ocxiY kVxiY dcxiY pmxiY cdxiY ctxiY ocxhY kVxhY dcxhY pmxhY cdxhY ctxhY ocxlA kVxlA dcxlA pmxlA cdxlA ctxlA ocxsZ kVxsZ dcxsZ pmxsZ cdxsZ ctxsZ ocxlB kVxlB dcxlB pmxlB cdxlB ctxlB ocxiD kVxiD dcxiD pmxiD cdxiD ctxiD ocxhD kVxhD dcxhD pmxhD cdxhD ctxhD ocxlD kVxlD dcxlD pmxlD cdxlD ctxlD ocxlE kVxlE dcxlE pmxlE cdxlE ctxlE ocxsE kVxsE dcxsE pmxsE cdxsE ctxsE ocxiF kVxiF dcxiF pmxiF cdxiF ctxiF ocxlF kVxlF dcxlF pmxlF cdxlF ctxlF ocxiG kVxiG dcxiG pmxiG cdxiG ctxiG ocxhZ kVxhZ dcxhZ pmxhZ cdxhZ ctxhZ ocxlZ kVxlZ dcxlZ pmxlZ cdxlZ ctxlZ ocxiN kVxiN dcxiN pmxiN cdxiN ctxiN ocpi kVpi dcpi pmpi cdpi ctpi oceT kVeT dceT pmeT cdeT cteT oceA kVeA dceA pmeA cdeA cteA oceB kVeB dceB pmeB cdeB cteB oceF kVeF dceF pmeF cdeF cteF ocW1 kVW1 dcW1 pmW1 cdW1 ctW1 ocR1 kVR1 dcR1 pmR1 cdR1 ctR1 ocG1 kVG1 dcG1 pmG1 cdG1 ctG1 ocS1 kVS1 dcS1 pmS1 cdS1 ctS1 ocN1 kVN1 dcN1 pmN1 cdN1 ctN1 ocM1 kVM1 dcM1 pmM1 cdM1 ctM1 ocU1 kVU1 dcU1 pmU1 cdU1 ctU1 ocA3 kVA3 dcA3 pmA3 cdA3 ctA3 ocB3 kVB3 dcB3 pmB3 cdB3 ctB3 ocD3 kVD3 dcD3 pmD3 cdD3 ctD3 ocL3 kVL3 dcL3 pmL3 cdL3 ctL3 ocI3 kVI3 dcI3 pmI3 cdI3 ctI3 ocK3 kVK3 dcK3 pmK3 cdK3 ctK3 ocA2 kVA2 dcA2 pmA2 cdA2 ctA2 ocW2 kVW2 dcW2 pmW2 cdW2 ctW2 ocX2 kVX2 dcX2 pmX2 cdX2 ctX2 ocP2 kVP2 dcP2 pmP2 cdP2 ctP2 ocS2 kVS2 dcS2 pmS2 cdS2 ctS2 ocT2 kVT2 dcT2 pmT2 cdT2 ctT2 ocD2 kVD2 dcD2 pmD2 cdD2 ctD2 ocF2 kVF2 dcF2 pmF2 cdF2 ctF2 ocY2 kVY2 dcY2 pmY2 cdY2 ctY2 ocH2 kVH2 dcH2 pmH2 cdH2 ctH2 ocZ kVZ dcZ pmZ cdZ ctZ : Value} {t_MOST_FIGURES_things t_MOST_SIGNS t_MOST_PARTS t_MOST_DEEP t_LONGEST t_BLANK t_PERCENT t_TILDE t_MOST_FIGURES_steps t_MOST_STEPS : Tok} {esR : Array DictEntry} {epR : Nat} {dMn : Option Addr} {mn1 mn2 : Tok} {nMn : Nat} {sMn : Array (Option Value)}
    (nR : PySem.W.nsIn K mainGlobals "Read" = some (some (.ref CR)))
    (pgR : PySem.W.plainGet K CR Str.empty = true)
    (hdR : PySem.W.hasDictIn K CR = true)
    (poR : PySem.W.plainOver K CR = true)
    (saR : PySem.W.findIn K (.ref CR) "__setattr__" = some (some (.builtin "object.__setattr__")))
    (mkR : PySem.W.makesIn K CR = true)
    (kcR : PySem.W.keepIn K (.ref CR) = true)
    (nFR : PySem.W.findIn K (.ref CR) "first" = some none)
    (nLR : PySem.W.findIn K (.ref CR) "last" = some none)
    (akR : PySem.W.findIn K (.ref CR) "kind" = some (some (.ref fkR)))
    (jkR : PySem.W.isFn K (.ref fkR) = true)
    (lkR : K.lookup fkR = some ⟨ockR, odkR, .func (PySem.W.fnOf "kind" "Read.kind" (defArgs m_Read_kind) (defBody m_Read_kind) (defScope m_Read_kind) .none kVkR dckR pmkR ankR cdkR ctkR), slkR⟩)
    (ckR : PySem.W.codeIn K cdkR "Read.kind" = true)
    (ekR : PySem.W.keepIn K (.ref fkR) = true)
    (nM : PySem.W.nsIn K mainGlobals "Mean" = some (some (.ref CM)))
    (pgM : PySem.W.plainGet K CM Str.empty = true)
    (hdM : PySem.W.hasDictIn K CM = true)
    (poM : PySem.W.plainOver K CM = true)
    (saM : PySem.W.findIn K (.ref CM) "__setattr__" = some (some (.builtin "object.__setattr__")))
    (mkM : PySem.W.makesIn K CM = true)
    (kcM : PySem.W.keepIn K (.ref CM) = true)
    (nFM : PySem.W.findIn K (.ref CM) "first" = some none)
    (nLM : PySem.W.findIn K (.ref CM) "last" = some none)
    (akM : PySem.W.findIn K (.ref CM) "kind" = some (some (.ref fkM)))
    (jkM : PySem.W.isFn K (.ref fkM) = true)
    (lkM : K.lookup fkM = some ⟨ockM, odkM, .func (PySem.W.fnOf "kind" "Mean.kind" (defArgs m_Mean_kind) (defBody m_Mean_kind) (defScope m_Mean_kind) .none kVkM dckM pmkM ankM cdkM ctkM), slkM⟩)
    (ckM : PySem.W.codeIn K cdkM "Mean.kind" = true)
    (ekM : PySem.W.keepIn K (.ref fkM) = true)
    (nC : PySem.W.nsIn K mainGlobals "Change" = some (some (.ref CC)))
    (pgC : PySem.W.plainGet K CC Str.empty = true)
    (hdC : PySem.W.hasDictIn K CC = true)
    (poC : PySem.W.plainOver K CC = true)
    (saC : PySem.W.findIn K (.ref CC) "__setattr__" = some (some (.builtin "object.__setattr__")))
    (mkC : PySem.W.makesIn K CC = true)
    (kcC : PySem.W.keepIn K (.ref CC) = true)
    (nFC : PySem.W.findIn K (.ref CC) "first" = some none)
    (nLC : PySem.W.findIn K (.ref CC) "last" = some none)
    (akC : PySem.W.findIn K (.ref CC) "kind" = some (some (.ref fkC)))
    (jkC : PySem.W.isFn K (.ref fkC) = true)
    (lkC : K.lookup fkC = some ⟨ockC, odkC, .func (PySem.W.fnOf "kind" "Change.kind" (defArgs m_Change_kind) (defBody m_Change_kind) (defScope m_Change_kind) .none kVkC dckC pmkC ankC cdkC ctkC), slkC⟩)
    (ckC : PySem.W.codeIn K cdkC "Change.kind" = true)
    (ekC : PySem.W.keepIn K (.ref fkC) = true)
    (aiR : PySem.W.findIn K (.ref CR) "__init__" = some (some (.ref fi)))
    (aiM : PySem.W.findIn K (.ref CM) "__init__" = some (some (.ref fi)))
    (aiC : PySem.W.findIn K (.ref CC) "__init__" = some (some (.ref fi)))
    (ji : PySem.W.isFn K (.ref fi) = true)
    (li : K.lookup fi = some ⟨oci, odi, .func (PySem.W.fnOf "__init__" "Lock.__init__" (defArgs m_Lock_init) (defBody m_Lock_init) (defScope m_Lock_init) .none kVi dci pmi ani cdi cti), sli⟩)
    (ci : PySem.W.codeIn K cdi "Lock.__init__" = true)
    (ei : PySem.W.keepIn K (.ref fi) = true)
    (atR : PySem.W.findIn K (.ref CR) "told" = some (some (.ref ft)))
    (atM : PySem.W.findIn K (.ref CM) "told" = some (some (.ref ft)))
    (atC : PySem.W.findIn K (.ref CC) "told" = some (some (.ref ft)))
    (jt : PySem.W.isFn K (.ref ft) = true)
    (lt : K.lookup ft = some ⟨oct, odt, .func (PySem.W.fnOf "told" "Lock.told" (defArgs m_Lock_told) (defBody m_Lock_told) (defScope m_Lock_told) .none kVt dct pmt ant cdt ctt), slt⟩)
    (ct : PySem.W.codeIn K cdt "Lock.told" = true)
    (et : PySem.W.keepIn K (.ref ft) = true)
    (nrd : PySem.W.nsIn K mainGlobals "Reader" = some (some (.ref CRd)))
    (pgrd : PySem.W.plainGet K CRd Str.empty = true)
    (hdrd : PySem.W.hasDictIn K CRd = true)
    (pord : PySem.W.plainOver K CRd = true)
    (sard : PySem.W.findIn K (.ref CRd) "__setattr__" = some (some (.builtin "object.__setattr__")))
    (mkrd : PySem.W.makesIn K CRd = true)
    (kcrd : PySem.W.keepIn K (.ref CRd) = true)
    (nTx : PySem.W.findIn K (.ref CRd) "text" = some none)
    (nPl : PySem.W.findIn K (.ref CRd) "place" = some none)
    (ari : PySem.W.findIn K (.ref CRd) "__init__" = some (some (.ref fri)))
    (jri : PySem.W.isFn K (.ref fri) = true)
    (lri : K.lookup fri = some ⟨ocri, odri, .func (PySem.W.fnOf "__init__" "Reader.__init__" (defArgs m_Reader_init) (defBody m_Reader_init) (defScope m_Reader_init) .none kVri dcri pmri anri cdri ctri), slri⟩)
    (cri : PySem.W.codeIn K cdri "Reader.__init__" = true)
    (eri : PySem.W.keepIn K (.ref fri) = true)
    (arp : PySem.W.findIn K (.ref CRd) "passes" = some (some (.ref frp)))
    (jrp : PySem.W.isFn K (.ref frp) = true)
    (lrp : K.lookup frp = some ⟨ocrp, odrp, .func (PySem.W.fnOf "passes" "Reader.passes" (defArgs m_Reader_passes) (defBody m_Reader_passes) (defScope m_Reader_passes) .none kVrp dcrp pmrp anrp cdrp ctrp), slrp⟩)
    (crp : PySem.W.codeIn K cdrp "Reader.passes" = true)
    (erp : PySem.W.keepIn K (.ref frp) = true)
    (ara : PySem.W.findIn K (.ref CRd) "read_any" = some (some (.ref fra)))
    (jra : PySem.W.isFn K (.ref fra) = true)
    (lra : K.lookup fra = some ⟨ocra, odra, .func (PySem.W.fnOf "read_any" "Reader.read_any" (defArgs m_Reader_read_any) (defBody m_Reader_read_any) (defScope m_Reader_read_any) .none kVra dcra pmra anra cdra ctra), slra⟩)
    (cra : PySem.W.codeIn K cdra "Reader.read_any" = true)
    (era : PySem.W.keepIn K (.ref fra) = true)
    (arb : PySem.W.findIn K (.ref CRd) "read_below" = some (some (.ref frb)))
    (jrb : PySem.W.isFn K (.ref frb) = true)
    (lrb : K.lookup frb = some ⟨ocrb, odrb, .func (PySem.W.fnOf "read_below" "Reader.read_below" (defArgs m_Reader_read_below) (defBody m_Reader_read_below) (defScope m_Reader_read_below) .none kVrb dcrb pmrb anrb cdrb ctrb), slrb⟩)
    (crb : PySem.W.codeIn K cdrb "Reader.read_below" = true)
    (erb : PySem.W.keepIn K (.ref frb) = true)
    (arn : PySem.W.findIn K (.ref CRd) "read_number" = some (some (.ref frn)))
    (jrn : PySem.W.isFn K (.ref frn) = true)
    (lrn : K.lookup frn = some ⟨ocrn, odrn, .func (PySem.W.fnOf "read_number" "Reader.read_number" (defArgs m_Reader_read_number) (defBody m_Reader_read_number) (defScope m_Reader_read_number) .none kVrn dcrn pmrn anrn cdrn ctrn), slrn⟩)
    (crn : PySem.W.codeIn K cdrn "Reader.read_number" = true)
    (ern : PySem.W.keepIn K (.ref frn) = true)
    (arx : PySem.W.findIn K (.ref CRd) "read_signs" = some (some (.ref frx)))
    (jrx : PySem.W.isFn K (.ref frx) = true)
    (lrx : K.lookup frx = some ⟨ocrx, odrx, .func (PySem.W.fnOf "read_signs" "Reader.read_signs" (defArgs m_Reader_read_signs) (defBody m_Reader_read_signs) (defScope m_Reader_read_signs) .none kVrx dcrx pmrx anrx cdrx ctrx), slrx⟩)
    (crx : PySem.W.codeIn K cdrx "Reader.read_signs" = true)
    (erx : PySem.W.keepIn K (.ref frx) = true)
    (nwA : PySem.W.nsIn K mainGlobals "TakeStep" = some (some (.ref WA)))
    (pgwA : PySem.W.plainGet K WA Str.empty = true)
    (hdwA : PySem.W.hasDictIn K WA = true)
    (powA : PySem.W.plainOver K WA = true)
    (sawA : PySem.W.findIn K (.ref WA) "__setattr__" = some (some (.builtin "object.__setattr__")))
    (mkwA : PySem.W.makesIn K WA = true)
    (kcwA : PySem.W.keepIn K (.ref WA) = true)
    (nWwA : PySem.W.findIn K (.ref WA) "where" = some none)
    (nCwA : PySem.W.findIn K (.ref WA) "cell" = some none)
    (nLwA : PySem.W.findIn K (.ref WA) "low" = some none)
    (nHwA : PySem.W.findIn K (.ref WA) "high" = some none)
    (nAwA : PySem.W.findIn K (.ref WA) "amount" = some none)
    (uxiYA : PySem.W.findIn K (.ref WA) "__init__" = some (some (.ref fxiY)))
    (jxiY : PySem.W.isFn K (.ref fxiY) = true)
    (lxiY : K.lookup fxiY = some ⟨ocxiY, odxiY, .func (PySem.W.fnOf "__init__" "CellStep.__init__" (defArgs m_CellStep_init) (defBody m_CellStep_init) (defScope m_CellStep_init) .none kVxiY dcxiY pmxiY anxiY cdxiY ctxiY), slxiY⟩)
    (cxiY : PySem.W.codeIn K cdxiY "CellStep.__init__" = true)
    (exiY : PySem.W.keepIn K (.ref fxiY) = true)
    (uxhYA : PySem.W.findIn K (.ref WA) "house" = some (some (.ref fxhY)))
    (jxhY : PySem.W.isFn K (.ref fxhY) = true)
    (lxhY : K.lookup fxhY = some ⟨ocxhY, odxhY, .func (PySem.W.fnOf "house" "CellStep.house" (defArgs m_CellStep_house) (defBody m_CellStep_house) (defScope m_CellStep_house) .none kVxhY dcxhY pmxhY anxhY cdxhY ctxhY), slxhY⟩)
    (cxhY : PySem.W.codeIn K cdxhY "CellStep.house" = true)
    (exhY : PySem.W.keepIn K (.ref fxhY) = true)
    (uxlAA : PySem.W.findIn K (.ref WA) "lock" = some (some (.ref fxlA)))
    (jxlA : PySem.W.isFn K (.ref fxlA) = true)
    (lxlA : K.lookup fxlA = some ⟨ocxlA, odxlA, .func (PySem.W.fnOf "lock" "TakeStep.lock" (defArgs m_TakeStep_lock) (defBody m_TakeStep_lock) (defScope m_TakeStep_lock) .none kVxlA dcxlA pmxlA anxlA cdxlA ctxlA), slxlA⟩)
    (cxlA : PySem.W.codeIn K cdxlA "TakeStep.lock" = true)
    (exlA : PySem.W.keepIn K (.ref fxlA) = true)
    (uxsZA : PySem.W.findIn K (.ref WA) "sure" = some (some (.ref fxsZ)))
    (jxsZ : PySem.W.isFn K (.ref fxsZ) = true)
    (lxsZ : K.lookup fxsZ = some ⟨ocxsZ, odxsZ, .func (PySem.W.fnOf "sure" "Step.sure" (defArgs m_Step_sure) (defBody m_Step_sure) (defScope m_Step_sure) .none kVxsZ dcxsZ pmxsZ anxsZ cdxsZ ctxsZ), slxsZ⟩)
    (cxsZ : PySem.W.codeIn K cdxsZ "Step.sure" = true)
    (exsZ : PySem.W.keepIn K (.ref fxsZ) = true)
    (nwB : PySem.W.nsIn K mainGlobals "MeanStep" = some (some (.ref WB)))
    (pgwB : PySem.W.plainGet K WB Str.empty = true)
    (hdwB : PySem.W.hasDictIn K WB = true)
    (powB : PySem.W.plainOver K WB = true)
    (sawB : PySem.W.findIn K (.ref WB) "__setattr__" = some (some (.builtin "object.__setattr__")))
    (mkwB : PySem.W.makesIn K WB = true)
    (kcwB : PySem.W.keepIn K (.ref WB) = true)
    (nWwB : PySem.W.findIn K (.ref WB) "where" = some none)
    (nCwB : PySem.W.findIn K (.ref WB) "cell" = some none)
    (nLwB : PySem.W.findIn K (.ref WB) "low" = some none)
    (nHwB : PySem.W.findIn K (.ref WB) "high" = some none)
    (nAwB : PySem.W.findIn K (.ref WB) "amount" = some none)
    (uxiYB : PySem.W.findIn K (.ref WB) "__init__" = some (some (.ref fxiY)))
    (uxhYB : PySem.W.findIn K (.ref WB) "house" = some (some (.ref fxhY)))
    (uxlBB : PySem.W.findIn K (.ref WB) "lock" = some (some (.ref fxlB)))
    (jxlB : PySem.W.isFn K (.ref fxlB) = true)
    (lxlB : K.lookup fxlB = some ⟨ocxlB, odxlB, .func (PySem.W.fnOf "lock" "MeanStep.lock" (defArgs m_MeanStep_lock) (defBody m_MeanStep_lock) (defScope m_MeanStep_lock) .none kVxlB dcxlB pmxlB anxlB cdxlB ctxlB), slxlB⟩)
    (cxlB : PySem.W.codeIn K cdxlB "MeanStep.lock" = true)
    (exlB : PySem.W.keepIn K (.ref fxlB) = true)
    (uxsZB : PySem.W.findIn K (.ref WB) "sure" = some (some (.ref fxsZ)))
    (nwD : PySem.W.nsIn K mainGlobals "SumStep" = some (some (.ref WD)))
    (pgwD : PySem.W.plainGet K WD Str.empty = true)
    (hdwD : PySem.W.hasDictIn K WD = true)
    (powD : PySem.W.plainOver K WD = true)
    (sawD : PySem.W.findIn K (.ref WD) "__setattr__" = some (some (.builtin "object.__setattr__")))
    (mkwD : PySem.W.makesIn K WD = true)
    (kcwD : PySem.W.keepIn K (.ref WD) = true)
    (nWwD : PySem.W.findIn K (.ref WD) "where" = some none)
    (nCwD : PySem.W.findIn K (.ref WD) "cell" = some none)
    (nLwD : PySem.W.findIn K (.ref WD) "low" = some none)
    (nHwD : PySem.W.findIn K (.ref WD) "high" = some none)
    (nAwD : PySem.W.findIn K (.ref WD) "amount" = some none)
    (uxiDD : PySem.W.findIn K (.ref WD) "__init__" = some (some (.ref fxiD)))
    (jxiD : PySem.W.isFn K (.ref fxiD) = true)
    (lxiD : K.lookup fxiD = some ⟨ocxiD, odxiD, .func (PySem.W.fnOf "__init__" "SumStep.__init__" (defArgs m_SumStep_init) (defBody m_SumStep_init) (defScope m_SumStep_init) .none kVxiD dcxiD pmxiD anxiD cdxiD ctxiD), slxiD⟩)
    (cxiD : PySem.W.codeIn K cdxiD "SumStep.__init__" = true)
    (exiD : PySem.W.keepIn K (.ref fxiD) = true)
    (uxhDD : PySem.W.findIn K (.ref WD) "house" = some (some (.ref fxhD)))
    (jxhD : PySem.W.isFn K (.ref fxhD) = true)
    (lxhD : K.lookup fxhD = some ⟨ocxhD, odxhD, .func (PySem.W.fnOf "house" "SumStep.house" (defArgs m_SumStep_house) (defBody m_SumStep_house) (defScope m_SumStep_house) .none kVxhD dcxhD pmxhD anxhD cdxhD ctxhD), slxhD⟩)
    (cxhD : PySem.W.codeIn K cdxhD "SumStep.house" = true)
    (exhD : PySem.W.keepIn K (.ref fxhD) = true)
    (uxlDD : PySem.W.findIn K (.ref WD) "lock" = some (some (.ref fxlD)))
    (jxlD : PySem.W.isFn K (.ref fxlD) = true)
    (lxlD : K.lookup fxlD = some ⟨ocxlD, odxlD, .func (PySem.W.fnOf "lock" "SumStep.lock" (defArgs m_SumStep_lock) (defBody m_SumStep_lock) (defScope m_SumStep_lock) .none kVxlD dcxlD pmxlD anxlD cdxlD ctxlD), slxlD⟩)
    (cxlD : PySem.W.codeIn K cdxlD "SumStep.lock" = true)
    (exlD : PySem.W.keepIn K (.ref fxlD) = true)
    (uxsZD : PySem.W.findIn K (.ref WD) "sure" = some (some (.ref fxsZ)))
    (nwE : PySem.W.nsIn K mainGlobals "GiveStep" = some (some (.ref WE)))
    (pgwE : PySem.W.plainGet K WE Str.empty = true)
    (hdwE : PySem.W.hasDictIn K WE = true)
    (powE : PySem.W.plainOver K WE = true)
    (sawE : PySem.W.findIn K (.ref WE) "__setattr__" = some (some (.builtin "object.__setattr__")))
    (mkwE : PySem.W.makesIn K WE = true)
    (kcwE : PySem.W.keepIn K (.ref WE) = true)
    (nWwE : PySem.W.findIn K (.ref WE) "where" = some none)
    (nCwE : PySem.W.findIn K (.ref WE) "cell" = some none)
    (nLwE : PySem.W.findIn K (.ref WE) "low" = some none)
    (nHwE : PySem.W.findIn K (.ref WE) "high" = some none)
    (nAwE : PySem.W.findIn K (.ref WE) "amount" = some none)
    (uxiYE : PySem.W.findIn K (.ref WE) "__init__" = some (some (.ref fxiY)))
    (uxhYE : PySem.W.findIn K (.ref WE) "house" = some (some (.ref fxhY)))
    (uxlEE : PySem.W.findIn K (.ref WE) "lock" = some (some (.ref fxlE)))
    (jxlE : PySem.W.isFn K (.ref fxlE) = true)
    (lxlE : K.lookup fxlE = some ⟨ocxlE, odxlE, .func (PySem.W.fnOf "lock" "GiveStep.lock" (defArgs m_GiveStep_lock) (defBody m_GiveStep_lock) (defScope m_GiveStep_lock) .none kVxlE dcxlE pmxlE anxlE cdxlE ctxlE), slxlE⟩)
    (cxlE : PySem.W.codeIn K cdxlE "GiveStep.lock" = true)
    (exlE : PySem.W.keepIn K (.ref fxlE) = true)
    (uxsEE : PySem.W.findIn K (.ref WE) "sure" = some (some (.ref fxsE)))
    (jxsE : PySem.W.isFn K (.ref fxsE) = true)
    (lxsE : K.lookup fxsE = some ⟨ocxsE, odxsE, .func (PySem.W.fnOf "sure" "GiveStep.sure" (defArgs m_GiveStep_sure) (defBody m_GiveStep_sure) (defScope m_GiveStep_sure) .none kVxsE dcxsE pmxsE anxsE cdxsE ctxsE), slxsE⟩)
    (cxsE : PySem.W.codeIn K cdxsE "GiveStep.sure" = true)
    (exsE : PySem.W.keepIn K (.ref fxsE) = true)
    (nwF : PySem.W.nsIn K mainGlobals "AddStep" = some (some (.ref WF)))
    (pgwF : PySem.W.plainGet K WF Str.empty = true)
    (hdwF : PySem.W.hasDictIn K WF = true)
    (powF : PySem.W.plainOver K WF = true)
    (sawF : PySem.W.findIn K (.ref WF) "__setattr__" = some (some (.builtin "object.__setattr__")))
    (mkwF : PySem.W.makesIn K WF = true)
    (kcwF : PySem.W.keepIn K (.ref WF) = true)
    (nWwF : PySem.W.findIn K (.ref WF) "where" = some none)
    (nCwF : PySem.W.findIn K (.ref WF) "cell" = some none)
    (nLwF : PySem.W.findIn K (.ref WF) "low" = some none)
    (nHwF : PySem.W.findIn K (.ref WF) "high" = some none)
    (nAwF : PySem.W.findIn K (.ref WF) "amount" = some none)
    (uxiFF : PySem.W.findIn K (.ref WF) "__init__" = some (some (.ref fxiF)))
    (jxiF : PySem.W.isFn K (.ref fxiF) = true)
    (lxiF : K.lookup fxiF = some ⟨ocxiF, odxiF, .func (PySem.W.fnOf "__init__" "AddStep.__init__" (defArgs m_AddStep_init) (defBody m_AddStep_init) (defScope m_AddStep_init) .none kVxiF dcxiF pmxiF anxiF cdxiF ctxiF), slxiF⟩)
    (cxiF : PySem.W.codeIn K cdxiF "AddStep.__init__" = true)
    (exiF : PySem.W.keepIn K (.ref fxiF) = true)
    (uxhYF : PySem.W.findIn K (.ref WF) "house" = some (some (.ref fxhY)))
    (uxlFF : PySem.W.findIn K (.ref WF) "lock" = some (some (.ref fxlF)))
    (jxlF : PySem.W.isFn K (.ref fxlF) = true)
    (lxlF : K.lookup fxlF = some ⟨ocxlF, odxlF, .func (PySem.W.fnOf "lock" "AddStep.lock" (defArgs m_AddStep_lock) (defBody m_AddStep_lock) (defScope m_AddStep_lock) .none kVxlF dcxlF pmxlF anxlF cdxlF ctxlF), slxlF⟩)
    (cxlF : PySem.W.codeIn K cdxlF "AddStep.lock" = true)
    (exlF : PySem.W.keepIn K (.ref fxlF) = true)
    (uxsZF : PySem.W.findIn K (.ref WF) "sure" = some (some (.ref fxsZ)))
    (nwG : PySem.W.nsIn K mainGlobals "PlusStep" = some (some (.ref WG)))
    (pgwG : PySem.W.plainGet K WG Str.empty = true)
    (hdwG : PySem.W.hasDictIn K WG = true)
    (powG : PySem.W.plainOver K WG = true)
    (sawG : PySem.W.findIn K (.ref WG) "__setattr__" = some (some (.builtin "object.__setattr__")))
    (mkwG : PySem.W.makesIn K WG = true)
    (kcwG : PySem.W.keepIn K (.ref WG) = true)
    (nWwG : PySem.W.findIn K (.ref WG) "where" = some none)
    (nCwG : PySem.W.findIn K (.ref WG) "cell" = some none)
    (nLwG : PySem.W.findIn K (.ref WG) "low" = some none)
    (nHwG : PySem.W.findIn K (.ref WG) "high" = some none)
    (nAwG : PySem.W.findIn K (.ref WG) "amount" = some none)
    (uxiGG : PySem.W.findIn K (.ref WG) "__init__" = some (some (.ref fxiG)))
    (jxiG : PySem.W.isFn K (.ref fxiG) = true)
    (lxiG : K.lookup fxiG = some ⟨ocxiG, odxiG, .func (PySem.W.fnOf "__init__" "PlusStep.__init__" (defArgs m_PlusStep_init) (defBody m_PlusStep_init) (defScope m_PlusStep_init) .none kVxiG dcxiG pmxiG anxiG cdxiG ctxiG), slxiG⟩)
    (cxiG : PySem.W.codeIn K cdxiG "PlusStep.__init__" = true)
    (exiG : PySem.W.keepIn K (.ref fxiG) = true)
    (uxhZG : PySem.W.findIn K (.ref WG) "house" = some (some (.ref fxhZ)))
    (jxhZ : PySem.W.isFn K (.ref fxhZ) = true)
    (lxhZ : K.lookup fxhZ = some ⟨ocxhZ, odxhZ, .func (PySem.W.fnOf "house" "Step.house" (defArgs m_Step_house) (defBody m_Step_house) (defScope m_Step_house) .none kVxhZ dcxhZ pmxhZ anxhZ cdxhZ ctxhZ), slxhZ⟩)
    (cxhZ : PySem.W.codeIn K cdxhZ "Step.house" = true)
    (exhZ : PySem.W.keepIn K (.ref fxhZ) = true)
    (uxlZG : PySem.W.findIn K (.ref WG) "lock" = some (some (.ref fxlZ)))
    (jxlZ : PySem.W.isFn K (.ref fxlZ) = true)
    (lxlZ : K.lookup fxlZ = some ⟨ocxlZ, odxlZ, .func (PySem.W.fnOf "lock" "Step.lock" (defArgs m_Step_lock) (defBody m_Step_lock) (defScope m_Step_lock) .none kVxlZ dcxlZ pmxlZ anxlZ cdxlZ ctxlZ), slxlZ⟩)
    (cxlZ : PySem.W.codeIn K cdxlZ "Step.lock" = true)
    (exlZ : PySem.W.keepIn K (.ref fxlZ) = true)
    (uxsZG : PySem.W.findIn K (.ref WG) "sure" = some (some (.ref fxsZ)))
    (nwN : PySem.W.nsIn K mainGlobals "NeedStep" = some (some (.ref WN)))
    (pgwN : PySem.W.plainGet K WN Str.empty = true)
    (hdwN : PySem.W.hasDictIn K WN = true)
    (powN : PySem.W.plainOver K WN = true)
    (sawN : PySem.W.findIn K (.ref WN) "__setattr__" = some (some (.builtin "object.__setattr__")))
    (mkwN : PySem.W.makesIn K WN = true)
    (kcwN : PySem.W.keepIn K (.ref WN) = true)
    (nWwN : PySem.W.findIn K (.ref WN) "where" = some none)
    (nCwN : PySem.W.findIn K (.ref WN) "cell" = some none)
    (nLwN : PySem.W.findIn K (.ref WN) "low" = some none)
    (nHwN : PySem.W.findIn K (.ref WN) "high" = some none)
    (nAwN : PySem.W.findIn K (.ref WN) "amount" = some none)
    (uxiNN : PySem.W.findIn K (.ref WN) "__init__" = some (some (.ref fxiN)))
    (jxiN : PySem.W.isFn K (.ref fxiN) = true)
    (lxiN : K.lookup fxiN = some ⟨ocxiN, odxiN, .func (PySem.W.fnOf "__init__" "NeedStep.__init__" (defArgs m_NeedStep_init) (defBody m_NeedStep_init) (defScope m_NeedStep_init) .none kVxiN dcxiN pmxiN anxiN cdxiN ctxiN), slxiN⟩)
    (cxiN : PySem.W.codeIn K cdxiN "NeedStep.__init__" = true)
    (exiN : PySem.W.keepIn K (.ref fxiN) = true)
    (uxhZN : PySem.W.findIn K (.ref WN) "house" = some (some (.ref fxhZ)))
    (uxlZN : PySem.W.findIn K (.ref WN) "lock" = some (some (.ref fxlZ)))
    (uxsZN : PySem.W.findIn K (.ref WN) "sure" = some (some (.ref fxsZ)))
    (nCY : PySem.W.nsIn K mainGlobals "CellStep" = some (some (.ref CY)))
    (gaY : PySem.W.specialIn K (.ref CY) "__getattribute__" = some (some (.builtin "type.__getattribute__")))
    (rdY : PySem.W.readsIn K CY (.type "type") = true)
    (fcY : PySem.W.findCls K (.ref CY) (.type "type") "__init__" = some (.val (.ref fxiY)))
    (hiY : PySem.W.handedIn (.ref fxiY) = true)
    (hawA : PySem.W.findIn K (.ref WA) "__class__" = some (some (.builtin "object.__class__")))
    (hmwA : PySem.W.mroIn K WA (.type "object") = some true)
    (iNwA : PySem.W.kitOne K (.ref WA) (.ref WN) = some false)
    (hawB : PySem.W.findIn K (.ref WB) "__class__" = some (some (.builtin "object.__class__")))
    (hmwB : PySem.W.mroIn K WB (.type "object") = some true)
    (iNwB : PySem.W.kitOne K (.ref WB) (.ref WN) = some false)
    (hawD : PySem.W.findIn K (.ref WD) "__class__" = some (some (.builtin "object.__class__")))
    (hmwD : PySem.W.mroIn K WD (.type "object") = some true)
    (iNwD : PySem.W.kitOne K (.ref WD) (.ref WN) = some false)
    (hawE : PySem.W.findIn K (.ref WE) "__class__" = some (some (.builtin "object.__class__")))
    (hmwE : PySem.W.mroIn K WE (.type "object") = some true)
    (iNwE : PySem.W.kitOne K (.ref WE) (.ref WN) = some false)
    (hawF : PySem.W.findIn K (.ref WF) "__class__" = some (some (.builtin "object.__class__")))
    (hmwF : PySem.W.mroIn K WF (.type "object") = some true)
    (iNwF : PySem.W.kitOne K (.ref WF) (.ref WN) = some false)
    (hawG : PySem.W.findIn K (.ref WG) "__class__" = some (some (.builtin "object.__class__")))
    (hmwG : PySem.W.mroIn K WG (.type "object") = some true)
    (iNwG : PySem.W.kitOne K (.ref WG) (.ref WN) = some false)
    (hawN : PySem.W.findIn K (.ref WN) "__class__" = some (some (.builtin "object.__class__")))
    (hmwN : PySem.W.mroIn K WN (.type "object") = some true)
    (iNwN : PySem.W.kitOne K (.ref WN) (.ref WN) = some true)
    (hn : PySem.W.specialIn K (.builtin "object.__class__") "__get__" = some (some (.builtin "getset_descriptor.__get__")))
    (htk : PySem.W.takesIn K (.builtin "object.__class__") = some true)
    (nP : PySem.W.nsIn K mainGlobals "Pact" = some (some (.ref CP)))
    (pgP : PySem.W.plainGet K CP Str.empty = true)
    (hdP : PySem.W.hasDictIn K CP = true)
    (poP : PySem.W.plainOver K CP = true)
    (saP : PySem.W.findIn K (.ref CP) "__setattr__" = some (some (.builtin "object.__setattr__")))
    (mkP : PySem.W.makesIn K CP = true)
    (kcP : PySem.W.keepIn K (.ref CP) = true)
    (nPm : PySem.W.findIn K (.ref CP) "manner" = some none)
    (nPs : PySem.W.findIn K (.ref CP) "steps" = some none)
    (nPp : PySem.W.findIn K (.ref CP) "parts" = some none)
    (api : PySem.W.findIn K (.ref CP) "__init__" = some (some (.ref fpi)))
    (jpi : PySem.W.isFn K (.ref fpi) = true)
    (lpi : K.lookup fpi = some ⟨ocpi, odpi, .func (PySem.W.fnOf "__init__" "Pact.__init__" (defArgs m_Pact_init) (defBody m_Pact_init) (defScope m_Pact_init) .none kVpi dcpi pmpi anpi cdpi ctpi), slpi⟩)
    (cpi : PySem.W.codeIn K cdpi "Pact.__init__" = true)
    (epi : PySem.W.keepIn K (.ref fpi) = true)
    (nE : PySem.W.nsIn K mainGlobals "PactError" = some (some (.ref CE)))
    (xE : PySem.W.excIn K CE bmV "ValueError.__new__" = true)
    (neT : PySem.W.nsIn K mainGlobals "NoText" = some (some (.ref CTx)))
    (keT : PySem.W.keepIn K (.ref CTx) = true)
    (aeT : PySem.W.findIn K (.ref CTx) "__init__" = some (some (.ref feT)))
    (jeT : PySem.W.isFn K (.ref feT) = true)
    (leT : K.lookup feT = some ⟨oceT, odeT, .func (PySem.W.fnOf "__init__" "NoText.__init__" (defArgs m_NoText_init) (defBody m_NoText_init) (defScope m_NoText_init) .none kVeT dceT pmeT aneT cdeT cteT), sleT⟩)
    (ceT : PySem.W.codeIn K cdeT "NoText.__init__" = true)
    (eeT : PySem.W.keepIn K (.ref feT) = true)
    (xjT : XA.excJ K CTx feT "ValueError.__new__" = true)
    (xcT : XA.clsX K CTx = true)
    (xsT : PySem.W.findIn K (.ref CTx) "__setattr__" = some (some (.builtin "object.__setattr__")))
    (xnT : PySem.W.findIn K (.ref CTx) "at" = some none)
    (xgT : PySem.W.findIn K (.ref CTx) "__getattribute__" = some (some (.builtin "BaseException.__getattribute__")))
    (xhT : PySem.W.findIn K (.ref CTx) "__getattr__" = some none)
    (xkT : PySem.W.findIn K (.ref CTx) "__class__" = some (some (.builtin "object.__class__")))
    (xmT : PySem.W.mroIn K CTx (.type "object") = some true)
    (xbT : PySem.W.mroIn K CTx (.type "BaseException") = some true)
    (xeT : PySem.W.kitOne K (.ref CTx) (.ref CE) = some true)
    (neA : PySem.W.nsIn K mainGlobals "NoPlace" = some (some (.ref CAx)))
    (keA : PySem.W.keepIn K (.ref CAx) = true)
    (aeA : PySem.W.findIn K (.ref CAx) "__init__" = some (some (.ref feA)))
    (jeA : PySem.W.isFn K (.ref feA) = true)
    (leA : K.lookup feA = some ⟨oceA, odeA, .func (PySem.W.fnOf "__init__" "NoPlace.__init__" (defArgs m_NoPlace_init) (defBody m_NoPlace_init) (defScope m_NoPlace_init) .none kVeA dceA pmeA aneA cdeA cteA), sleA⟩)
    (ceA : PySem.W.codeIn K cdeA "NoPlace.__init__" = true)
    (eeA : PySem.W.keepIn K (.ref feA) = true)
    (xjA : XA.excJ K CAx feA "ValueError.__new__" = true)
    (xcA : XA.clsX K CAx = true)
    (xsA : PySem.W.findIn K (.ref CAx) "__setattr__" = some (some (.builtin "object.__setattr__")))
    (xnA : PySem.W.findIn K (.ref CAx) "at" = some none)
    (xgA : PySem.W.findIn K (.ref CAx) "__getattribute__" = some (some (.builtin "BaseException.__getattribute__")))
    (xhA : PySem.W.findIn K (.ref CAx) "__getattr__" = some none)
    (xkA : PySem.W.findIn K (.ref CAx) "__class__" = some (some (.builtin "object.__class__")))
    (xmA : PySem.W.mroIn K CAx (.type "object") = some true)
    (xbA : PySem.W.mroIn K CAx (.type "BaseException") = some true)
    (xeA : PySem.W.kitOne K (.ref CAx) (.ref CE) = some true)
    (neB : PySem.W.nsIn K mainGlobals "NoWayBack" = some (some (.ref CBx)))
    (keB : PySem.W.keepIn K (.ref CBx) = true)
    (aeB : PySem.W.findIn K (.ref CBx) "__init__" = some (some (.ref feB)))
    (jeB : PySem.W.isFn K (.ref feB) = true)
    (leB : K.lookup feB = some ⟨oceB, odeB, .func (PySem.W.fnOf "__init__" "NoWayBack.__init__" (defArgs m_NoWayBack_init) (defBody m_NoWayBack_init) (defScope m_NoWayBack_init) .none kVeB dceB pmeB aneB cdeB cteB), sleB⟩)
    (ceB : PySem.W.codeIn K cdeB "NoWayBack.__init__" = true)
    (eeB : PySem.W.keepIn K (.ref feB) = true)
    (xjB : XA.excJ K CBx feB "ValueError.__new__" = true)
    (xcB : XA.clsX K CBx = true)
    (xsB : PySem.W.findIn K (.ref CBx) "__setattr__" = some (some (.builtin "object.__setattr__")))
    (xnB : PySem.W.findIn K (.ref CBx) "at" = some none)
    (xgB : PySem.W.findIn K (.ref CBx) "__getattribute__" = some (some (.builtin "BaseException.__getattribute__")))
    (xhB : PySem.W.findIn K (.ref CBx) "__getattr__" = some none)
    (xkB : PySem.W.findIn K (.ref CBx) "__class__" = some (some (.builtin "object.__class__")))
    (xmB : PySem.W.mroIn K CBx (.type "object") = some true)
    (xbB : PySem.W.mroIn K CBx (.type "BaseException") = some true)
    (xeB : PySem.W.kitOne K (.ref CBx) (.ref CE) = some true)
    (neF : PySem.W.nsIn K mainGlobals "NoFit" = some (some (.ref CFx)))
    (keF : PySem.W.keepIn K (.ref CFx) = true)
    (aeF : PySem.W.findIn K (.ref CFx) "__init__" = some (some (.ref feF)))
    (jeF : PySem.W.isFn K (.ref feF) = true)
    (leF : K.lookup feF = some ⟨oceF, odeF, .func (PySem.W.fnOf "__init__" "NoFit.__init__" (defArgs m_NoFit_init) (defBody m_NoFit_init) (defScope m_NoFit_init) .none kVeF dceF pmeF aneF cdeF cteF), sleF⟩)
    (ceF : PySem.W.codeIn K cdeF "NoFit.__init__" = true)
    (eeF : PySem.W.keepIn K (.ref feF) = true)
    (xjF : XA.excJ K CFx feF "ValueError.__new__" = true)
    (xcF : XA.clsX K CFx = true)
    (xsF : PySem.W.findIn K (.ref CFx) "__setattr__" = some (some (.builtin "object.__setattr__")))
    (xnF : PySem.W.findIn K (.ref CFx) "at" = some none)
    (xgF : PySem.W.findIn K (.ref CFx) "__getattribute__" = some (some (.builtin "BaseException.__getattribute__")))
    (xhF : PySem.W.findIn K (.ref CFx) "__getattr__" = some none)
    (xkF : PySem.W.findIn K (.ref CFx) "__class__" = some (some (.builtin "object.__class__")))
    (xmF : PySem.W.mroIn K CFx (.type "object") = some true)
    (xbF : PySem.W.mroIn K CFx (.type "BaseException") = some true)
    (xeF : PySem.W.kitOne K (.ref CFx) (.ref CE) = some true)
    (maa : PySem.W.mroIn K CAx (.ref CAx) = some true)
    (mba : PySem.W.mroIn K CBx (.ref CAx) = some false)
    (mbb : PySem.W.mroIn K CBx (.ref CBx) = some true)
    (mae : PySem.W.mroIn K CAx (.ref CE) = some true)
    (mbe : PySem.W.mroIn K CBx (.ref CE) = some true)
    (kab : PySem.W.kitOne K (.ref CAx) (.ref CBx) = some false)
    (kbt : PySem.W.kitOne K (.ref CBx) (.ref CTx) = some false)
    (kav : PySem.W.kitOne K (.ref CAx) (.type "ValueError") = some true)
    (kbv : PySem.W.kitOne K (.ref CBx) (.type "ValueError") = some true)
    (aW1 : PySem.W.nsIn K mainGlobals "is_whole" = some (some (.ref fW1)))
    (lW1 : K.lookup fW1 = some ⟨ocW1, odW1, .func (PySem.W.fnOf "is_whole" "is_whole" (defArgs s_is_whole) (defBody s_is_whole) (defScope s_is_whole) .none kVW1 dcW1 pmW1 anW1 cdW1 ctW1), slW1⟩)
    (cW1 : PySem.W.codeIn K cdW1 "is_whole" = true)
    (eW1 : PySem.W.keepIn K (.ref fW1) = true)
    (aR1 : PySem.W.nsIn K mainGlobals "read_thing" = some (some (.ref fR1)))
    (lR1 : K.lookup fR1 = some ⟨ocR1, odR1, .func (PySem.W.fnOf "read_thing" "read_thing" (defArgs s_read_thing) (defBody s_read_thing) (defScope s_read_thing) .none kVR1 dcR1 pmR1 anR1 cdR1 ctR1), slR1⟩)
    (cR1 : PySem.W.codeIn K cdR1 "read_thing" = true)
    (eR1 : PySem.W.keepIn K (.ref fR1) = true)
    (aG1 : PySem.W.nsIn K mainGlobals "is_sign" = some (some (.ref fG1)))
    (lG1 : K.lookup fG1 = some ⟨ocG1, odG1, .func (PySem.W.fnOf "is_sign" "is_sign" (defArgs s_is_sign) (defBody s_is_sign) (defScope s_is_sign) .none kVG1 dcG1 pmG1 anG1 cdG1 ctG1), slG1⟩)
    (cG1 : PySem.W.codeIn K cdG1 "is_sign" = true)
    (eG1 : PySem.W.keepIn K (.ref fG1) = true)
    (aS1 : PySem.W.nsIn K mainGlobals "read_step" = some (some (.ref fS1)))
    (lS1 : K.lookup fS1 = some ⟨ocS1, odS1, .func (PySem.W.fnOf "read_step" "read_step" (defArgs s_read_step) (defBody s_read_step) (defScope s_read_step) .none kVS1 dcS1 pmS1 anS1 cdS1 ctS1), slS1⟩)
    (cS1 : PySem.W.codeIn K cdS1 "read_step" = true)
    (eS1 : PySem.W.keepIn K (.ref fS1) = true)
    (aN1 : PySem.W.nsIn K mainGlobals "read_number" = some (some (.ref fN1)))
    (lN1 : K.lookup fN1 = some ⟨ocN1, odN1, .func (PySem.W.fnOf "read_number" "read_number" (defArgs s_read_number) (defBody s_read_number) (defScope s_read_number) .none kVN1 dcN1 pmN1 anN1 cdN1 ctN1), slN1⟩)
    (cN1 : PySem.W.codeIn K cdN1 "read_number" = true)
    (eN1 : PySem.W.keepIn K (.ref fN1) = true)
    (aM1 : PySem.W.nsIn K mainGlobals "made_step" = some (some (.ref fM1)))
    (lM1 : K.lookup fM1 = some ⟨ocM1, odM1, .func (PySem.W.fnOf "made_step" "made_step" (defArgs s_made_step) (defBody s_made_step) (defScope s_made_step) .none kVM1 dcM1 pmM1 anM1 cdM1 ctM1), slM1⟩)
    (cM1 : PySem.W.codeIn K cdM1 "made_step" = true)
    (eM1 : PySem.W.keepIn K (.ref fM1) = true)
    (aU1 : PySem.W.nsIn K mainGlobals "made_sum" = some (some (.ref fU1)))
    (lU1 : K.lookup fU1 = some ⟨ocU1, odU1, .func (PySem.W.fnOf "made_sum" "made_sum" (defArgs s_made_sum) (defBody s_made_sum) (defScope s_made_sum) .none kVU1 dcU1 pmU1 anU1 cdU1 ctU1), slU1⟩)
    (cU1 : PySem.W.codeIn K cdU1 "made_sum" = true)
    (eU1 : PySem.W.keepIn K (.ref fU1) = true)
    (aA3 : PySem.W.nsIn K mainGlobals "read_part" = some (some (.ref fA3)))
    (lA3 : K.lookup fA3 = some ⟨ocA3, odA3, .func (PySem.W.fnOf "read_part" "read_part" (defArgs s_read_part) (defBody s_read_part) (defScope s_read_part) .none kVA3 dcA3 pmA3 anA3 cdA3 ctA3), slA3⟩)
    (cA3 : PySem.W.codeIn K cdA3 "read_part" = true)
    (eA3 : PySem.W.keepIn K (.ref fA3) = true)
    (aB3 : PySem.W.nsIn K mainGlobals "read_pact" = some (some (.ref fB3)))
    (lB3 : K.lookup fB3 = some ⟨ocB3, odB3, .func (PySem.W.fnOf "read_pact" "read_pact" (defArgs s_read_pact) (defBody s_read_pact) (defScope s_read_pact) .none kVB3 dcB3 pmB3 anB3 cdB3 ctB3), slB3⟩)
    (cB3 : PySem.W.codeIn K cdB3 "read_pact" = true)
    (eB3 : PySem.W.keepIn K (.ref fB3) = true)
    (aD3 : PySem.W.nsIn K mainGlobals "turning" = some (some (.ref fD3)))
    (lD3 : K.lookup fD3 = some ⟨ocD3, odD3, .func (PySem.W.fnOf "turning" "turning" (defArgs s_turning) (defBody s_turning) (defScope s_turning) .none kVD3 dcD3 pmD3 anD3 cdD3 ctD3), slD3⟩)
    (cD3 : PySem.W.codeIn K cdD3 "turning" = true)
    (eD3 : PySem.W.keepIn K (.ref fD3) = true)
    (aL3 : PySem.W.nsIn K mainGlobals "look" = some (some (.ref fL3)))
    (lL3 : K.lookup fL3 = some ⟨ocL3, odL3, .func (PySem.W.fnOf "look" "look" (defArgs s_look) (defBody s_look) (defScope s_look) .none kVL3 dcL3 pmL3 anL3 cdL3 ctL3), slL3⟩)
    (cL3 : PySem.W.codeIn K cdL3 "look" = true)
    (eL3 : PySem.W.keepIn K (.ref fL3) = true)
    (aI3 : PySem.W.nsIn K mainGlobals "is_there" = some (some (.ref fI3)))
    (lI3 : K.lookup fI3 = some ⟨ocI3, odI3, .func (PySem.W.fnOf "is_there" "is_there" (defArgs s_is_there) (defBody s_is_there) (defScope s_is_there) .none kVI3 dcI3 pmI3 anI3 cdI3 ctI3), slI3⟩)
    (cI3 : PySem.W.codeIn K cdI3 "is_there" = true)
    (eI3 : PySem.W.keepIn K (.ref fI3) = true)
    (aK3 : PySem.W.nsIn K mainGlobals "look_behind" = some (some (.ref fK3)))
    (lK3 : K.lookup fK3 = some ⟨ocK3, odK3, .func (PySem.W.fnOf "look_behind" "look_behind" (defArgs s_look_behind) (defBody s_look_behind) (defScope s_look_behind) .none kVK3 dcK3 pmK3 anK3 cdK3 ctK3), slK3⟩)
    (cK3 : PySem.W.codeIn K cdK3 "look_behind" = true)
    (eK3 : PySem.W.keepIn K (.ref fK3) = true)
    (aA2 : PySem.W.nsIn K mainGlobals "_law_cell" = some (some (.ref fA2)))
    (lA2 : K.lookup fA2 = some ⟨ocA2, odA2, .func (PySem.W.fnOf "_law_cell" "_law_cell" (defArgs s__law_cell) (defBody s__law_cell) (defScope s__law_cell) .none kVA2 dcA2 pmA2 anA2 cdA2 ctA2), slA2⟩)
    (cA2 : PySem.W.codeIn K cdA2 "_law_cell" = true)
    (eA2 : PySem.W.keepIn K (.ref fA2) = true)
    (aW2 : PySem.W.nsIn K mainGlobals "_law_whole" = some (some (.ref fW2)))
    (lW2 : K.lookup fW2 = some ⟨ocW2, odW2, .func (PySem.W.fnOf "_law_whole" "_law_whole" (defArgs s__law_whole) (defBody s__law_whole) (defScope s__law_whole) .none kVW2 dcW2 pmW2 anW2 cdW2 ctW2), slW2⟩)
    (cW2 : PySem.W.codeIn K cdW2 "_law_whole" = true)
    (eW2 : PySem.W.keepIn K (.ref fW2) = true)
    (aX2 : PySem.W.nsIn K mainGlobals "_law_mixed" = some (some (.ref fX2)))
    (lX2 : K.lookup fX2 = some ⟨ocX2, odX2, .func (PySem.W.fnOf "_law_mixed" "_law_mixed" (defArgs s__law_mixed) (defBody s__law_mixed) (defScope s__law_mixed) .none kVX2 dcX2 pmX2 anX2 cdX2 ctX2), slX2⟩)
    (cX2 : PySem.W.codeIn K cdX2 "_law_mixed" = true)
    (eX2 : PySem.W.keepIn K (.ref fX2) = true)
    (aP2 : PySem.W.nsIn K mainGlobals "_law_place" = some (some (.ref fP2)))
    (lP2 : K.lookup fP2 = some ⟨ocP2, odP2, .func (PySem.W.fnOf "_law_place" "_law_place" (defArgs s__law_place) (defBody s__law_place) (defScope s__law_place) .none kVP2 dcP2 pmP2 anP2 cdP2 ctP2), slP2⟩)
    (cP2 : PySem.W.codeIn K cdP2 "_law_place" = true)
    (eP2 : PySem.W.keepIn K (.ref fP2) = true)
    (aS2 : PySem.W.nsIn K mainGlobals "_law_step" = some (some (.ref fS2)))
    (lS2 : K.lookup fS2 = some ⟨ocS2, odS2, .func (PySem.W.fnOf "_law_step" "_law_step" (defArgs s__law_step) (defBody s__law_step) (defScope s__law_step) .none kVS2 dcS2 pmS2 anS2 cdS2 ctS2), slS2⟩)
    (cS2 : PySem.W.codeIn K cdS2 "_law_step" = true)
    (eS2 : PySem.W.keepIn K (.ref fS2) = true)
    (aT2 : PySem.W.nsIn K mainGlobals "_law_is_there" = some (some (.ref fT2)))
    (lT2 : K.lookup fT2 = some ⟨ocT2, odT2, .func (PySem.W.fnOf "_law_is_there" "_law_is_there" (defArgs s__law_is_there) (defBody s__law_is_there) (defScope s__law_is_there) .none kVT2 dcT2 pmT2 anT2 cdT2 ctT2), slT2⟩)
    (cT2 : PySem.W.codeIn K cdT2 "_law_is_there" = true)
    (eT2 : PySem.W.keepIn K (.ref fT2) = true)
    (aD2 : PySem.W.nsIn K mainGlobals "_law_due" = some (some (.ref fD2)))
    (lD2 : K.lookup fD2 = some ⟨ocD2, odD2, .func (PySem.W.fnOf "_law_due" "_law_due" (defArgs s__law_due) (defBody s__law_due) (defScope s__law_due) .none kVD2 dcD2 pmD2 anD2 cdD2 ctD2), slD2⟩)
    (cD2 : PySem.W.codeIn K cdD2 "_law_due" = true)
    (eD2 : PySem.W.keepIn K (.ref fD2) = true)
    (aF2 : PySem.W.nsIn K mainGlobals "_law_found" = some (some (.ref fF2)))
    (lF2 : K.lookup fF2 = some ⟨ocF2, odF2, .func (PySem.W.fnOf "_law_found" "_law_found" (defArgs s__law_found) (defBody s__law_found) (defScope s__law_found) .none kVF2 dcF2 pmF2 anF2 cdF2 ctF2), slF2⟩)
    (cF2 : PySem.W.codeIn K cdF2 "_law_found" = true)
    (eF2 : PySem.W.keepIn K (.ref fF2) = true)
    (aY2 : PySem.W.nsIn K mainGlobals "_law_any" = some (some (.ref fY2)))
    (lY2 : K.lookup fY2 = some ⟨ocY2, odY2, .func (PySem.W.fnOf "_law_any" "_law_any" (defArgs s__law_any) (defBody s__law_any) (defScope s__law_any) .none kVY2 dcY2 pmY2 anY2 cdY2 ctY2), slY2⟩)
    (cY2 : PySem.W.codeIn K cdY2 "_law_any" = true)
    (eY2 : PySem.W.keepIn K (.ref fY2) = true)
    (aH2 : PySem.W.nsIn K mainGlobals "_law_by_hand" = some (some (.ref fH2)))
    (lH2 : K.lookup fH2 = some ⟨ocH2, odH2, .func (PySem.W.fnOf "_law_by_hand" "_law_by_hand" (defArgs s__law_by_hand) (defBody s__law_by_hand) (defScope s__law_by_hand) .none kVH2 dcH2 pmH2 anH2 cdH2 ctH2), slH2⟩)
    (cH2 : PySem.W.codeIn K cdH2 "_law_by_hand" = true)
    (eH2 : PySem.W.keepIn K (.ref fH2) = true)
    (aZ : PySem.W.nsIn K mainGlobals "law" = some (some (.ref fZ)))
    (lZ : K.lookup fZ = some ⟨ocZ, odZ, .func (PySem.W.fnOf "law" "law" (defArgs s_law) (defBody s_law) (defScope s_law) .none kVZ dcZ pmZ anZ cdZ ctZ), slZ⟩)
    (cZ : PySem.W.codeIn K cdZ "law" = true)
    (eZ : PySem.W.keepIn K (.ref fZ) = true)
    (y_isinstance : PySem.W.nsIn K mainGlobals "isinstance" = some none)
    (y_int : PySem.W.nsIn K mainGlobals "int" = some none)
    (y_bool : PySem.W.nsIn K mainGlobals "bool" = some none)
    (y_str : PySem.W.nsIn K mainGlobals "str" = some none)
    (y_len : PySem.W.nsIn K mainGlobals "len" = some none)
    (y_range : PySem.W.nsIn K mainGlobals "range" = some none)
    (y_tuple : PySem.W.nsIn K mainGlobals "tuple" = some none)
    (y_list : PySem.W.nsIn K mainGlobals "list" = some none)
    (y_any : PySem.W.nsIn K mainGlobals "any" = some none)
    (y_all : PySem.W.nsIn K mainGlobals "all" = some none)
    (y_max : PySem.W.nsIn K mainGlobals "max" = some none)
    (y_sorted : PySem.W.nsIn K mainGlobals "sorted" = some none)
    (y_min : PySem.W.nsIn K mainGlobals "min" = some none)
    (y_ord : PySem.W.nsIn K mainGlobals "ord" = some none)
    (y_ValueError : PySem.W.nsIn K mainGlobals "ValueError" = some none)
    (q_MOST_FIGURES_things : PySem.W.nsIn K mainGlobals "MOST_FIGURES_things" = some (some (.int 400 t_MOST_FIGURES_things)))
    (q_MOST_SIGNS : PySem.W.nsIn K mainGlobals "MOST_SIGNS" = some (some (.int 2000 t_MOST_SIGNS)))
    (q_MOST_PARTS : PySem.W.nsIn K mainGlobals "MOST_PARTS" = some (some (.int 2000 t_MOST_PARTS)))
    (q_MOST_DEEP : PySem.W.nsIn K mainGlobals "MOST_DEEP" = some (some (.int 8 t_MOST_DEEP)))
    (q_LONGEST : PySem.W.nsIn K mainGlobals "LONGEST" = some (some (.int 100000 t_LONGEST)))
    (q_BLANK : PySem.W.nsIn K mainGlobals "BLANK" = some (some (.int 32 t_BLANK)))
    (q_PERCENT : PySem.W.nsIn K mainGlobals "PERCENT" = some (some (.int 37 t_PERCENT)))
    (q_TILDE : PySem.W.nsIn K mainGlobals "TILDE" = some (some (.int 126 t_TILDE)))
    (q_MOST_FIGURES_steps : PySem.W.nsIn K mainGlobals "MOST_FIGURES_steps" = some (some (.int 40 t_MOST_FIGURES_steps)))
    (q_MOST_STEPS : PySem.W.nsIn K mainGlobals "MOST_STEPS" = some (some (.int 12 t_MOST_STEPS)))
    (nSh : PySem.W.nsIn K mainGlobals "SHAPES" = some (some (.ref aSh)))
    (lSh : K.lookup aSh = some ⟨.type "dict", none, .dict esR epR, #[]⟩)
    (qSh : (aSh == sysModules) = false)
    (tSh : PyProof.Rows.KTD.rowsLook datL esR.toList shapesD = true)
    (nMnn : PySem.W.nsIn K mainGlobals "MANNERS" = some (some (.ref aMn)))
    (lMn : K.lookup aMn = some ⟨.type "tuple", dMn, .seq #[.str "held" mn1, .str "walked" mn2] nMn, sMn⟩)
    (nNo : PySem.W.nsIn K mainGlobals "NoThing" = some (some (.ref CNo)))
    (xNo : PySem.W.excIn K CNo bmV "ValueError.__new__" = true) :
    ∃ fd : FuncData, (∀ (s : Shared) (v : Value), BindsTo s fd ⟨[v], []⟩ [("_law_script", v)]) ∧ ∀ base : Heap, K.In base → base.Ns mainGlobals mg → FnOk l.prog w K mg base CX0 9 fa fd ["_law_script"] (spLaw K) := by
  have e := hfa.symm.trans (PySem.W.mg_of X G aZ)
  cases e
  have FkR := fun_mk (st := m_Read_kind) lkR ckR ekR
  have bkR := FkR.binds (ps := ["self"]) fun _ _ _ _ _ _ us hl => match us, hl with | [_], _ => rfl
  have FkM := fun_mk (st := m_Mean_kind) lkM ckM ekM
  have bkM := FkM.binds (ps := ["self"]) fun _ _ _ _ _ _ us hl => match us, hl with | [_], _ => rfl
  have FkC := fun_mk (st := m_Change_kind) lkC ckC ekC
  have bkC := FkC.binds (ps := ["self"]) fun _ _ _ _ _ _ us hl => match us, hl with | [_], _ => rfl
  have Fi := fun_mk (st := m_Lock_init) li ci ei
  have bi := Fi.binds (ps := ["self", "first", "last"]) fun _ _ _ _ _ _ us hl => match us, hl with | [_, _, _], _ => rfl
  have Ft := fun_mk (st := m_Lock_told) lt ct et
  have bt := Ft.binds (ps := ["self"]) fun _ _ _ _ _ _ us hl => match us, hl with | [_], _ => rfl
  have T : TxK K (kmk CR CM CC) := ⟨fun k => match k with | .read => ⟨pgR, hdR, poR, saR⟩ | .mean => ⟨pgM, hdM, poM, saM⟩ | .change => ⟨pgC, hdC, poC, saC⟩, fun k => match k with | .read => nFR | .mean => nFM | .change => nFC, fun k => match k with | .read => nLR | .mean => nLM | .change => nLC⟩
  have mgC : ∀ k, mg (kdN k) = some (.ref (kmk CR CM CC k)) := fun k => match k with | .read => PySem.W.mg_of X G nR | .mean => PySem.W.mg_of X G nM | .change => PySem.W.mg_of X G nC
  have Fri := fun_mk (st := m_Reader_init) lri cri eri
  have bri := Fri.binds (ps := ["self", "text"]) fun _ _ _ _ _ _ us hl => match us, hl with | [_, _], _ => rfl
  have Frp := fun_mk (st := m_Reader_passes) lrp crp erp
  have brp := Frp.binds (ps := ["self", "sign"]) fun _ _ _ _ _ _ us hl => match us, hl with | [_, _], _ => rfl
  have Fra := fun_mk (st := m_Reader_read_any) lra cra era
  have bra := Fra.binds (ps := ["self", "deep"]) fun _ _ _ _ _ _ us hl => match us, hl with | [_, _], _ => rfl
  have Frb := fun_mk (st := m_Reader_read_below) lrb crb erb
  have brb := Frb.binds (ps := ["self"]) fun _ _ _ _ _ _ us hl => match us, hl with | [_], _ => rfl
  have Frn := fun_mk (st := m_Reader_read_number) lrn crn ern
  have brn := Frn.binds (ps := ["self"]) fun _ _ _ _ _ _ us hl => match us, hl with | [_], _ => rfl
  have Frx := fun_mk (st := m_Reader_read_signs) lrx crx erx
  have brx := Frx.binds (ps := ["self", "many"]) fun _ _ _ _ _ _ us hl => match us, hl with | [_, _], _ => rfl
  have FxiY := fun_mk (st := m_CellStep_init) lxiY cxiY exiY
  have bxiY := FxiY.binds (ps := ["self", "where", "cell"]) fun _ _ _ _ _ _ us hl => match us, hl with | [_, _, _], _ => rfl
  have FxhY := fun_mk (st := m_CellStep_house) lxhY cxhY exhY
  have bxhY := FxhY.binds (ps := ["self"]) fun _ _ _ _ _ _ us hl => match us, hl with | [_], _ => rfl
  have FxlA := fun_mk (st := m_TakeStep_lock) lxlA cxlA exlA
  have bxlA := FxlA.binds (ps := ["self"]) fun _ _ _ _ _ _ us hl => match us, hl with | [_], _ => rfl
  have FxsZ := fun_mk (st := m_Step_sure) lxsZ cxsZ exsZ
  have bxsZ := FxsZ.binds (ps := ["self"]) fun _ _ _ _ _ _ us hl => match us, hl with | [_], _ => rfl
  have FxlB := fun_mk (st := m_MeanStep_lock) lxlB cxlB exlB
  have bxlB := FxlB.binds (ps := ["self"]) fun _ _ _ _ _ _ us hl => match us, hl with | [_], _ => rfl
  have FxiD := fun_mk (st := m_SumStep_init) lxiD cxiD exiD
  have bxiD := FxiD.binds (ps := ["self", "where", "low", "high"]) fun _ _ _ _ _ _ us hl => match us, hl with | [_, _, _, _], _ => rfl
  have FxhD := fun_mk (st := m_SumStep_house) lxhD cxhD exhD
  have bxhD := FxhD.binds (ps := ["self"]) fun _ _ _ _ _ _ us hl => match us, hl with | [_], _ => rfl
  have FxlD := fun_mk (st := m_SumStep_lock) lxlD cxlD exlD
  have bxlD := FxlD.binds (ps := ["self"]) fun _ _ _ _ _ _ us hl => match us, hl with | [_], _ => rfl
  have FxlE := fun_mk (st := m_GiveStep_lock) lxlE cxlE exlE
  have bxlE := FxlE.binds (ps := ["self"]) fun _ _ _ _ _ _ us hl => match us, hl with | [_], _ => rfl
  have FxsE := fun_mk (st := m_GiveStep_sure) lxsE cxsE exsE
  have bxsE := FxsE.binds (ps := ["self"]) fun _ _ _ _ _ _ us hl => match us, hl with | [_], _ => rfl
  have FxiF := fun_mk (st := m_AddStep_init) lxiF cxiF exiF
  have bxiF := FxiF.binds (ps := ["self", "where", "cell", "amount"]) fun _ _ _ _ _ _ us hl => match us, hl with | [_, _, _, _], _ => rfl
  have FxlF := fun_mk (st := m_AddStep_lock) lxlF cxlF exlF
  have bxlF := FxlF.binds (ps := ["self"]) fun _ _ _ _ _ _ us hl => match us, hl with | [_], _ => rfl
  have FxiG := fun_mk (st := m_PlusStep_init) lxiG cxiG exiG
  have bxiG := FxiG.binds (ps := ["self", "amount"]) fun _ _ _ _ _ _ us hl => match us, hl with | [_, _], _ => rfl
  have FxhZ := fun_mk (st := m_Step_house) lxhZ cxhZ exhZ
  have bxhZ := FxhZ.binds (ps := ["self"]) fun _ _ _ _ _ _ us hl => match us, hl with | [_], _ => rfl
  have FxlZ := fun_mk (st := m_Step_lock) lxlZ cxlZ exlZ
  have bxlZ := FxlZ.binds (ps := ["self"]) fun _ _ _ _ _ _ us hl => match us, hl with | [_], _ => rfl
  have FxiN := fun_mk (st := m_NeedStep_init) lxiN cxiN exiN
  have bxiN := FxiN.binds (ps := ["self", "amount"]) fun _ _ _ _ _ _ us hl => match us, hl with | [_, _], _ => rfl
  have W : TxW K (wmk WA WB WD WE WF WG WN) := ⟨fun k => match k with | .take => ⟨pgwA, hdwA, powA, sawA⟩ | .mean => ⟨pgwB, hdwB, powB, sawB⟩ | .sum => ⟨pgwD, hdwD, powD, sawD⟩ | .give => ⟨pgwE, hdwE, powE, sawE⟩ | .add => ⟨pgwF, hdwF, powF, sawF⟩ | .plus => ⟨pgwG, hdwG, powG, sawG⟩ | .need => ⟨pgwN, hdwN, powN, sawN⟩, fun k => match k with | .take => nWwA | .mean => nWwB | .sum => nWwD | .give => nWwE | .add => nWwF | .plus => nWwG | .need => nWwN, fun k => match k with | .take => nCwA | .mean => nCwB | .sum => nCwD | .give => nCwE | .add => nCwF | .plus => nCwG | .need => nCwN, fun k => match k with | .take => nLwA | .mean => nLwB | .sum => nLwD | .give => nLwE | .add => nLwF | .plus => nLwG | .need => nLwN, fun k => match k with | .take => nHwA | .mean => nHwB | .sum => nHwD | .give => nHwE | .add => nHwF | .plus => nHwG | .need => nHwN, fun k => match k with | .take => nAwA | .mean => nAwB | .sum => nAwD | .give => nAwE | .add => nAwF | .plus => nAwG | .need => nAwN⟩
  have TN : TxN K mg (wmk WA WB WD WE WF WG WN) := ⟨PySem.W.mg_of X G nwN, fun k => match k with | .take => hawA | .mean => hawB | .sum => hawD | .give => hawE | .add => hawF | .plus => hawG | .need => hawN, hn, htk, fun k => match k with | .take => hmwA | .mean => hmwB | .sum => hmwD | .give => hmwE | .add => hmwF | .plus => hmwG | .need => hmwN, fun k => match k with | .take => iNwA | .mean => iNwB | .sum => iNwD | .give => iNwE | .add => iNwF | .plus => iNwG | .need => iNwN⟩
  have Fpi := fun_mk (st := m_Pact_init) lpi cpi epi
  have bpi := Fpi.binds (ps := ["self", "manner", "steps"]) fun _ _ _ _ _ _ us hl => match us, hl with | [_, _, _], _ => rfl
  have TP : TxP K CP := ⟨⟨pgP, hdP, poP, saP⟩, nPm, nPs, nPp⟩
  have FeT := fun_mk (st := m_NoText_init) leT ceT eeT
  have beT := FeT.binds (ps := ["self", "at"]) fun _ _ _ _ _ _ us hl => match us, hl with | [_, _], _ => rfl
  have cxT : XA.ClsX K CTx := ⟨xcT, xsT, xnT, ⟨xgT, xhT, xkT, hn, htk, xmT, xbT⟩⟩
  have mkTx : XA.MkX K CTx feT := ⟨xjT, jeT, keT, cxT⟩
  have FeA := fun_mk (st := m_NoPlace_init) leA ceA eeA
  have beA := FeA.binds (ps := ["self", "at"]) fun _ _ _ _ _ _ us hl => match us, hl with | [_, _], _ => rfl
  have cxA : XA.ClsX K CAx := ⟨xcA, xsA, xnA, ⟨xgA, xhA, xkA, hn, htk, xmA, xbA⟩⟩
  have mkAx : XA.MkX K CAx feA := ⟨xjA, jeA, keA, cxA⟩
  have FeB := fun_mk (st := m_NoWayBack_init) leB ceB eeB
  have beB := FeB.binds (ps := ["self", "at"]) fun _ _ _ _ _ _ us hl => match us, hl with | [_, _], _ => rfl
  have cxB : XA.ClsX K CBx := ⟨xcB, xsB, xnB, ⟨xgB, xhB, xkB, hn, htk, xmB, xbB⟩⟩
  have mkBx : XA.MkX K CBx feB := ⟨xjB, jeB, keB, cxB⟩
  have FeF := fun_mk (st := m_NoFit_init) leF ceF eeF
  have beF := FeF.binds (ps := ["self", "at"]) fun _ _ _ _ _ _ us hl => match us, hl with | [_, _], _ => rfl
  have cxF : XA.ClsX K CFx := ⟨xcF, xsF, xnF, ⟨xgF, xhF, xkF, hn, htk, xmF, xbF⟩⟩
  have mkFx : XA.MkX K CFx feF := ⟨xjF, jeF, keF, cxF⟩
  have FW1 := fun_mk (st := s_is_whole) lW1 cW1 eW1
  have bW1 := FW1.binds (ps := ["thing"]) fun _ _ _ _ _ _ us hl => match us, hl with | [_], _ => rfl
  have mW1 : mg "is_whole" = some (.ref fW1) := PySem.W.mg_of X G aW1
  have FR1 := fun_mk (st := s_read_thing) lR1 cR1 eR1
  have bR1 := FR1.binds (ps := ["text"]) fun _ _ _ _ _ _ us hl => match us, hl with | [_], _ => rfl
  have mR1 : mg "read_thing" = some (.ref fR1) := PySem.W.mg_of X G aR1
  have FG1 := fun_mk (st := s_is_sign) lG1 cG1 eG1
  have bG1 := FG1.binds (ps := ["sign"]) fun _ _ _ _ _ _ us hl => match us, hl with | [_], _ => rfl
  have mG1 : mg "is_sign" = some (.ref fG1) := PySem.W.mg_of X G aG1
  have FS1 := fun_mk (st := s_read_step) lS1 cS1 eS1
  have bS1 := FS1.binds (ps := ["text"]) fun _ _ _ _ _ _ us hl => match us, hl with | [_], _ => rfl
  have mS1 : mg "read_step" = some (.ref fS1) := PySem.W.mg_of X G aS1
  have FN1 := fun_mk (st := s_read_number) lN1 cN1 eN1
  have bN1 := FN1.binds (ps := ["word", "letter"]) fun _ _ _ _ _ _ us hl => match us, hl with | [_, _], _ => rfl
  have mN1 : mg "read_number" = some (.ref fN1) := PySem.W.mg_of X G aN1
  have FM1 := fun_mk (st := s_made_step) lM1 cM1 eM1
  have bM1 := FM1.binds (ps := ["word", "numbers"]) fun _ _ _ _ _ _ us hl => match us, hl with | [_, _], _ => rfl
  have mM1 : mg "made_step" = some (.ref fM1) := PySem.W.mg_of X G aM1
  have FU1 := fun_mk (st := s_made_sum) lU1 cU1 eU1
  have bU1 := FU1.binds (ps := ["where", "low", "high"]) fun _ _ _ _ _ _ us hl => match us, hl with | [_, _, _], _ => rfl
  have mU1 : mg "made_sum" = some (.ref fU1) := PySem.W.mg_of X G aU1
  have FA3 := fun_mk (st := s_read_part) lA3 cA3 eA3
  have bA3 := FA3.binds (ps := ["text", "number"]) fun _ _ _ _ _ _ us hl => match us, hl with | [_, _], _ => rfl
  have mA3 : mg "read_part" = some (.ref fA3) := PySem.W.mg_of X G aA3
  have FB3 := fun_mk (st := s_read_pact) lB3 cB3 eB3
  have bB3 := FB3.binds (ps := ["text"]) fun _ _ _ _ _ _ us hl => match us, hl with | [_], _ => rfl
  have mB3 : mg "read_pact" = some (.ref fB3) := PySem.W.mg_of X G aB3
  have FD3 := fun_mk (st := s_turning) lD3 cD3 eD3
  have bD3 := FD3.binds (ps := ["pact"]) fun _ _ _ _ _ _ us hl => match us, hl with | [_], _ => rfl
  have mD3 : mg "turning" = some (.ref fD3) := PySem.W.mg_of X G aD3
  have FL3 := fun_mk (st := s_look) lL3 cL3 eL3
  have bL3 := FL3.binds (ps := ["pact", "sizes"]) fun _ _ _ _ _ _ us hl => match us, hl with | [_, _], _ => rfl
  have mL3 : mg "look" = some (.ref fL3) := PySem.W.mg_of X G aL3
  have FI3 := fun_mk (st := s_is_there) lI3 cI3 eI3
  have bI3 := FI3.binds (ps := ["step", "sizes"]) fun _ _ _ _ _ _ us hl => match us, hl with | [_, _], _ => rfl
  have mI3 : mg "is_there" = some (.ref fI3) := PySem.W.mg_of X G aI3
  have FK3 := fun_mk (st := s_look_behind) lK3 cK3 eK3
  have bK3 := FK3.binds (ps := ["pact"]) fun _ _ _ _ _ _ us hl => match us, hl with | [_], _ => rfl
  have mK3 : mg "look_behind" = some (.ref fK3) := PySem.W.mg_of X G aK3
  have FA2 := fun_mk (st := s__law_cell) lA2 cA2 eA2
  have bA2 := FA2.binds (ps := ["_law_script", "_law_k"]) fun _ _ _ _ _ _ us hl => match us, hl with | [_, _], _ => rfl
  have mA2 : mg "_law_cell" = some (.ref fA2) := PySem.W.mg_of X G aA2
  have FW2 := fun_mk (st := s__law_whole) lW2 cW2 eW2
  have bW2 := FW2.binds (ps := ["_law_found_here"]) fun _ _ _ _ _ _ us hl => match us, hl with | [_], _ => rfl
  have mW2 : mg "_law_whole" = some (.ref fW2) := PySem.W.mg_of X G aW2
  have FX2 := fun_mk (st := s__law_mixed) lX2 cX2 eX2
  have bX2 := FX2.binds (ps := ["_law_cell_here", "_law_k"]) fun _ _ _ _ _ _ us hl => match us, hl with | [_, _], _ => rfl
  have mX2 : mg "_law_mixed" = some (.ref fX2) := PySem.W.mg_of X G aX2
  have FP2 := fun_mk (st := s__law_place) lP2 cP2 eP2
  have bP2 := FP2.binds (ps := ["_law_number", "_law_size"]) fun _ _ _ _ _ _ us hl => match us, hl with | [_, _], _ => rfl
  have mP2 : mg "_law_place" = some (.ref fP2) := PySem.W.mg_of X G aP2
  have FS2 := fun_mk (st := s__law_step) lS2 cS2 eS2
  have bS2 := FS2.binds (ps := ["_law_cell_here", "_law_sizes"]) fun _ _ _ _ _ _ us hl => match us, hl with | [_, _], _ => rfl
  have mS2 : mg "_law_step" = some (.ref fS2) := PySem.W.mg_of X G aS2
  have FT2 := fun_mk (st := s__law_is_there) lT2 cT2 eT2
  have bT2 := FT2.binds (ps := ["_law_step_here", "_law_sizes"]) fun _ _ _ _ _ _ us hl => match us, hl with | [_, _], _ => rfl
  have mT2 : mg "_law_is_there" = some (.ref fT2) := PySem.W.mg_of X G aT2
  have FD2 := fun_mk (st := s__law_due) lD2 cD2 eD2
  have bD2 := FD2.binds (ps := ["_law_manner", "_law_steps", "_law_sizes"]) fun _ _ _ _ _ _ us hl => match us, hl with | [_, _, _], _ => rfl
  have mD2 : mg "_law_due" = some (.ref fD2) := PySem.W.mg_of X G aD2
  have FF2 := fun_mk (st := s__law_found) lF2 cF2 eF2
  have bF2 := FF2.binds (ps := ["_law_pact", "_law_sizes"]) fun _ _ _ _ _ _ us hl => match us, hl with | [_, _], _ => rfl
  have mF2 : mg "_law_found" = some (.ref fF2) := PySem.W.mg_of X G aF2
  have FY2 := fun_mk (st := s__law_any) lY2 cY2 eY2
  have bY2 := FY2.binds (ps := ["_law_pact", "_law_sizes"]) fun _ _ _ _ _ _ us hl => match us, hl with | [_, _], _ => rfl
  have mY2 : mg "_law_any" = some (.ref fY2) := PySem.W.mg_of X G aY2
  have FH2 := fun_mk (st := s__law_by_hand) lH2 cH2 eH2
  have bH2 := FH2.binds (ps := ["_law_number"]) fun _ _ _ _ _ _ us hl => match us, hl with | [_], _ => rfl
  have mH2 : mg "_law_by_hand" = some (.ref fH2) := PySem.W.mg_of X G aH2
  have FZ := fun_mk (st := s_law) lZ cZ eZ
  have B : TxB mg := ⟨PySem.W.mg_none_of X G y_isinstance, PySem.W.mg_none_of X G y_int, PySem.W.mg_none_of X G y_bool, PySem.W.mg_none_of X G y_str, PySem.W.mg_none_of X G y_len, PySem.W.mg_none_of X G y_range, PySem.W.mg_none_of X G y_tuple, PySem.W.mg_none_of X G y_list, PySem.W.mg_none_of X G y_any, PySem.W.mg_none_of X G y_all, PySem.W.mg_none_of X G y_max, PySem.W.mg_none_of X G y_sorted⟩
  have TT : K26T.Tx K mg CRd := ⟨⟨pgrd, hdrd, pord, sard⟩, nTx, nPl, PySem.W.mg_of X G nrd, PySem.W.mg_none_of X G y_isinstance, PySem.W.mg_none_of X G y_int, PySem.W.mg_none_of X G y_bool, PySem.W.mg_none_of X G y_str, PySem.W.mg_none_of X G y_len, PySem.W.mg_none_of X G y_ord, PySem.W.mg_none_of X G y_all, PySem.W.mg_none_of X G y_range, ⟨_, PySem.W.mg_of X G q_MOST_FIGURES_things⟩, ⟨_, PySem.W.mg_of X G q_MOST_SIGNS⟩, ⟨_, PySem.W.mg_of X G q_MOST_DEEP⟩, ⟨_, PySem.W.mg_of X G q_LONGEST⟩, ⟨_, PySem.W.mg_of X G q_BLANK⟩, ⟨_, PySem.W.mg_of X G q_PERCENT⟩, ⟨_, PySem.W.mg_of X G q_TILDE⟩⟩
  have tM : ∀ H, SqT K H aMn [.str "held", .str "walked"] := fun H => .inr ⟨_, _, _, lMn, rfl, rfl, (by show 2 ≤ sizeLine; decide), .cons ⟨mn1, rfl⟩ (.cons ⟨mn2, rfl⟩ .nil)⟩
  have YE : TxE K mg CAx CBx CTx CE feA feB := ⟨PySem.W.mg_of X G neA, PySem.W.mg_of X G neB, PySem.W.mg_of X G neT, PySem.W.mg_of X G nE, PySem.W.mg_none_of X G y_ValueError, mkAx, mkBx, xE, maa, mba, mbb, mae, mbe, kab, kbt, kav, kbv⟩
  refine ⟨PySem.W.fnOf "law" "law" (defArgs s_law) (defBody s_law) (defScope s_law) .none kVZ dcZ pmZ anZ cdZ ctZ, fun s v => .of_eq rfl, fun base _ _ => ?_⟩
  have GK : ∀ k, GM l.prog w K mg base CX0 1 (kmk CR CM CC k) "kind" ["self"] (spKind k) := fun k => match k with | .read => ⟨fkR, _, ok_rk FkR, bkR, ⟨akR, jkR, ekR⟩⟩ | .mean => ⟨fkM, _, ok_mk FkM, bkM, ⟨akM, jkM, ekM⟩⟩ | .change => ⟨fkC, _, ok_ck FkC, bkC, ⟨akC, jkC, ekC⟩⟩
  have Mk : ∀ k, Mk K (kmk CR CM CC k) fi := fun k => match k with | .read => ⟨mkR, aiR, ji, kcR⟩ | .mean => ⟨mkM, aiM, ji, kcM⟩ | .change => ⟨mkC, aiC, ji, kcC⟩
  have Gt : ∀ k, GM l.prog w K mg base CX0 2 (kmk CR CM CC k) "told" ["self"] (spTold (kmk CR CM CC)) := fun k => match k with | .read => ⟨ft, _, ok_told Ft T GK, bt, ⟨atR, jt, et⟩⟩ | .mean => ⟨ft, _, ok_told Ft T GK, bt, ⟨atM, jt, et⟩⟩ | .change => ⟨ft, _, ok_told Ft T GK, bt, ⟨atC, jt, et⟩⟩
  have GI := ok_linit (P := l.prog) (w := w) (mg := mg) (base := base) Fi T
  have GCI := ok_cinit (P := l.prog) (w := w) (mg := mg) (base := base) FxiY W
  have WI : ∀ wd, WI l.prog w K mg base (wmk WA WB WD WE WF WG WN) wd := fun wd => match wd with | .take => ⟨fxiY, _, _, ⟨mkwA, uxiYA, jxiY, kcwA⟩, (GCI.imp fun _ _ _ _ z => cinit_w rfl z).mono (by decide), bxiY, PySem.W.mg_of X G nwA⟩ | .mean => ⟨fxiY, _, _, ⟨mkwB, uxiYB, jxiY, kcwB⟩, (GCI.imp fun _ _ _ _ z => cinit_w rfl z).mono (by decide), bxiY, PySem.W.mg_of X G nwB⟩ | .sum => ⟨fxiD, _, _, ⟨mkwD, uxiDD, jxiD, kcwD⟩, (ok_sinit FxiD W).mono (by decide), bxiD, PySem.W.mg_of X G nwD⟩ | .give => ⟨fxiY, _, _, ⟨mkwE, uxiYE, jxiY, kcwE⟩, (GCI.imp fun _ _ _ _ z => cinit_w rfl z).mono (by decide), bxiY, PySem.W.mg_of X G nwE⟩ | .add => ⟨fxiF, _, _, ⟨mkwF, uxiFF, jxiF, kcwF⟩, ok_ainit FxiF W (PySem.W.mg_of X G nCY) ⟨gaY, rdY, fcY, hiY, exiY⟩ GCI bxiY, bxiF, PySem.W.mg_of X G nwF⟩ | .plus => ⟨fxiG, _, _, ⟨mkwG, uxiGG, jxiG, kcwG⟩, (ok_pinit FxiG W).mono (by decide), bxiG, PySem.W.mg_of X G nwG⟩ | .need => ⟨fxiN, _, _, ⟨mkwN, uxiNN, jxiN, kcwN⟩, (ok_ninit FxiN W).mono (by decide), bxiN, PySem.W.mg_of X G nwN⟩ 
  have giT := ok_xinit (P := l.prog) (w := w) (mg := mg) (base := base) (C := CTx) FeT sc_NoText_init rfl rfl cxT
  have erT : Er l.prog w K mg base "NoText" CTx CE := ⟨feT, _, mkTx, giT, beT, PySem.W.mg_of X G neT, xeT⟩
  have giA := ok_xinit (P := l.prog) (w := w) (mg := mg) (base := base) (C := CAx) FeA sc_NoPlace_init rfl rfl cxA
  have erA : Er l.prog w K mg base "NoPlace" CAx CE := ⟨feA, _, mkAx, giA, beA, PySem.W.mg_of X G neA, xeA⟩
  have giB := ok_xinit (P := l.prog) (w := w) (mg := mg) (base := base) (C := CBx) FeB sc_NoWayBack_init rfl rfl cxB
  have erB : Er l.prog w K mg base "NoWayBack" CBx CE := ⟨feB, _, mkBx, giB, beB, PySem.W.mg_of X G neB, xeB⟩
  have giF := ok_xinit (P := l.prog) (w := w) (mg := mg) (base := base) (C := CFx) FeF sc_NoFit_init rfl rfl cxF
  have erF : Er l.prog w K mg base "NoFit" CFx CE := ⟨feF, _, mkFx, giF, beF, PySem.W.mg_of X G neF, xeF⟩
  have Hi := K26T.ok_init (P := l.prog) (w := w) (mg := mg) (base := base) Fri TT
  have Hp := K26T.ok_pass (P := l.prog) (w := w) (mg := mg) (base := base) Frp TT
  have Hn := K26T.ok_num (P := l.prog) (w := w) (mg := mg) (base := base) Frn TT
  have Hx := K26T.ok_signs (P := l.prog) (w := w) (mg := mg) (base := base) Frx TT
  have Mrn : Meth K CRd "read_number" frn := ⟨arn, jrn, ern⟩
  have Mrp : Meth K CRd "passes" frp := ⟨arp, jrp, erp⟩
  have Mrb : Meth K CRd "read_below" frb := ⟨arb, jrb, erb⟩
  have Mrx : Meth K CRd "read_signs" frx := ⟨arx, jrx, erx⟩
  have Mra : Meth K CRd "read_any" fra := ⟨ara, jra, era⟩
  have Hb := K26T.ok_below Frb TT Hn brn Mrn
  have Ha := K26T.ok_any Fra TT Hp brp Mrp Hb brb Mrb Hn brn Mrn Hx brx Mrx
  have HG := K26T.ok_sign (P := l.prog) (w := w) (mg := mg) (base := base) FG1 TT
  have HW := K26T.ok_whole (P := l.prog) (w := w) (mg := mg) (base := base) FW1 TT
  have GW1 : GF l.prog w K mg base CX0 1 "is_whole" ["thing"] K26T.spWhole := ⟨fW1, _, HW, bW1, eW1, mW1⟩
  have GR1 : GF l.prog w K mg base CX0 4 "read_thing" ["text"] K26T.spRead := ⟨fR1, _, K26T.ok_read FR1 TT ⟨mkrd, ari, jri, kcrd⟩ HG bG1 eG1 mG1 Hi bri Ha bra Mra, bR1, eR1, mR1⟩
  have GU1 : GF l.prog w K mg base CX0 4 "made_sum" ["where", "low", "high"] (spMSum (wmk WA WB WD WE WF WG WN)) := ⟨fU1, _, ok_msum FU1 (WI .sum), bU1, eU1, mU1⟩
  have GM1 : GF l.prog w K mg base CX0 5 "made_step" ["word", "numbers"] (spMade (wmk WA WB WD WE WF WG WN)) := ⟨fM1, _, ok_mstep FM1 WI GU1, bM1, eM1, mM1⟩
  have GN1 : GF l.prog w K mg base CX0 5 "read_number" ["word", "letter"] spRNum := ⟨fN1, _, ok_rnum FN1 B (PySem.W.mg_of X G nNo) xNo (by decide +kernel) ⟨_, PySem.W.mg_of X G q_MOST_FIGURES_steps⟩ GR1 GW1, bN1, eN1, mN1⟩
  have GS1 : GF l.prog w K mg base CX0 6 "read_step" ["text"] (spRStep (wmk WA WB WD WE WF WG WN)) := ⟨fS1, _, ok_rstep FS1 B (PySem.W.mg_of X G nSh) (tab_mk lSh qSh tSh) GN1 GM1, bS1, eS1, mS1⟩
  have GA2 : GF l.prog w K mg base CX0 1 "_law_cell" ["_law_script", "_law_k"] (spCell K) := ⟨fA2, _, ok_lcell FA2 B, bA2, eA2, mA2⟩
  have GW2 : GF l.prog w K mg base CX0 1 "_law_whole" ["_law_found_here"] Lo.spWhole := ⟨fW2, _, ok_whole FW2 B, bW2, eW2, mW2⟩
  have GWH : XA.GH l.prog w K mg base 1 "_law_whole" ["_law_found_here"] Lo.spWhole := ⟨fW2, _, ok_wholeH FW2 B, bW2, mW2, eW2⟩
  have GX2 : GF l.prog w K mg base CX0 1 "_law_mixed" ["_law_cell_here", "_law_k"] spMixed := ⟨fX2, _, ok_mixed FX2, bX2, eX2, mX2⟩
  have GP2 : GF l.prog w K mg base CX0 1 "_law_place" ["_law_number", "_law_size"] spPlace := ⟨fP2, _, ok_place FP2, bP2, eP2, mP2⟩
  have GS2 : GF l.prog w K mg base CX0 2 "_law_step" ["_law_cell_here", "_law_sizes"] spLSt2 := ⟨fS2, _, ok_lst2 FS2 B (PySem.W.mg_none_of X G y_min) GX2 GP2, bS2, eS2, mS2⟩
  have GT2 : GF l.prog w K mg base CX0 1 "_law_is_there" ["_law_step_here", "_law_sizes"] spLThere := ⟨fT2, _, ok_lthere FT2 B, bT2, eT2, mT2⟩
  have GD2 : GF l.prog w K mg base CX0 2 "_law_due" ["_law_manner", "_law_steps", "_law_sizes"] spLDue := ⟨fD2, _, ok_ldue FD2 B GT2, bD2, eD2, mD2⟩
  have Gh : ∀ wd, GM l.prog w K mg base CX0 1 ((wmk WA WB WD WE WF WG WN) wd) "house" ["self"] (spHouse (wmk WA WB WD WE WF WG WN) wd) := fun wd => match wd with | .take => ⟨fxhY, _, ok_hcell (.inl rfl) FxhY W, bxhY, ⟨uxhYA, jxhY, exhY⟩⟩ | .mean => ⟨fxhY, _, ok_hcell (.inl rfl) FxhY W, bxhY, ⟨uxhYB, jxhY, exhY⟩⟩ | .sum => ⟨fxhD, _, ok_hsum FxhD W, bxhD, ⟨uxhDD, jxhD, exhD⟩⟩ | .give => ⟨fxhY, _, ok_hcell (.inl rfl) FxhY W, bxhY, ⟨uxhYE, jxhY, exhY⟩⟩ | .add => ⟨fxhY, _, ok_hcell (.inr rfl) FxhY W, bxhY, ⟨uxhYF, jxhY, exhY⟩⟩ | .plus => ⟨fxhZ, _, ok_hnone (.inl rfl) FxhZ, bxhZ, ⟨uxhZG, jxhZ, exhZ⟩⟩ | .need => ⟨fxhZ, _, ok_hnone (.inr rfl) FxhZ, bxhZ, ⟨uxhZN, jxhZ, exhZ⟩⟩ 
  have Gl : ∀ wd, GM l.prog w K mg base CX0 3 ((wmk WA WB WD WE WF WG WN) wd) "lock" ["self"] (spSLock (wmk WA WB WD WE WF WG WN) K wd) := fun wd => match wd with | .take => ⟨fxlA, _, ok_ltake FxlA W T mgC Mk GI bi Gt, bxlA, ⟨uxlAA, jxlA, exlA⟩⟩ | .mean => ⟨fxlB, _, ok_lmean FxlB W T mgC Mk GI bi Gt, bxlB, ⟨uxlBB, jxlB, exlB⟩⟩ | .sum => ⟨fxlD, _, ok_lsum FxlD W T mgC Mk GI bi Gt, bxlD, ⟨uxlDD, jxlD, exlD⟩⟩ | .give => ⟨fxlE, _, ok_lgive FxlE W T mgC Mk GI bi Gt, bxlE, ⟨uxlEE, jxlE, exlE⟩⟩ | .add => ⟨fxlF, _, ok_ladd FxlF W T mgC Mk GI bi Gt, bxlF, ⟨uxlFF, jxlF, exlF⟩⟩ | .plus => ⟨fxlZ, _, (ok_lnone (.inl rfl) FxlZ).mono (by decide), bxlZ, ⟨uxlZG, jxlZ, exlZ⟩⟩ | .need => ⟨fxlZ, _, (ok_lnone (.inr rfl) FxlZ).mono (by decide), bxlZ, ⟨uxlZN, jxlZ, exlZ⟩⟩ 
  have Gs : ∀ wd, GM l.prog w K mg base CX0 1 ((wmk WA WB WD WE WF WG WN) wd) "sure" ["self"] (spSure wd) := fun wd => match wd with | .take => ⟨fxsZ, _, ok_snone (by decide) FxsZ, bxsZ, ⟨uxsZA, jxsZ, exsZ⟩⟩ | .mean => ⟨fxsZ, _, ok_snone (by decide) FxsZ, bxsZ, ⟨uxsZB, jxsZ, exsZ⟩⟩ | .sum => ⟨fxsZ, _, ok_snone (by decide) FxsZ, bxsZ, ⟨uxsZD, jxsZ, exsZ⟩⟩ | .give => ⟨fxsE, _, ok_sgive FxsE, bxsE, ⟨uxsEE, jxsE, exsE⟩⟩ | .add => ⟨fxsZ, _, ok_snone (by decide) FxsZ, bxsZ, ⟨uxsZF, jxsZ, exsZ⟩⟩ | .plus => ⟨fxsZ, _, ok_snone (by decide) FxsZ, bxsZ, ⟨uxsZG, jxsZ, exsZ⟩⟩ | .need => ⟨fxsZ, _, ok_snone (by decide) FxsZ, bxsZ, ⟨uxsZN, jxsZ, exsZ⟩⟩ 
  have GPI := ok_painit (P := l.prog) (w := w) (mg := mg) (base := base) Fpi B TP
  have GA3 : GF l.prog w K mg base CX0 7 "read_part" ["text", "number"] (spRPart (wmk WA WB WD WE WF WG WN)) := ⟨fA3, _, ok_rpart FA3 GS1, bA3, eA3, mA3⟩
  have GB3 : GF l.prog w K mg base CX0 8 "read_pact" ["text"] (spRPact CP (wmk WA WB WD WE WF WG WN)) := ⟨fB3, _, ok_rpact FB3 B (PySem.W.mg_of X G nMnn) tM ⟨_, PySem.W.mg_of X G q_MOST_STEPS⟩ ⟨mkP, api, jpi, kcP⟩ (PySem.W.mg_of X G nP) GPI bpi GA3, bB3, eB3, mB3⟩
  have GD3 : GF l.prog w K mg base CX0 2 "turning" ["pact"] (spTurn CP (wmk WA WB WD WE WF WG WN)) := ⟨fD3, _, ok_turning FD3 B TP W Gs, bD3, eD3, mD3⟩
  have GI3 : GF l.prog w K mg base CX0 4 "is_there" ["step", "sizes"] (spThere (wmk WA WB WD WE WF WG WN)) := ⟨fI3, _, ok_there FI3 B W Gh Gl, bI3, eI3, mI3⟩
  have GK3 : GF l.prog w K mg base (XA.CXA l.prog w) 3 "look_behind" ["pact"] (spLkB CP (wmk WA WB WD WE WF WG WN) CBx) := ⟨fK3, _, ok_lkb FK3 B TP W TN GD3 mkBx giB beB (PySem.W.mg_of X G neB), bK3, eK3, mK3⟩
  have GL3 : GF l.prog w K mg base (XA.CXA l.prog w) 5 "look" ["pact", "sizes"] (spLook CP (wmk WA WB WD WE WF WG WN) CAx CBx) := ⟨fL3, _, ok_look FL3 B TP GI3 GK3 mkAx giA beA (PySem.W.mg_of X G neA), bL3, eL3, mL3⟩
  have GF2 : GF l.prog w K mg base CX0 6 "_law_found" ["_law_pact", "_law_sizes"] (spFound CP (wmk WA WB WD WE WF WG WN)) := ⟨fF2, _, ok_found FF2 B YE GWH GL3, bF2, eF2, mF2⟩
  have GY2 : GF l.prog w K mg base CX0 6 "_law_any" ["_law_pact", "_law_sizes"] (spAny CP (wmk WA WB WD WE WF WG WN)) := ⟨fY2, _, ok_lany FY2 B YE GL3, bY2, eY2, mY2⟩
  have GH2 : GF l.prog w K mg base CX0 3 "_law_by_hand" ["_law_number"] spHand := ⟨fH2, _, ok_hand FH2 B (PySem.W.mg_of X G nE) erT erA erB erF GW2, bH2, eH2, mH2⟩
  exact ok_law FZ B GA2 GH2 GS2 GB3 GD2 GF2 GY2
theorem walk {l : PySem.W.OpenLaw} {q : Program} {loose : List Str} {XP : (Str → Option Value) → Heap → Prop} {YP : World → Heap → Prop} {d : DefRec} {K : Params → PySem.W.Frag} (hn : l.most = some 63) (hdf : d.params.defaults = [])
    (hY : ∀ (w : World) (h : Heap), YP w h → (K w.params).In h)
    (F : ∀ (w : World) (mg : Str → Option Value) (fa : Addr) (h : Heap), (K w.params).In h → h.Ns mainGlobals mg → mg d.name = some (.ref fa) →
      ∃ fd : FuncData, (∀ (s : Shared) (u : Value), BindsTo s fd ⟨[u], []⟩ [("_law_script", u)]) ∧ ∀ base : Heap, (K w.params).In base → base.Ns mainGlobals mg → FnOk l.prog w (K w.params) mg base CX0 9 fa fd ["_law_script"] (spLaw (K w.params))) :
    PySem.W.WalkO q loose XP YP l.row.toRowW d [] (fun f vs => PySem.call f vs) :=
  L2.walk_of (n := 63) (k := 9) (x := "_law_script") (CX := fun _ => CX0) (sp := fun w => spLaw (K w.params)) hn (by decide) hdf ⟨rfl, by decide, by decide⟩ hY F (fun _ _ a ns hl _ hS => ⟨a, ns, rfl, hS, hl, fun _ => rfl⟩) fun _ _ _ _ _ z => z
end K26
open PySem PySem.W PyProof.Rows
set_option maxRecDepth 100000 in
set_option maxHeartbeats 0 in
theorem PySem.Challenge.cw_pactroom_k26_looked_at_holds : PySem.Challenge.rw_pactroom_k26_looked_at.Holds := by
  w_on; o_law
  refine holds_open (q := Q.qv) (loose := Q.lo) (Xt := Q.Xt) (XP := XL Q.qv Q.lvv) (Yf := Hook.obs (kHook Q.Kf Q.Ka Q.ke)) (Ya := Hook.val (kHook Q.Kf Q.Ka Q.ke)) (YP := Hook.says (kHook Q.Kf Q.Ka Q.ke)) (N := 14496) Q.left (Hook.of (kHook Q.Kf Q.Ka Q.ke)) (Hook.keeps (kHook Q.Kf Q.Ka Q.ke)) (fun s e => xl_of s (Bool.and_eq_true_iff.mp e).1) XL.keeps (by rfl) (by rfl) (by rfl) (fun s e => recFacts_of (Bool.and_eq_true_iff.mp e).2) (by rfl) (by first | assumption | decide +kernel) (by decide +kernel) ⟨rfl, rfl, rfl, rfl, rfl, by decide +kernel⟩ ?hw ?hc
  (case hw => w_witness2)
  k_fill
  refine K26.walk (l := PySem.Challenge.rw_pactroom_k26_looked_at) rfl rfl (fun w h Y => PySem.W.kIn_of Y) ?F
  case F =>
    intro w mg fa h KX G hmg
    refine' K26.all_mk KX G hmg ?nR ?pgR ?hdR ?poR ?saR ?mkR ?kcR ?nFR ?nLR ?akR ?jkR ?lkR ?ckR ?ekR ?nM ?pgM ?hdM ?poM ?saM ?mkM ?kcM ?nFM ?nLM ?akM ?jkM ?lkM ?ckM ?ekM ?nC ?pgC ?hdC ?poC ?saC ?mkC ?kcC ?nFC ?nLC ?akC ?jkC ?lkC ?ckC ?ekC ?aiR ?aiM ?aiC ?ji ?li ?ci ?ei ?atR ?atM ?atC ?jt ?lt ?ct ?et ?nrd ?pgrd ?hdrd ?pord ?sard ?mkrd ?kcrd ?nTx ?nPl ?ari ?jri ?lri ?cri ?eri ?arp ?jrp ?lrp ?crp ?erp ?ara ?jra ?lra ?cra ?era ?arb ?jrb ?lrb ?crb ?erb ?arn ?jrn ?lrn ?crn ?ern ?arx ?jrx ?lrx ?crx ?erx ?nwA ?pgwA ?hdwA ?powA ?sawA ?mkwA ?kcwA ?nWwA ?nCwA ?nLwA ?nHwA ?nAwA ?uxiYA ?jxiY ?lxiY ?cxiY ?exiY ?uxhYA ?jxhY ?lxhY ?cxhY ?exhY ?uxlAA ?jxlA ?lxlA ?cxlA ?exlA ?uxsZA ?jxsZ ?lxsZ ?cxsZ ?exsZ ?nwB ?pgwB ?hdwB ?powB ?sawB ?mkwB ?kcwB ?nWwB ?nCwB ?nLwB ?nHwB ?nAwB ?uxiYB ?uxhYB ?uxlBB ?jxlB ?lxlB ?cxlB ?exlB ?uxsZB ?nwD ?pgwD ?hdwD ?powD ?sawD ?mkwD ?kcwD ?nWwD ?nCwD ?nLwD ?nHwD ?nAwD ?uxiDD ?jxiD ?lxiD ?cxiD ?exiD ?uxhDD ?jxhD ?lxhD ?cxhD ?exhD ?uxlDD ?jxlD ?lxlD ?cxlD ?exlD ?uxsZD ?nwE ?pgwE ?hdwE ?powE ?sawE ?mkwE ?kcwE ?nWwE ?nCwE ?nLwE ?nHwE ?nAwE ?uxiYE ?uxhYE ?uxlEE ?jxlE ?lxlE ?cxlE ?exlE ?uxsEE ?jxsE ?lxsE ?cxsE ?exsE ?nwF ?pgwF ?hdwF ?powF ?sawF ?mkwF ?kcwF ?nWwF ?nCwF ?nLwF ?nHwF ?nAwF ?uxiFF ?jxiF ?lxiF ?cxiF ?exiF ?uxhYF ?uxlFF ?jxlF ?lxlF ?cxlF ?exlF ?uxsZF ?nwG ?pgwG ?hdwG ?powG ?sawG ?mkwG ?kcwG ?nWwG ?nCwG ?nLwG ?nHwG ?nAwG ?uxiGG ?jxiG ?lxiG ?cxiG ?exiG ?uxhZG ?jxhZ ?lxhZ ?cxhZ ?exhZ ?uxlZG ?jxlZ ?lxlZ ?cxlZ ?exlZ ?uxsZG ?nwN ?pgwN ?hdwN ?powN ?sawN ?mkwN ?kcwN ?nWwN ?nCwN ?nLwN ?nHwN ?nAwN ?uxiNN ?jxiN ?lxiN ?cxiN ?exiN ?uxhZN ?uxlZN ?uxsZN ?nCY ?gaY ?rdY ?fcY ?hiY ?hawA ?hmwA ?iNwA ?hawB ?hmwB ?iNwB ?hawD ?hmwD ?iNwD ?hawE ?hmwE ?iNwE ?hawF ?hmwF ?iNwF ?hawG ?hmwG ?iNwG ?hawN ?hmwN ?iNwN ?hn ?htk ?nP ?pgP ?hdP ?poP ?saP ?mkP ?kcP ?nPm ?nPs ?nPp ?api ?jpi ?lpi ?cpi ?epi ?nE ?xE ?neT ?keT ?aeT ?jeT ?leT ?ceT ?eeT ?xjT ?xcT ?xsT ?xnT ?xgT ?xhT ?xkT ?xmT ?xbT ?xeT ?neA ?keA ?aeA ?jeA ?leA ?ceA ?eeA ?xjA ?xcA ?xsA ?xnA ?xgA ?xhA ?xkA ?xmA ?xbA ?xeA ?neB ?keB ?aeB ?jeB ?leB ?ceB ?eeB ?xjB ?xcB ?xsB ?xnB ?xgB ?xhB ?xkB ?xmB ?xbB ?xeB ?neF ?keF ?aeF ?jeF ?leF ?ceF ?eeF ?xjF ?xcF ?xsF ?xnF ?xgF ?xhF ?xkF ?xmF ?xbF ?xeF ?maa ?mba ?mbb ?mae ?mbe ?kab ?kbt ?kav ?kbv ?aW1 ?lW1 ?cW1 ?eW1 ?aR1 ?lR1 ?cR1 ?eR1 ?aG1 ?lG1 ?cG1 ?eG1 ?aS1 ?lS1 ?cS1 ?eS1 ?aN1 ?lN1 ?cN1 ?eN1 ?aM1 ?lM1 ?cM1 ?eM1 ?aU1 ?lU1 ?cU1 ?eU1 ?aA3 ?lA3 ?cA3 ?eA3 ?aB3 ?lB3 ?cB3 ?eB3 ?aD3 ?lD3 ?cD3 ?eD3 ?aL3 ?lL3 ?cL3 ?eL3 ?aI3 ?lI3 ?cI3 ?eI3 ?aK3 ?lK3 ?cK3 ?eK3 ?aA2 ?lA2 ?cA2 ?eA2 ?aW2 ?lW2 ?cW2 ?eW2 ?aX2 ?lX2 ?cX2 ?eX2 ?aP2 ?lP2 ?cP2 ?eP2 ?aS2 ?lS2 ?cS2 ?eS2 ?aT2 ?lT2 ?cT2 ?eT2 ?aD2 ?lD2 ?cD2 ?eD2 ?aF2 ?lF2 ?cF2 ?eF2 ?aY2 ?lY2 ?cY2 ?eY2 ?aH2 ?lH2 ?cH2 ?eH2 ?aZ ?lZ ?cZ ?eZ ?y_isinstance ?y_int ?y_bool ?y_str ?y_len ?y_range ?y_tuple ?y_list ?y_any ?y_all ?y_max ?y_sorted ?y_min ?y_ord ?y_ValueError ?q_MOST_FIGURES_things ?q_MOST_SIGNS ?q_MOST_PARTS ?q_MOST_DEEP ?q_LONGEST ?q_BLANK ?q_PERCENT ?q_TILDE ?q_MOST_FIGURES_steps ?q_MOST_STEPS ?nSh ?lSh ?qSh ?tSh ?nMnn ?lMn ?nNo ?xNo
    (case nR => k_is)
    (case pgR => k_is)
    (case hdR => k_is)
    (case poR => k_is)
    (case saR => k_is)
    (case mkR => k_is)
    (case kcR => k_is)
    (case nFR => k_is)
    (case nLR => k_is)
    (case akR => k_is)
    (case jkR => k_is)
    (case lkR => k_is)
    (case ckR => k_is)
    (case ekR => k_is)
    (case nM => k_is)
    (case pgM => k_is)
    (case hdM => k_is)
    (case poM => k_is)
    (case saM => k_is)
    (case mkM => k_is)
    (case kcM => k_is)
    (case nFM => k_is)
    (case nLM => k_is)
    (case akM => k_is)
    (case jkM => k_is)
    (case lkM => k_is)
    (case ckM => k_is)
    (case ekM => k_is)
    (case nC => k_is)
    (case pgC => k_is)
    (case hdC => k_is)
    (case poC => k_is)
    (case saC => k_is)
    (case mkC => k_is)
    (case kcC => k_is)
    (case nFC => k_is)
    (case nLC => k_is)
    (case akC => k_is)
    (case jkC => k_is)
    (case lkC => k_is)
    (case ckC => k_is)
    (case ekC => k_is)
    (case aiR => k_is)
    (case aiM => k_is)
    (case aiC => k_is)
    (case ji => k_is)
    (case li => k_is)
    (case ci => k_is)
    (case ei => k_is)
    (case atR => k_is)
    (case atM => k_is)
    (case atC => k_is)
    (case jt => k_is)
    (case lt => k_is)
    (case ct => k_is)
    (case et => k_is)
    (case nrd => k_is)
    (case pgrd => k_is)
    (case hdrd => k_is)
    (case pord => k_is)
    (case sard => k_is)
    (case mkrd => k_is)
    (case kcrd => k_is)
    (case nTx => k_is)
    (case nPl => k_is)
    (case ari => k_is)
    (case jri => k_is)
    (case lri => k_is)
    (case cri => k_is)
    (case eri => k_is)
    (case arp => k_is)
    (case jrp => k_is)
    (case lrp => k_is)
    (case crp => k_is)
    (case erp => k_is)
    (case ara => k_is)
    (case jra => k_is)
    (case lra => k_is)
    (case cra => k_is)
    (case era => k_is)
    (case arb => k_is)
    (case jrb => k_is)
    (case lrb => k_is)
    (case crb => k_is)
    (case erb => k_is)
    (case arn => k_is)
    (case jrn => k_is)
    (case lrn => k_is)
    (case crn => k_is)
    (case ern => k_is)
    (case arx => k_is)
    (case jrx => k_is)
    (case lrx => k_is)
    (case crx => k_is)
    (case erx => k_is)
    (case nwA => k_is)
    (case pgwA => k_is)
    (case hdwA => k_is)
    (case powA => k_is)
    (case sawA => k_is)
    (case mkwA => k_is)
    (case kcwA => k_is)
    (case nWwA => k_is)
    (case nCwA => k_is)
    (case nLwA => k_is)
    (case nHwA => k_is)
    (case nAwA => k_is)
    (case uxiYA => k_is)
    (case jxiY => k_is)
    (case lxiY => k_is)
    (case cxiY => k_is)
    (case exiY => k_is)
    (case uxhYA => k_is)
    (case jxhY => k_is)
    (case lxhY => k_is)
    (case cxhY => k_is)
    (case exhY => k_is)
    (case uxlAA => k_is)
    (case jxlA => k_is)
    (case lxlA => k_is)
    (case cxlA => k_is)
    (case exlA => k_is)
    (case uxsZA => k_is)
    (case jxsZ => k_is)
    (case lxsZ => k_is)
    (case cxsZ => k_is)
    (case exsZ => k_is)
    (case nwB => k_is)
    (case pgwB => k_is)
    (case hdwB => k_is)
    (case powB => k_is)
    (case sawB => k_is)
    (case mkwB => k_is)
    (case kcwB => k_is)
    (case nWwB => k_is)
    (case nCwB => k_is)
    (case nLwB => k_is)
    (case nHwB => k_is)
    (case nAwB => k_is)
    (case uxiYB => k_is)
    (case uxhYB => k_is)
    (case uxlBB => k_is)
    (case jxlB => k_is)
    (case lxlB => k_is)
    (case cxlB => k_is)
    (case exlB => k_is)
    (case uxsZB => k_is)
    (case nwD => k_is)
    (case pgwD => k_is)
    (case hdwD => k_is)
    (case powD => k_is)
    (case sawD => k_is)
    (case mkwD => k_is)
    (case kcwD => k_is)
    (case nWwD => k_is)
    (case nCwD => k_is)
    (case nLwD => k_is)
    (case nHwD => k_is)
    (case nAwD => k_is)
    (case uxiDD => k_is)
    (case jxiD => k_is)
    (case lxiD => k_is)
    (case cxiD => k_is)
    (case exiD => k_is)
    (case uxhDD => k_is)
    (case jxhD => k_is)
    (case lxhD => k_is)
    (case cxhD => k_is)
    (case exhD => k_is)
    (case uxlDD => k_is)
    (case jxlD => k_is)
    (case lxlD => k_is)
    (case cxlD => k_is)
    (case exlD => k_is)
    (case uxsZD => k_is)
    (case nwE => k_is)
    (case pgwE => k_is)
    (case hdwE => k_is)
    (case powE => k_is)
    (case sawE => k_is)
    (case mkwE => k_is)
    (case kcwE => k_is)
    (case nWwE => k_is)
    (case nCwE => k_is)
    (case nLwE => k_is)
    (case nHwE => k_is)
    (case nAwE => k_is)
    (case uxiYE => k_is)
    (case uxhYE => k_is)
    (case uxlEE => k_is)
    (case jxlE => k_is)
    (case lxlE => k_is)
    (case cxlE => k_is)
    (case exlE => k_is)
    (case uxsEE => k_is)
    (case jxsE => k_is)
    (case lxsE => k_is)
    (case cxsE => k_is)
    (case exsE => k_is)
    (case nwF => k_is)
    (case pgwF => k_is)
    (case hdwF => k_is)
    (case powF => k_is)
    (case sawF => k_is)
    (case mkwF => k_is)
    (case kcwF => k_is)
    (case nWwF => k_is)
    (case nCwF => k_is)
    (case nLwF => k_is)
    (case nHwF => k_is)
    (case nAwF => k_is)
    (case uxiFF => k_is)
    (case jxiF => k_is)
    (case lxiF => k_is)
    (case cxiF => k_is)
    (case exiF => k_is)
    (case uxhYF => k_is)
    (case uxlFF => k_is)
    (case jxlF => k_is)
    (case lxlF => k_is)
    (case cxlF => k_is)
    (case exlF => k_is)
    (case uxsZF => k_is)
    (case nwG => k_is)
    (case pgwG => k_is)
    (case hdwG => k_is)
    (case powG => k_is)
    (case sawG => k_is)
    (case mkwG => k_is)
    (case kcwG => k_is)
    (case nWwG => k_is)
    (case nCwG => k_is)
    (case nLwG => k_is)
    (case nHwG => k_is)
    (case nAwG => k_is)
    (case uxiGG => k_is)
    (case jxiG => k_is)
    (case lxiG => k_is)
    (case cxiG => k_is)
    (case exiG => k_is)
    (case uxhZG => k_is)
    (case jxhZ => k_is)
    (case lxhZ => k_is)
    (case cxhZ => k_is)
    (case exhZ => k_is)
    (case uxlZG => k_is)
    (case jxlZ => k_is)
    (case lxlZ => k_is)
    (case cxlZ => k_is)
    (case exlZ => k_is)
    (case uxsZG => k_is)
    (case nwN => k_is)
    (case pgwN => k_is)
    (case hdwN => k_is)
    (case powN => k_is)
    (case sawN => k_is)
    (case mkwN => k_is)
    (case kcwN => k_is)
    (case nWwN => k_is)
    (case nCwN => k_is)
    (case nLwN => k_is)
    (case nHwN => k_is)
    (case nAwN => k_is)
    (case uxiNN => k_is)
    (case jxiN => k_is)
    (case lxiN => k_is)
    (case cxiN => k_is)
    (case exiN => k_is)
    (case uxhZN => k_is)
    (case uxlZN => k_is)
    (case uxsZN => k_is)
    (case nCY => k_is)
    (case gaY => k_is)
    (case rdY => k_is)
    (case fcY => k_is)
    (case hiY => rfl)
    (case hawA => k_is)
    (case hmwA => k_is)
    (case iNwA => kit_is)
    (case hawB => k_is)
    (case hmwB => k_is)
    (case iNwB => kit_is)
    (case hawD => k_is)
    (case hmwD => k_is)
    (case iNwD => kit_is)
    (case hawE => k_is)
    (case hmwE => k_is)
    (case iNwE => kit_is)
    (case hawF => k_is)
    (case hmwF => k_is)
    (case iNwF => kit_is)
    (case hawG => k_is)
    (case hmwG => k_is)
    (case iNwG => kit_is)
    (case hawN => k_is)
    (case hmwN => k_is)
    (case iNwN => kit_is)
    (case hn => k_is)
    (case htk => k_is)
    (case nP => k_is)
    (case pgP => k_is)
    (case hdP => k_is)
    (case poP => k_is)
    (case saP => k_is)
    (case mkP => k_is)
    (case kcP => k_is)
    (case nPm => k_is)
    (case nPs => k_is)
    (case nPp => k_is)
    (case api => k_is)
    (case jpi => k_is)
    (case lpi => k_is)
    (case cpi => k_is)
    (case epi => k_is)
    (case nE => k_is)
    (case xE => k_exc)
    (case neT => k_is)
    (case keT => k_is)
    (case aeT => k_is)
    (case jeT => k_is)
    (case leT => k_is)
    (case ceT => k_is)
    (case eeT => k_is)
    (case xjT => kernel_rfl)
    (case xcT => kernel_rfl)
    (case xsT => k_is)
    (case xnT => k_is)
    (case xgT => k_is)
    (case xhT => k_is)
    (case xkT => k_is)
    (case xmT => k_is)
    (case xbT => k_is)
    (case xeT => kit_is)
    (case neA => k_is)
    (case keA => k_is)
    (case aeA => k_is)
    (case jeA => k_is)
    (case leA => k_is)
    (case ceA => k_is)
    (case eeA => k_is)
    (case xjA => kernel_rfl)
    (case xcA => kernel_rfl)
    (case xsA => k_is)
    (case xnA => k_is)
    (case xgA => k_is)
    (case xhA => k_is)
    (case xkA => k_is)
    (case xmA => k_is)
    (case xbA => k_is)
    (case xeA => kit_is)
    (case neB => k_is)
    (case keB => k_is)
    (case aeB => k_is)
    (case jeB => k_is)
    (case leB => k_is)
    (case ceB => k_is)
    (case eeB => k_is)
    (case xjB => kernel_rfl)
    (case xcB => kernel_rfl)
    (case xsB => k_is)
    (case xnB => k_is)
    (case xgB => k_is)
    (case xhB => k_is)
    (case xkB => k_is)
    (case xmB => k_is)
    (case xbB => k_is)
    (case xeB => kit_is)
    (case neF => k_is)
    (case keF => k_is)
    (case aeF => k_is)
    (case jeF => k_is)
    (case leF => k_is)
    (case ceF => k_is)
    (case eeF => k_is)
    (case xjF => kernel_rfl)
    (case xcF => kernel_rfl)
    (case xsF => k_is)
    (case xnF => k_is)
    (case xgF => k_is)
    (case xhF => k_is)
    (case xkF => k_is)
    (case xmF => k_is)
    (case xbF => k_is)
    (case xeF => kit_is)
    (case maa => k_is)
    (case mba => k_is)
    (case mbb => k_is)
    (case mae => k_is)
    (case mbe => k_is)
    (case kab => kit_is)
    (case kbt => kit_is)
    (case kav => kit_is)
    (case kbv => kit_is)
    (case aW1 => k_is)
    (case lW1 => k_is)
    (case cW1 => k_is)
    (case eW1 => k_is)
    (case aR1 => k_is)
    (case lR1 => k_is)
    (case cR1 => k_is)
    (case eR1 => k_is)
    (case aG1 => k_is)
    (case lG1 => k_is)
    (case cG1 => k_is)
    (case eG1 => k_is)
    (case aS1 => k_is)
    (case lS1 => k_is)
    (case cS1 => k_is)
    (case eS1 => k_is)
    (case aN1 => k_is)
    (case lN1 => k_is)
    (case cN1 => k_is)
    (case eN1 => k_is)
    (case aM1 => k_is)
    (case lM1 => k_is)
    (case cM1 => k_is)
    (case eM1 => k_is)
    (case aU1 => k_is)
    (case lU1 => k_is)
    (case cU1 => k_is)
    (case eU1 => k_is)
    (case aA3 => k_is)
    (case lA3 => k_is)
    (case cA3 => k_is)
    (case eA3 => k_is)
    (case aB3 => k_is)
    (case lB3 => k_is)
    (case cB3 => k_is)
    (case eB3 => k_is)
    (case aD3 => k_is)
    (case lD3 => k_is)
    (case cD3 => k_is)
    (case eD3 => k_is)
    (case aL3 => k_is)
    (case lL3 => k_is)
    (case cL3 => k_is)
    (case eL3 => k_is)
    (case aI3 => k_is)
    (case lI3 => k_is)
    (case cI3 => k_is)
    (case eI3 => k_is)
    (case aK3 => k_is)
    (case lK3 => k_is)
    (case cK3 => k_is)
    (case eK3 => k_is)
    (case aA2 => k_is)
    (case lA2 => k_is)
    (case cA2 => k_is)
    (case eA2 => k_is)
    (case aW2 => k_is)
    (case lW2 => k_is)
    (case cW2 => k_is)
    (case eW2 => k_is)
    (case aX2 => k_is)
    (case lX2 => k_is)
    (case cX2 => k_is)
    (case eX2 => k_is)
    (case aP2 => k_is)
    (case lP2 => k_is)
    (case cP2 => k_is)
    (case eP2 => k_is)
    (case aS2 => k_is)
    (case lS2 => k_is)
    (case cS2 => k_is)
    (case eS2 => k_is)
    (case aT2 => k_is)
    (case lT2 => k_is)
    (case cT2 => k_is)
    (case eT2 => k_is)
    (case aD2 => k_is)
    (case lD2 => k_is)
    (case cD2 => k_is)
    (case eD2 => k_is)
    (case aF2 => k_is)
    (case lF2 => k_is)
    (case cF2 => k_is)
    (case eF2 => k_is)
    (case aY2 => k_is)
    (case lY2 => k_is)
    (case cY2 => k_is)
    (case eY2 => k_is)
    (case aH2 => k_is)
    (case lH2 => k_is)
    (case cH2 => k_is)
    (case eH2 => k_is)
    (case aZ => k_is)
    (case lZ => k_is)
    (case cZ => k_is)
    (case eZ => k_is)
    (case y_isinstance => k_is)
    (case y_int => k_is)
    (case y_bool => k_is)
    (case y_str => k_is)
    (case y_len => k_is)
    (case y_range => k_is)
    (case y_tuple => k_is)
    (case y_list => k_is)
    (case y_any => k_is)
    (case y_all => k_is)
    (case y_max => k_is)
    (case y_sorted => k_is)
    (case y_min => k_is)
    (case y_ord => k_is)
    (case y_ValueError => k_is)
    (case q_MOST_FIGURES_things => k_is)
    (case q_MOST_SIGNS => k_is)
    (case q_MOST_PARTS => k_is)
    (case q_MOST_DEEP => k_is)
    (case q_LONGEST => k_is)
    (case q_BLANK => k_is)
    (case q_PERCENT => k_is)
    (case q_TILDE => k_is)
    (case q_MOST_FIGURES_steps => k_is)
    (case q_MOST_STEPS => k_is)
    (case nSh => k_is)
    (case lSh => k_is)
    (case qSh => rfl)
    (case tSh => kernel_rfl)
    (case nMnn => k_is)
    (case lMn => k_is)
    (case nNo => k_is)
    (case xNo => k_exc)
#print axioms PySem.Challenge.cw_pactroom_k26_looked_at_holds
