import PyProof.Rows.All
import Wide.All
import OpenK.AllK
import Wide.FinOn
import Lean
import PyProof.EqAt
import PyProof.EqKinds
import PyProof.TupleCall
import KE.KLam
import KE.KMinKey
import KE.KRevSl
import KE.KNestM
import PyProof.LongRange
import PySem.Challenge.RW_pactroom_k22_a_step_done
set_option Elab.async false
set_option linter.all false
set_option maxRecDepth 100000
namespace L2
open PySem PySem.Spec PyProof.Rows
abbrev Key := Sum Int Str
def keyIs : Key → Value → Bool
  | .inl k, v => Value.isInt k v
  | .inr x, v => Value.isStrOf x v
def keyH (w : World) : Key → Int
  | .inl k => hashInt k
  | .inr x => hashStr w x
theorem keyIs_shape : ∀ {k : Key} {v : Value}, keyIs k v = true → (∃ i t, k = Sum.inl i ∧ v = Value.int i t) ∨ (∃ x t, k = Sum.inr x ∧ v = Value.str x t)
  | .inl i, v, h => by
    obtain ⟨t, e⟩ := Value.isInt_shape (k := i) (v := v) h
    exact .inl ⟨i, t, rfl, e⟩
  | .inr x, v, h => by
    obtain ⟨t, e⟩ := Value.isStrOf_shape (x := x) (v := v) h
    exact .inr ⟨x, t, rfl, e⟩
theorem key_ll (a b : Int) : decide ((Sum.inl a : Key) = Sum.inl b) = (a == b) := by
  by_cases e : a = b
  · subst e; simp
  · have h : ¬ (Sum.inl a : Key) = Sum.inl b := fun q => e (Sum.inl.inj q)
    rw [decide_eq_false h]
    exact (beq_eq_false_iff_ne.mpr e).symm
theorem key_rr (a b : Str) : decide ((Sum.inr a : Key) = Sum.inr b) = decide (a = b) := by
  by_cases e : a = b
  · subst e; simp
  · have h : ¬ (Sum.inr a : Key) = Sum.inr b := fun q => e (Sum.inr.inj q)
    rw [decide_eq_false h, decide_eq_false e]
theorem key_lr (a : Int) (b : Str) : decide ((Sum.inl a : Key) = Sum.inr b) = false := decide_eq_false (fun q => nomatch q)
theorem key_rl (a : Str) (b : Int) : decide ((Sum.inr a : Key) = Sum.inl b) = false := decide_eq_false (fun q => nomatch q)
def mixKind (prog : Program) (w : World) : PySem.KeyKind prog w Key where
  is := keyIs
  hash := keyH w
  inj := fun v a b ha hb => by
    rcases keyIs_shape ha with ⟨i, t, rfl, rfl⟩ | ⟨x, t, rfl, rfl⟩
    · rcases keyIs_shape hb with ⟨j, u, rfl, e⟩ | ⟨y, u, rfl, e⟩
      · injection e with e1 _; rw [e1]
      · exact nomatch e
    · rcases keyIs_shape hb with ⟨j, u, rfl, e⟩ | ⟨y, u, rfl, e⟩
      · exact nomatch e
      · injection e with e1 _; rw [e1]
  byValue := fun k v h => by
    rcases keyIs_shape h with ⟨i, t, rfl, rfl⟩ | ⟨x, t, rfl, rfl⟩ <;> rfl
  pyHash := fun hv h => by
    rcases keyIs_shape hv with ⟨i, t, rfl, rfl⟩ | ⟨x, t, rfl, rfl⟩
    · exact wpAny_pyHash_int h
    · exact wpAny_pyHash_str h
  eqBool := fun hu hv h => by
    rcases keyIs_shape hu with ⟨i, t, rfl, rfl⟩ | ⟨x, t, rfl, rfl⟩
    · rcases keyIs_shape hv with ⟨j, u, rfl, rfl⟩ | ⟨y, u, rfl, rfl⟩
      · rw [key_ll] at h; exact wpAny_eqBool_int h
      · rw [key_lr] at h; exact SeqAt.EqAt.int_str i t y u _ _ _ _ h
    · rcases keyIs_shape hv with ⟨j, u, rfl, rfl⟩ | ⟨y, u, rfl, rfl⟩
      · rw [key_rl] at h; exact SeqAt.EqAt.str_int x t j u _ _ _ _ h
      · rw [key_rr] at h; exact wpAny_eqBool_str h
  «strs» := fun k x t v h => by
    rcases keyIs_shape h with ⟨i, u, rfl, e⟩ | ⟨y, u, rfl, e⟩
    · exact nomatch e
    · injection e with e1 _
      subst e1
      cases v <;> rfl
end L2
namespace L2
open PySem PySem.Spec PyProof.Rows
inductive V where
  | non | bl (b : Bool) | int (i : Int) | str (x : Str) | byt (b : Array UInt8) | flt (b : UInt64) | ref (a : Addr) | ty (n : String)
  deriving DecidableEq
def RelV : V → Value → Prop
  | .non, u => u = Value.none
  | .bl b, u => u = Value.bool b
  | .int i, u => ∃ t, u = Value.int i t
  | .str x, u => ∃ t, u = Value.str x t
  | .byt b, u => ∃ t, u = Value.bytes b t
  | .flt b, u => ∃ t, u = Value.float b t
  | .ref a, u => u = Value.ref a
  | .ty n, u => u = Value.type n
abbrev Vals : List V → List Value → Prop := Paired RelV
theorem Vals.length {xs : List V} {us : List Value} (r : Vals xs us) : xs.length = us.length := Paired.length r
theorem Vals.get : ∀ {xs : List V} {us : List Value} {i : Nat} {x : V}, Vals xs us → xs[i]? = some x → ∃ u, us[i]? = some u ∧ RelV x u
  | _, _, _, _, .nil, e => by simp at e
  | _, _, 0, _, .cons r _, e => by simp at e; subst e; exact ⟨_, rfl, r⟩
  | _, _, i + 1, x, .cons _ t, e => by
    obtain ⟨u, h1, h2⟩ := Vals.get (i := i) (x := x) t (by simpa using e)
    exact ⟨u, by simpa using h1, h2⟩
theorem Vals.append : ∀ {xs ys : List V} {us ws : List Value}, Vals xs us → Vals ys ws → Vals (xs ++ ys) (us ++ ws)
  | _, _, _, _, .nil, s => s
  | _, _, _, _, .cons r t, s => .cons r (Vals.append t s)
theorem Vals.take : ∀ {xs : List V} {us : List Value} (n : Nat), Vals xs us → Vals (xs.take n) (us.take n)
  | _, _, 0, _ => .nil
  | _, _, _ + 1, .nil => .nil
  | _, _, n + 1, .cons r t => .cons r (Vals.take n t)
theorem Vals.drop : ∀ {xs : List V} {us : List Value} (n : Nat), Vals xs us → Vals (xs.drop n) (us.drop n)
  | _, _, 0, r => r
  | _, _, _ + 1, .nil => .nil
  | _, _, n + 1, .cons _ t => Vals.drop n t
def RelO : Option V → Option Value → Prop
  | some v, some u => RelV v u
  | none, none => True
  | _, _ => False
def KV {κ : Type} : List (κ × V) → List (κ × Value) → Prop := Paired fun (p : κ × V) (q : κ × Value) => p.1 = q.1 ∧ RelV p.2 q.2
def kV : Key → V
  | .inl i => .int i
  | .inr x => .str x
inductive HO where
  | lst (xs : List V)
  | tup (xs : List V)
  | dK (kvs : List (Key × V)) | dT (kvs : List (List Key × V))
  | set (S : Int → Bool) (n : Nat)
  | ins (C dx : Addr) (fs : List (Str × V))
  | own (x : Addr)
  | xd (fs : List (Str × V))
  | met (f x : Addr)
  | rng (lo hi : Int)
  | frz (o : Obj) (u : HO)
  | tbl (ps : Array Value)
  | ext (φ : Heap → Prop)
abbrev Hp := Addr → Option HO
def upd (H : Hp) (a : Addr) (o : HO) : Hp := fun b => if b = a then some o else H b
theorem upd_same {H : Hp} {a : Addr} {o : HO} : upd H a o a = some o := by unfold upd; rw [if_pos rfl]
theorem upd_ne {H : Hp} {a b : Addr} {o : HO} (h : b ≠ a) : upd H a o b = H b := by unfold upd; rw [if_neg h]
theorem ne_of_none {H : Hp} {a b : Addr} {o : HO} (h : H a = some o) (h' : H b = none) : a ≠ b := by
  intro e; subst e; rw [h] at h'; cases h'
section
variable (P : Program) (w : World)
def ObjOk (H : Hp) (h : Heap) (a : Addr) : HO → Prop
  | .lst xs => xs.length ≤ sizeLine ∧ ∃ (its : List Value) (n : Nat), Vals xs its ∧ h.get? a = some { cls := .type "list", data := .seq its.toArray n }
  | .tup xs => xs.length ≤ sizeLine ∧ ∃ its : List Value, Vals xs its ∧ IsTup h a its.toArray
  | .dK kvs => kvs.length ≤ sizeLine ∧ (a == sysModules) = false ∧ ∃ vs, KV kvs vs ∧ h.DictOf (mixKind P w) a vs
  | .dT kvs => kvs.length ≤ sizeLine ∧ (a == sysModules) = false ∧ ∃ xs : List (List Key × Addr × Value),
      Paired (fun (p : List Key × V) (q : List Key × Addr × Value) => p.1 = q.1 ∧ H q.2.1 = some (.tup (p.1.map kV)) ∧ RelV p.2 q.2.2) kvs xs ∧
      ∃ o es ep, h.get? a = some o ∧ o.ExactDict ∧ o.data = .dict es ep ∧ es.toList = xs.map (entryOfKey (tupleKind (mixKind P w))) ∧ (xs.map (·.1)).Nodup
  | .set S n => h.SetOf (intKind P w) a S n
  | .ins C dx fs => H dx = some (.own a) ∧ fs.length ≤ 1000 ∧ dx ≠ a ∧ h.get? a = some (PySem.W.instObj C dx) ∧
      ∃ mA, h.Ns1 dx mA ∧ (∀ f, RelO (fs.lookup f) (mA f)) ∧ PySem.Within mA (fs.map (·.1))
  | .own _ => ∃ o, h.get? a = some o
  | .xd fs => ∃ mA, h.Ns1 a mA ∧ ∀ f, RelO (fs.lookup f) (mA f)
  | .rng lo hi => ∃ t u v, h.get? a = some { cls := .type "range", data := .fields #[.int lo t, .int hi u, .int 1 v] }
  | .frz o u => h.get? a = some o ∧ ObjOk H h a u
  | .tbl ps => h.get? a = some { cls := .none, data := .fields ps }
  | .met f x => h.get? a = some (PySem.W.methodObj (.ref f) (.ref x))
  | .ext φ => φ h ∧ (∃ o, h.get? a = some o) ∧ ∀ h1 h2 : Heap, φ h1 → (∀ o, h1.get? a = some o → h2.get? a = some o) → φ h2
def HOk (H : Hp) (h : Heap) : Prop := ∀ a o, H a = some o → ObjOk P w H h a o
end
section
variable {P : Program} {w : World} {H H' : Hp} {h h' : Heap} {a : Addr} {o : HO}
theorem ObjOk.lt (x : ObjOk P w H h a o) : a < h.objs.size := by
  cases o with
  | lst xs => obtain ⟨_, _, _, _, e⟩ := x; exact Heap.lt_size e
  | tup xs => obtain ⟨_, _, _, p⟩ := x; exact p.lt
  | dK kvs => obtain ⟨_, _, _, _, o, _, _, e, _⟩ := x; exact Heap.lt_size e
  | dT kvs => obtain ⟨_, _, _, _, o, _, _, e, _⟩ := x; exact Heap.lt_size e
  | set S n => obtain ⟨o, _, _, _, e, _⟩ := x; exact Heap.lt_size e
  | ins C dx fs => obtain ⟨_, _, _, e, _⟩ := x; exact Heap.lt_size e
  | own y => obtain ⟨_, e⟩ := x; exact Heap.lt_size e
  | xd fs => obtain ⟨_, ⟨_, _, _, e, _⟩, _⟩ := x; exact Heap.lt_size e
  | rng lo hi => obtain ⟨_, _, _, e⟩ := x; exact Heap.lt_size e
  | frz ob u => obtain ⟨e, _⟩ := x; exact Heap.lt_size e
  | tbl ps => exact Heap.lt_size (show h.get? a = some _ from x)
  | met f y => exact Heap.lt_size (show h.get? a = some _ from x)
  | ext φ => obtain ⟨_, ⟨_, e⟩, _⟩ := x; exact Heap.lt_size e
theorem Paired.mapP {α β : Type} {F G : α → β → Prop} : ∀ {l₁ : List α} {l₂ : List β}, Paired F l₁ l₂ → (∀ a b, F a b → G a b) → Paired G l₁ l₂
  | _, _, .nil, _ => .nil
  | _, _, .cons r t, f => .cons (f _ _ r) (Paired.mapP t f)
theorem ObjOk.stay (x : ObjOk P w H h a o) (k : ∀ b u, (b = a ∨ H b = some (.own a)) → h.get? b = some u → h'.get? b = some u)
    (ho : ∀ b, H b = some (.own a) → H' b = some (.own a)) (ht : ∀ b xs, H b = some (.tup xs) → H' b = some (.tup xs)) : ObjOk P w H' h' a o := by
  induction o with
  | lst xs => obtain ⟨z, its, n, r, e⟩ := x; exact ⟨z, its, n, r, k _ _ (.inl rfl) e⟩
  | tup xs => obtain ⟨z, its, r, ob, e, c⟩ := x; exact ⟨z, its, r, ob, k _ _ (.inl rfl) e, c⟩
  | dK kvs => obtain ⟨z, y, vs, r, ob, es, ep, e, c⟩ := x; exact ⟨z, y, vs, r, ob, es, ep, k _ _ (.inl rfl) e, c⟩
  | dT kvs =>
    obtain ⟨z, y, xs, r, ob, es, ep, e, c⟩ := x
    exact ⟨z, y, xs, Paired.mapP r fun p q z => ⟨z.1, ht _ _ z.2.1, z.2.2⟩, ob, es, ep, k _ _ (.inl rfl) e, c⟩
  | set S n => obtain ⟨ob, es, ep, t, e, c⟩ := x; exact ⟨ob, es, ep, t, k _ _ (.inl rfl) e, c⟩
  | ins C dx fs =>
    obtain ⟨d, z, ne, e, mA, ⟨od, es, ep, e2, c⟩, r⟩ := x
    exact ⟨ho _ d, z, ne, k _ _ (.inl rfl) e, mA, ⟨od, es, ep, k _ _ (.inr d) e2, c⟩, r⟩
  | own y => obtain ⟨ob, e⟩ := x; exact ⟨ob, k _ _ (.inl rfl) e⟩
  | xd fs => obtain ⟨mA, ⟨od, es, ep, e, c⟩, r⟩ := x; exact ⟨mA, ⟨od, es, ep, k _ _ (.inl rfl) e, c⟩, r⟩
  | rng lo hi => obtain ⟨t, u, v, e⟩ := x; exact ⟨t, u, v, k _ _ (.inl rfl) e⟩
  | frz ob u ih => obtain ⟨e, q⟩ := x; exact ⟨k _ _ (.inl rfl) e, ih q⟩
  | tbl ps =>
    have e : h.get? a = some { cls := .none, data := .fields ps } := x
    show h'.get? a = some { cls := .none, data := .fields ps }
    exact k a _ (.inl rfl) e
  | met f y =>
    have e : h.get? a = some (PySem.W.methodObj (.ref f) (.ref y)) := x
    show h'.get? a = some (PySem.W.methodObj (.ref f) (.ref y))
    exact k a _ (.inl rfl) e
  | ext φ => obtain ⟨p, ⟨o, e⟩, st⟩ := x; exact ⟨st _ _ p fun o q => k _ _ (.inl rfl) q, ⟨o, k _ _ (.inl rfl) e⟩, st⟩
theorem HOk.lt (x : HOk P w H h) (e : H a = some o) : a < h.objs.size := (x a o e).lt
theorem HOk.fresh (x : HOk P w H h) (e : h.objs.size ≤ a) : H a = none := by
  cases q : H a with
  | none => rfl
  | some u => exact absurd (Nat.lt_of_lt_of_le (x.lt q) e) (Nat.lt_irrefl _)
theorem HOk.kept (x : HOk P w H h) (k : ∀ b u, h.get? b = some u → h'.get? b = some u) : HOk P w H h' := fun a o e =>
  (x a o e).stay (fun b u _ q => k b u q) (fun _ q => q) fun _ _ q => q
theorem HOk.laid (x : HOk P w H h) (k : ∀ b u, h.get? b = some u → h'.get? b = some u) (hp : h.objs.size ≤ a) (new : ObjOk P w (upd H a o) h' a o) : HOk P w (upd H a o) h' := fun b u e => by
  have hn := x.fresh hp
  by_cases hb : b = a
  · subst hb; rw [upd_same] at e; cases e; exact new
  · rw [upd_ne hb] at e
    exact (x b u e).stay (fun c v _ q => k c v q) (fun c q => by rw [upd_ne (ne_of_none q hn)]; exact q) fun c xs q => by rw [upd_ne (ne_of_none q hn)]; exact q
end
def Rd (H : Hp) (a : Addr) (u : HO) : Prop := H a = some u ∨ ∃ o, H a = some (.frz o u)
theorem Rd.ok {P : Program} {w : World} {H : Hp} {h : Heap} {a : Addr} {u : HO} (r : Rd H a u) (x : HOk P w H h) : ObjOk P w H h a u := by
  rcases r with r | ⟨o, r⟩
  · exact x a u r
  · obtain ⟨_, q⟩ := x a _ r
    exact q
def Mut : Option HO → Prop
  | some (.lst _) => True
  | some (.dK _) => True
  | some (.dT _) => True
  | some (.set _ _) => True
  | some (.ins _ _ _) => True
  | some (.ext _) => True
  | _ => False
section
variable {P : Program} {w : World} {H : Hp} {h h' : Heap} {x e : Addr} {o' : HO}
theorem HOk.write (ok : HOk P w H h) (mu : Mut (H x)) (he : e = x ∨ H e = some (.own x)) (k : ∀ b u, b ≠ e → h.get? b = some u → h'.get? b = some u) (heo : ∃ u, h'.get? e = some u)
    (new : ObjOk P w (upd H x o') h' x o') : HOk P w (upd H x o') h' := fun b u q => by
  have nown : ∀ c y, H c = some (.own y) → c ≠ x := fun c y r z => by subst z; rw [r] at mu; exact mu
  have ntup : ∀ c xs, H c = some (.tup xs) → c ≠ x := fun c xs r z => by subst z; rw [r] at mu; exact mu
  by_cases hb : b = x
  · subst hb; rw [upd_same] at q; cases q; exact new
  · rw [upd_ne hb] at q
    by_cases hbe : b = e
    · have q' : H b = some (.own x) := by
        rcases he with z | z
        · exact absurd (hbe.trans z) hb
        · rw [hbe]; exact z
      rw [q] at q'; cases q'
      obtain ⟨v, hv⟩ := heo
      exact ⟨v, by rw [hbe]; exact hv⟩
    · refine (ok b u q).stay (fun c v hc r => k c v ?_ r) (fun c r => by rw [upd_ne (nown c b r)]; exact r) fun c xs r => by rw [upd_ne (ntup c xs r)]; exact r
      rcases hc with rfl | hc
      · exact hbe
      · rintro rfl
        rcases he with z | z
        · exact nown c b hc z
        · rw [hc] at z; cases z; exact hb rfl
end
structure Un (fs ex : List Addr) (H H' : Hp) (h h' : Heap) : Prop where
  keep : ∀ b o, h.get? b = some o → H b = none → b ∉ fs → b ∉ ex → h'.get? b = some o
  slot : ∀ b o, h.get? b = some o → H b = none → b ∈ fs → b ∉ ex → ∃ sl, h'.get? b = some { o with slots := sl }
  free : ∀ b o, h.get? b = some o → H b = none → b ∉ ex → H' b = none
  there : ∀ b o, h.get? b = some o → b ∉ ex → ∃ o', h'.get? b = some o'
  tups : ∀ b xs, H b = some (.tup xs) → H' b = some (.tup xs)
  frzs : ∀ b o u, H b = some (.frz o u) → H' b = some (.frz o u)
  tbls : ∀ b ps, H b = some (.tbl ps) → ∃ more, H' b = some (.tbl (ps ++ more))
section
variable {fs fs' ex ex' : List Addr} {H H1 H2 : Hp} {h h1 h2 h' : Heap} {a x e : Addr} {o : HO}
theorem Un.any (u : Un fs ex H H1 h h1) {b : Addr} {ob : Obj} (q : h.get? b = some ob) (n : H b = none) (hx : b ∉ ex) : ∃ sl, h1.get? b = some { ob with slots := sl } := by
  by_cases hb : b ∈ fs
  · exact u.slot b ob q n hb hx
  · exact ⟨ob.slots, u.keep b ob q n hb hx⟩
theorem Un.kept (k : ∀ b u, h.get? b = some u → h'.get? b = some u) : Un fs ex H H h h' :=
  ⟨fun b ob q _ _ _ => k b ob q, fun b ob q _ _ _ => ⟨ob.slots, k b ob q⟩, fun _ _ _ n _ => n, fun b ob q _ => ⟨ob, k b ob q⟩, fun _ _ q => q, fun _ _ _ q => q, fun _ ps q => ⟨#[], by rw [q]; simp⟩⟩
theorem Un.refl : Un fs ex H H h h := Un.kept fun _ _ q => q
theorem Un.laid (k : ∀ b u, h.get? b = some u → h'.get? b = some u) (hp : h.objs.size ≤ a) (hn : H a = none) : Un fs ex H (upd H a o) h h' where
  keep := fun b u q _ _ _ => k b u q
  slot := fun b u q _ _ _ => ⟨u.slots, k b u q⟩
  free := fun b u q n _ => by rw [upd_ne (Nat.ne_of_lt (Nat.lt_of_lt_of_le (Heap.lt_size q) hp))]; exact n
  there := fun b u q _ => ⟨u, k b u q⟩
  tups := fun b xs q => by rw [upd_ne (ne_of_none q hn)]; exact q
  frzs := fun b u xs q => by rw [upd_ne (ne_of_none q hn)]; exact q
  tbls := fun b ps q => ⟨#[], by rw [upd_ne (ne_of_none q hn), q]; simp⟩
theorem Un.write (mu : Mut (H x)) (he : e = x ∨ H e = some (.own x)) (k : ∀ b u, b ≠ e → h.get? b = some u → h'.get? b = some u) (heo : ∃ u, h'.get? e = some u) : Un fs ex H (upd H x o) h h' := by
  have hx : ∀ b, H b = none → b ≠ x := fun b n z => by subst z; rw [n] at mu; exact mu
  have hb : ∀ b, H b = none → b ≠ e := fun b n z => by
    subst z
    rcases he with r | r
    · exact hx b n r
    · rw [n] at r; cases r
  have hm : ∀ b u, H b = some u → ¬ Mut (some u) → b ≠ x := fun b u q nm z => by subst z; rw [q] at mu; exact nm mu
  refine ⟨fun b u q n _ _ => k b u (hb b n) q, fun b u q n _ _ => ⟨u.slots, k b u (hb b n) q⟩, fun b u q n _ => by rw [upd_ne (hx b n)]; exact n, fun b u q _ => ?_,
    fun b xs q => by rw [upd_ne (hm b _ q fun z => z)]; exact q, fun b u xs q => by rw [upd_ne (hm b _ q fun z => z)]; exact q, fun b ps q => ⟨#[], by rw [upd_ne (hm b _ q fun z => z), q]; simp⟩⟩
  by_cases hbe : b = e
  · subst hbe; exact heo
  · exact ⟨u, k b u hbe q⟩
end
def trk (h : Heap) (H : Hp) : List Addr := (List.range h.objs.size).filter fun a => (H a).isSome
def hidT (h : Heap) (H : Hp) : Heap := PySem.W.hideAll h (trk h H)
theorem hidT_size (h : Heap) (H : Hp) : (hidT h H).objs.size = h.objs.size := PySem.W.hideAll_size _ _
theorem hidT_get {h : Heap} {H : Hp} {b : Addr} {o : Obj} (e : h.get? b = some o) (n : H b = none) : (hidT h H).get? b = some o :=
  PySem.W.hideAll_get _ e fun hm => by
    have q : (H b).isSome = true := (List.mem_filter.mp hm).2
    rw [n] at q; simp at q
theorem of_hidT {h : Heap} {H : Hp} {b : Addr} {o : Obj} (e : (hidT h H).get? b = some o) : h.get? b = some o ∧ H b = none := by
  have e' : h.get? b = some o := PySem.W.of_hideAll (trk h H) e
  refine ⟨e', ?_⟩
  cases q : H b with
  | none => rfl
  | some x =>
    have hm : b ∈ trk h H := List.mem_filter.mpr ⟨List.mem_range.mpr (Heap.lt_size e'), by simp [q]⟩
    have z : (hidT h H).get? b = none := PySem.W.hideAll_none (trk h H) hm
    rw [z] at e; cases e
end L2
namespace L2
open PySem PySem.Spec PyProof.Rows
structure Mod (K : PySem.W.Frag) (mg : Str → Option Value) (base : Heap) : Prop where
  kin : K.In base
  glob : base.Ns mainGlobals mg
  blt : ∃ mb, base.Ns builtinsNs mb ∧ ∀ x : Str, x ≠ "__name__" → mb x = bootBuiltins x
  nolimit : base.NoLimit
structure Cx where
  prog : Program
  w : World
  K : PySem.W.Frag
  mg : Str → Option Value
  base : Heap
  A : Around
  N : List Str
  s₀ : Shared
  H₀ : Hp
  env : Env
  outer : List Env
  stack : List Env
  ex : List Addr
  fn : Str → Bool
  calm : Bool
  pn : List (Addr × Obj)
  xe : Value → Shared → Prop
def frs (l : List Env) : List Addr := l.filterMap (·.frame)
abbrev Cx.fs (X : Cx) : List Addr := frs X.outer
def Vis (sc : Scope) (x : Str) : Prop := sc.names.lookup x = some .local ∨ sc.names.lookup x = some .cell ∨ sc.names.lookup x = some .free
def Loc (sc : Scope) (x : Str) : Prop := sc.names.lookup x = some .local ∨ sc.names.lookup x = some .cell
def Look (env : Env) (h : Heap) (m : Str → Option Value) (x : Str) (u : Value) : Prop :=
  (env.kindOf x = some .local ∧ m x = some u) ∨ ((env.kindOf x = some .cell ∨ env.kindOf x = some .free) ∧ ∃ c, env.cells.lookup x = some c ∧ h.IsCell c (some u))
structure Cx.Ok (X : Cx) : Prop where
  mod : Mod X.K X.mg X.base
  kind : X.env.scope.kind = .function
  glob : X.env.globals = mainGlobals
  blt : X.env.builtins = builtinsNs
  above : X.s₀.heap.objs.size ≤ X.env.locals
  inj : ∀ x y c, X.env.cells.lookup x = some c → X.env.cells.lookup y = some c → x = y
  has : ∀ x, (X.env.kindOf x = some .cell ∨ X.env.kindOf x = some .free) → ∃ c, X.env.cells.lookup x = some c
  cab : ∀ x c, X.fn x = true → X.env.cells.lookup x = some c → X.s₀.heap.objs.size ≤ c
  hd : X.calm = true → X.A.handled = none
  frames : X.A.frames = some X.stack
  stk : X.stack = X.outer ∨ (X.stack = X.env :: X.outer ∧ X.env.frame = some X.env.locals)
  exf : ∀ b ∈ X.ex, b ≠ X.env.locals ∧ ∀ x c, X.env.cells.lookup x = some c → c ≠ b
  bs : ∀ b o, X.base.get? b = some o → X.s₀.heap.get? b = some o ∧ X.H₀ b = none
  bsz : X.base.objs.size ≤ X.s₀.heap.objs.size
  noex : ∀ b o, X.base.get? b = some o → b ∉ X.ex
  exfs : ∀ b ∈ X.ex, b ∉ X.fs
  funs : X.s₀.heap.FunFrames X.base X.outer
  frf : ∀ b ∈ X.fs, X.H₀ b = none
structure Inv (X : Cx) (pins : List (Addr × Obj)) (σ : List (Option V)) (H : Hp) (s : Shared) : Prop where
  ok : X.Ok
  os : s.os = X.s₀.os
  bare : AllBare s.gens
  base : Un X.fs X.ex X.H₀ H X.s₀.heap s.heap
  loc : ∃ m, s.heap.Ns X.env.locals m ∧ ∀ (i : Nat) (x : Str) (v : V), X.N[i]? = some x → σ[i]? = some (some v) → Vis X.env.scope x → ∃ u, RelV v u ∧ Look X.env s.heap m x u
  cell : ∀ x c, X.env.cells.lookup x = some c → ∃ v, s.heap.IsCell c v
  free : H X.env.locals = none
  freeC : ∀ x c, X.env.cells.lookup x = some c → H c = none
  pin : ∀ p ∈ X.pn ++ pins, s.heap.get? p.1 = some p.2 ∧ H p.1 = none ∧ p.1 ≠ X.env.locals ∧ p.1 ∉ X.fs ∧ ∀ v, p.2.data ≠ .cell v
  hok : HOk X.prog X.w H s.heap
  len : σ.length = X.N.length
section
variable {X : Cx} {pins : List (Addr × Obj)} {σ : List (Option V)} {H H' : Hp} {s : Shared} {h' : Heap}
theorem Cx.Ok.nofr (ok : X.Ok) {b : Addr} {o : Obj} (e : X.base.get? b = some o) : b ∉ X.fs := fun hb => by
  have := (ok.funs.mem hb).1
  rw [e] at this; cases this
theorem Inv.bs (I : Inv X pins σ H s) : ∀ b o, X.base.get? b = some o → s.heap.get? b = some o ∧ H b = none := fun b o e =>
  ⟨I.base.keep b o (I.ok.bs b o e).1 (I.ok.bs b o e).2 (I.ok.nofr e) (I.ok.noex b o e), I.base.free b o (I.ok.bs b o e).1 (I.ok.bs b o e).2 (I.ok.noex b o e)⟩
theorem Inv.bk (I : Inv X pins σ H s) : ∀ b o, X.base.get? b = some o → s.heap.get? b = some o := fun b o e => (I.bs b o e).1
theorem Inv.mod (I : Inv X pins σ H s) : Mod X.K X.mg X.base := I.ok.mod
theorem Inv.kIn (I : Inv X pins σ H s) : X.K.In s.heap := I.ok.mod.kin.keeps I.bk
theorem Inv.lt (I : Inv X pins σ H s) : X.env.locals < s.heap.objs.size := let ⟨_, hn, _⟩ := I.loc; hn.lt
theorem Inv.sz (I : Inv X pins σ H s) : X.s₀.heap.objs.size ≤ s.heap.objs.size := Nat.le_trans I.ok.above (Nat.le_of_lt I.lt)
theorem Inv.nofs (I : Inv X pins σ H s) {a : Addr} (h : s.heap.objs.size ≤ a) : a ∉ X.fs := fun hb => by
  obtain ⟨_, o, ho, _⟩ := I.ok.funs.mem hb
  exact absurd (Nat.lt_of_lt_of_le (Heap.lt_size ho) (Nat.le_trans I.sz h)) (Nat.lt_irrefl _)
theorem Inv.cne (I : Inv X pins σ H s) : ∀ x c, X.env.cells.lookup x = some c → c ≠ X.env.locals := fun x c e z => by
  obtain ⟨v, o, ho, hd⟩ := I.cell x c e
  obtain ⟨m, ⟨o', es, ep, ho', hd', _⟩, _⟩ := I.loc
  rw [z, ho'] at ho; cases ho; rw [hd'] at hd; cases hd
theorem Inv.funs (I : Inv X pins σ H s) : s.heap.FunFrames X.base X.outer := by
  have all : ∀ (l : List Env), (∀ b ∈ frs l, b ∈ X.fs) → X.s₀.heap.FunFrames X.base l → s.heap.FunFrames X.base l := by
    intro l
    induction l with
    | nil => intro _ _; trivial
    | cons env r ih =>
      intro hs hl
      obtain ⟨hk, ⟨L, o, hf, hn, ho, hd⟩, hr⟩ := hl
      have hL : L ∈ X.fs := hs L (by unfold frs; rw [List.filterMap_cons, hf]; exact List.mem_cons_self)
      obtain ⟨sl, e⟩ := I.base.slot L o ho (I.ok.frf L hL) hL fun z => I.ok.exfs L z hL
      exact ⟨hk, ⟨L, _, hf, hn, e, hd⟩, ih (fun b hb => hs b (by unfold frs; rw [List.filterMap_cons, hf]; exact List.mem_cons_of_mem _ hb)) hr⟩
  exact all X.outer (fun _ hb => hb) I.ok.funs
theorem Inv.stack (I : Inv X pins σ H s) : s.heap.FunFrames X.base X.stack := by
  rcases I.ok.stk with e | ⟨e, hf⟩
  · rw [e]; exact I.funs
  · rw [e]
    obtain ⟨m, hn, _⟩ := I.loc
    refine .cons (by rw [I.ok.kind]; decide) hf hn ?_ I.funs
    exact Heap.get?_none_of_le (Nat.le_trans I.ok.bsz I.ok.above)
theorem Inv.stkSub (I : Inv X pins σ H s) : ∀ b ∈ frs X.stack, b ∈ X.env.locals :: X.fs := fun b hb => by
  rcases I.ok.stk with e | ⟨e, hf⟩
  · rw [e] at hb; exact List.mem_cons_of_mem _ hb
  · rw [e] at hb
    unfold frs at hb
    rw [List.filterMap_cons, hf] at hb
    exact hb
theorem Inv.stkFree (I : Inv X pins σ H s) : ∀ b ∈ frs X.stack, H b = none := fun b hb => by
  rcases List.mem_cons.mp (I.stkSub b hb) with e | hb
  · rw [e]; exact I.free
  · obtain ⟨_, o, ho, _⟩ := I.ok.funs.mem hb
    exact I.base.free b o ho (I.ok.frf b hb) fun z => I.ok.exfs b z hb
theorem Inv.step {g' : Array GenState} {t' : Nat} {d' : Drawn} {ch : List Addr} (I : Inv X pins σ H s)
    (hch : ∀ b ∈ ch, (b ∈ X.ex ∨ X.s₀.heap.objs.size ≤ b) ∧ b ≠ X.env.locals ∧ (∀ x c, X.env.cells.lookup x = some c → c ≠ b) ∧ ∀ p ∈ X.pn ++ pins, p.1 ≠ b)
    (keep : ∀ b o, b ≠ X.env.locals → b ∉ X.fs → b ∉ ch → s.heap.get? b = some o → H b = none → h'.get? b = some o)
    (slot : ∀ b o, b ≠ X.env.locals → b ∈ X.fs → b ∉ ch → s.heap.get? b = some o → H b = none → ∃ sl, h'.get? b = some { o with slots := sl }) (free : ∀ b o, b ∉ ch → s.heap.get? b = some o → H b = none → H' b = none)
    (there : ∀ b o, b ∉ ch → s.heap.get? b = some o → ∃ o', h'.get? b = some o')
    (tups : ∀ b xs, H b = some (.tup xs) → H' b = some (.tup xs)) (frzs : ∀ b o u, H b = some (.frz o u) → H' b = some (.frz o u)) (tbls : ∀ b ps, H b = some (.tbl ps) → ∃ more, H' b = some (.tbl (ps ++ more)))
    (ns : ∀ m, s.heap.Ns X.env.locals m → h'.Ns X.env.locals m) (hok : HOk X.prog X.w H' h') (hg : AllBare g') :
    Inv X pins σ H' { s with heap := h', gens := g', drawn := d', toks := t' } := by
  have neL : ∀ b o, X.s₀.heap.get? b = some o → b ≠ X.env.locals := fun b o e => Nat.ne_of_lt (Nat.lt_of_lt_of_le (Heap.lt_size e) I.ok.above)
  have neC : ∀ b o, X.s₀.heap.get? b = some o → b ∉ X.ex → b ∉ ch := fun b o e hx hb => by
    rcases (hch b hb).1 with z | z
    · exact hx z
    · exact absurd (Nat.lt_of_lt_of_le (Heap.lt_size e) z) (Nat.lt_irrefl _)
  have cellK : ∀ x c, X.env.cells.lookup x = some c → ∀ v, s.heap.IsCell c v → h'.IsCell c v := fun x c e v ⟨o, ho, hd⟩ => by
    have nch : c ∉ ch := fun z => (hch c z).2.2.1 x c e rfl
    by_cases hc : c ∈ X.fs
    · obtain ⟨sl, q⟩ := slot c o (I.cne x c e) hc nch ho (I.freeC x c e)
      exact ⟨_, q, hd⟩
    · exact ⟨o, keep c o (I.cne x c e) hc nch ho (I.freeC x c e), hd⟩
  refine ⟨I.ok, I.os, hg, ⟨fun b o e n hb hx => ?_, fun b o e n hb hx => ?_, fun b o e n hx => ?_, fun b o e hx => ?_, fun b xs e => tups b xs (I.base.tups b xs e), fun b o xs e => frzs b o xs (I.base.frzs b o xs e), fun b ps e => ?_⟩, ?_, fun x c e => ?_, ?_, fun x c e => ?_, fun p hp => ?_, hok, I.len⟩
  · exact keep b o (neL b o e) hb (neC b o e hx) (I.base.keep b o e n hb hx) (I.base.free b o e n hx)
  · obtain ⟨sl, e1⟩ := I.base.slot b o e n hb hx
    obtain ⟨sl', e2⟩ := slot b _ (neL b o e) hb (neC b o e hx) e1 (I.base.free b o e n hx)
    exact ⟨sl', e2⟩
  · obtain ⟨o', e1⟩ := I.base.there b o e hx
    exact free b o' (neC b o e hx) e1 (I.base.free b o e n hx)
  · obtain ⟨o', e1⟩ := I.base.there b o e hx
    exact there b o' (neC b o e hx) e1
  · obtain ⟨m1, e1⟩ := I.base.tbls b ps e
    obtain ⟨m2, e2⟩ := tbls b _ e1
    exact ⟨m1 ++ m2, by rw [e2, Array.append_assoc]⟩
  · obtain ⟨m, hn, hl⟩ := I.loc
    refine ⟨m, ns m hn, fun i x v e1 e2 e3 => ?_⟩
    obtain ⟨u, r, l⟩ := hl i x v e1 e2 e3
    refine ⟨u, r, ?_⟩
    rcases l with l | ⟨k, c, e, z⟩
    · exact .inl l
    · exact .inr ⟨k, c, e, cellK x c e _ z⟩
  · obtain ⟨v, z⟩ := I.cell x c e
    exact ⟨v, cellK x c e v z⟩
  · obtain ⟨m, ⟨o, _, _, ho, _⟩, _⟩ := I.loc
    exact free _ o (fun z => (hch _ z).2.1 rfl) ho I.free
  · obtain ⟨v, o, ho, hd⟩ := I.cell x c e
    exact free c o (fun z => (hch c z).2.2.1 x c e rfl) ho (I.freeC x c e)
  · obtain ⟨e, n, ne, nf, d⟩ := I.pin p hp
    have nch : p.1 ∉ ch := fun z => (hch p.1 z).2.2.2 p hp rfl
    exact ⟨keep p.1 p.2 ne nf nch e n, free p.1 p.2 nch e n, ne, nf, d⟩
theorem Inv.un {t' : Nat} (I : Inv X pins σ H s) (u : Un X.fs [] H H' s.heap h') (hok : HOk X.prog X.w H' h') : Inv X pins σ H' { s with heap := h', toks := t' } := by
  obtain ⟨m, ⟨o, es, ep, ho, r⟩, _⟩ := id I.loc
  obtain ⟨sl, hL⟩ := u.any ho I.free (by simp)
  exact I.step (g' := s.gens) (d' := s.drawn) (ch := []) (fun _ z => nomatch z) (fun b o _ hb _ e n => u.keep b o e n hb (by simp)) (fun b o _ hb _ e n => u.slot b o e n hb (by simp)) (fun b o _ e n => u.free b o e n (by simp)) (fun b o _ e => u.there b o e (by simp)) u.tups u.frzs u.tbls (fun m' hm => by
    obtain ⟨o', es', ep', ho', r'⟩ := hm
    rw [ho] at ho'; cases ho'
    exact ⟨_, es', ep', hL, r'⟩) hok I.bare
theorem Inv.call {g' : Array GenState} {t' : Nat} {d' : Drawn} {ch : List Addr} (I : Inv X pins σ H s) (u : Un (frs X.stack) ch H H' s.heap h') (hok : HOk X.prog X.w H' h') (hg : AllBare g')
    (hch : ∀ b ∈ ch, (b ∈ X.ex ∨ X.s₀.heap.objs.size ≤ b) ∧ b ≠ X.env.locals ∧ (∀ x c, X.env.cells.lookup x = some c → c ≠ b) ∧ ∀ p ∈ X.pn ++ pins, p.1 ≠ b) :
    Inv X pins σ H' { s with heap := h', gens := g', drawn := d', toks := t' } := by
  obtain ⟨m, ⟨o, es, ep, ho, r⟩, _⟩ := id I.loc
  obtain ⟨sl, hL⟩ := u.any ho I.free fun z => (hch _ z).2.1 rfl
  exact I.step (ch := ch) hch (fun b o hL hb hc e n => u.keep b o e n (fun z => (List.mem_cons.mp (I.stkSub b z)).elim hL hb) hc) (fun b o _ _ hc e n => u.any e n hc) (fun b o hc e n => u.free b o e n hc) (fun b o hc e => u.there b o e hc) u.tups u.frzs u.tbls (fun m' hm => by
    obtain ⟨o', es', ep', ho', r'⟩ := hm
    rw [ho] at ho'; cases ho'
    exact ⟨_, es', ep', hL, r'⟩) hok hg
theorem Inv.turned {t' : Nat} {it : Addr} (I : Inv X pins σ H s) (k : ∀ b o, b ≠ it → s.heap.get? b = some o → h'.get? b = some o) (hn : H it = none) (hL : it ≠ X.env.locals)
    (h1 : it ∈ X.ex ∨ X.s₀.heap.objs.size ≤ it) (h2 : ∀ x c, X.env.cells.lookup x = some c → c ≠ it) (h3 : ∀ p ∈ X.pn ++ pins, p.1 ≠ it) : Inv X pins σ H { s with heap := h', toks := t' } := by
  have nit : ∀ b u, H b = some u → b ≠ it := fun b u e z => by rw [z, hn] at e; cases e
  refine I.step (g' := s.gens) (d' := s.drawn) (ch := [it]) (fun b hb => ?_) (fun b o _ _ hc e _ => k b o (fun z => hc (by simp [z])) e) (fun b o _ _ hc e _ => ⟨o.slots, k b o (fun z => hc (by simp [z])) e⟩) (fun _ _ _ _ n => n)
    (fun b o hc e => ⟨o, k b o (fun z => hc (by simp [z])) e⟩) (fun _ _ e => e) (fun _ _ _ e => e) (fun b ps e => ⟨#[], by rw [e]; simp⟩) (fun m hm => ?_) (fun b u e => ?_) I.bare
  · have e : b = it := by simpa using hb
    subst e
    exact ⟨h1, hL, h2, h3⟩
  · obtain ⟨o, es, ep, ho, r⟩ := hm
    exact ⟨o, es, ep, k _ o (Ne.symm hL) ho, r⟩
  · refine (I.hok b u e).stay (fun c v hc q => k c v ?_ q) (fun _ q => q) fun _ _ q => q
    rcases hc with z | z
    · rw [z]; exact nit b u e
    · exact nit c _ z
theorem Inv.tok (I : Inv X pins σ H s) (t : Nat) : Inv X pins σ H { s with toks := t } := I.un (h' := s.heap) (t' := t) Un.refl I.hok
theorem Inv.kept {t' : Nat} (I : Inv X pins σ H s) (k : ∀ b u, s.heap.get? b = some u → h'.get? b = some u) : Inv X pins σ H { s with heap := h', toks := t' } := I.un (Un.kept k) (I.hok.kept k)
theorem Inv.laid {a : Addr} {o : HO} {t' : Nat} (I : Inv X pins σ H s) (k : ∀ b u, s.heap.get? b = some u → h'.get? b = some u) (hp : s.heap.objs.size ≤ a) (new : ObjOk X.prog X.w (upd H a o) h' a o) :
    Inv X pins σ (upd H a o) { s with heap := h', toks := t' } := I.un (Un.laid k hp (I.hok.fresh hp)) (I.hok.laid k hp new)
theorem Inv.write {x e : Addr} {o : HO} {t' : Nat} (I : Inv X pins σ H s) (mu : Mut (H x)) (he : e = x ∨ H e = some (.own x)) (k : ∀ b u, b ≠ e → s.heap.get? b = some u → h'.get? b = some u) (heo : ∃ u, h'.get? e = some u)
    (new : ObjOk X.prog X.w (upd H x o) h' x o) : Inv X pins σ (upd H x o) { s with heap := h', toks := t' } := I.un (Un.write mu he k heo) (I.hok.write mu he k heo new)
theorem Inv.weak {σ' : List (Option V)} (I : Inv X pins σ H s) (hl : σ'.length = σ.length) (w : ∀ (i : Nat) v, σ'[i]? = some (some v) → σ[i]? = some (some v)) : Inv X pins σ' H s :=
  ⟨I.ok, I.os, I.bare, I.base, let ⟨m, hn, hl'⟩ := I.loc; ⟨m, hn, fun i x v e1 e2 e3 => hl' i x v e1 (w i v e2) e3⟩, I.cell, I.free, I.freeC, I.pin, I.hok, hl.trans I.len⟩
theorem Inv.pins_of {pins' : List (Addr × Obj)} (I : Inv X pins σ H s) (h : ∀ p ∈ pins', s.heap.get? p.1 = some p.2 ∧ H p.1 = none ∧ p.1 ≠ X.env.locals ∧ p.1 ∉ X.fs ∧ ∀ v, p.2.data ≠ .cell v) : Inv X pins' σ H s :=
  ⟨I.ok, I.os, I.bare, I.base, I.loc, I.cell, I.free, I.freeC, fun p hp => (List.mem_append.mp hp).elim (fun z => I.pin p (List.mem_append_left _ z)) (h p), I.hok, I.len⟩
theorem nodup_ix {N : List Str} (hN : N.Nodup) {i j : Nat} {x : Str} (a : N[i]? = some x) (b : N[j]? = some x) : i = j := by
  obtain ⟨h1, e1⟩ := List.getElem?_eq_some_iff.mp a
  obtain ⟨h2, e2⟩ := List.getElem?_eq_some_iff.mp b
  exact (List.getElem_inj hN).mp (e1.trans e2.symm)
theorem store_ok2 {M : Model} {A : Around} {E : Value → Shared → Prop} {i : Nat} {x : Str} {v : V} {u : Value} {Q : Unit → Shared → Prop} (I : Inv X pins σ H s) (hN : X.N.Nodup) (hi : X.N[i]? = some x) (hx : Loc X.env.scope x) (r : RelV v u)
    (h : ∀ s', Inv X pins (σ.set i (some v)) H s' → (∃ a, Heap.SameBut a s.heap s'.heap ∧ (a = X.env.locals ∨ X.env.cells.lookup x = some a)) → Q () s') (hf : X.fn x = true ∨ X.env.scope.names.lookup x = some .local := by first | exact .inl rfl | exact .inr rfl | assumption) : wpAny M A (storeName X.env x u) Q E s := by
  obtain ⟨m, hn, hl⟩ := id I.loc
  have hcls : (X.env.scope.kind == .class || (X.env.scope.kind == .module && X.env.locals != X.env.globals)) = false := by rw [I.ok.kind]; rfl
  have hiσ : i < σ.length := by rw [I.len]; exact (List.getElem?_eq_some_iff.mp hi).1
  have cne := I.cne
  have tracked : ∀ {a : Addr} {h' : Heap}, (∃ o, s.heap.get? a = some o ∧ H a = none) → Heap.SameBut a s.heap h' → HOk X.prog X.w H h' := fun {a h'} ha hs b ob e => by
    obtain ⟨_, _, hfree⟩ := ha
    refine (I.hok b ob e).stay (fun c w' hc q => (hs.2 c ?_).trans q) (fun _ q => q) fun _ _ q => q
    rintro rfl
    rcases hc with rfl | hc
    · rw [hfree] at e; cases e
    · rw [hfree] at hc; cases hc
  rcases hx with hk | hk
  · refine wpAny_storeName_local hk hn (fun h' hn' hs => ?_) hcls
    obtain ⟨oL, _, _, hoL, _⟩ := id hn
    refine h _ ⟨I.ok, I.os, I.bare, ⟨fun b o e n hb hx => ?_, fun b o e n hb hx => ?_, I.base.free, fun b o e hx => ?_, I.base.tups, I.base.frzs, I.base.tbls⟩, ⟨_, hn', fun j y v' e1 e2 e3 => ?_⟩, fun y c e => ?_, I.free, I.freeC, fun p hp => ?_, tracked ⟨oL, hoL, I.free⟩ hs, by simpa using I.len⟩ ⟨_, hs, .inl rfl⟩
    · exact (hs.2 b (Nat.ne_of_lt (Nat.lt_of_lt_of_le (Heap.lt_size e) I.ok.above))).trans (I.base.keep b o e n hb hx)
    · obtain ⟨sl, e1⟩ := I.base.slot b o e n hb hx
      exact ⟨sl, (hs.2 b (Nat.ne_of_lt (Nat.lt_of_lt_of_le (Heap.lt_size e) I.ok.above))).trans e1⟩
    · obtain ⟨o', e1⟩ := I.base.there b o e hx
      exact ⟨o', (hs.2 b (Nat.ne_of_lt (Nat.lt_of_lt_of_le (Heap.lt_size e) I.ok.above))).trans e1⟩
    · by_cases hj : j = i
      · subst hj
        rw [hi] at e1; cases e1
        rw [List.getElem?_set_self hiσ] at e2
        cases e2
        exact ⟨u, r, .inl ⟨hk, by simp⟩⟩
      · rw [List.getElem?_set_ne (Ne.symm hj)] at e2
        obtain ⟨u', r', q⟩ := hl j y v' e1 e2 e3
        refine ⟨u', r', ?_⟩
        rcases q with ⟨k, e⟩ | ⟨k, c, e, z⟩
        · refine .inl ⟨k, ?_⟩
          have : y ≠ x := fun e => hj (nodup_ix hN e1 (e ▸ hi))
          simp [this, e]
        · exact .inr ⟨k, c, e, z.sameBut hs (cne y c e)⟩
    · obtain ⟨w', z⟩ := I.cell y c e
      exact ⟨w', z.sameBut hs (cne y c e)⟩
    · obtain ⟨e, n, ne, nf, d⟩ := I.pin p hp
      exact ⟨(hs.2 p.1 ne).trans e, n, ne, nf, d⟩
  · have hfn : X.fn x = true := by
      rcases hf with z | z
      · exact z
      · rw [z] at hk; cases hk
    obtain ⟨c, hc⟩ := I.ok.has x (.inl hk)
    obtain ⟨w', z⟩ := I.cell x c hc
    refine wpAny_storeName_cell I.ok.kind hk hc z (fun h' hc' hs => ?_)
    obtain ⟨oc, hoc, hocd⟩ := id z
    refine h { s with heap := h' } ⟨I.ok, I.os, I.bare, ⟨fun b o e n hb hx => ?_, fun b o e n hb hx => ?_, I.base.free, fun b o e hx => ?_, I.base.tups, I.base.frzs, I.base.tbls⟩, ⟨m, hn.sameBut hs (Ne.symm (cne x c hc)), fun j y v' e1 e2 e3 => ?_⟩, fun y c' e => ?_, I.free, I.freeC, fun p hp => ?_, tracked ⟨oc, hoc, I.freeC x c hc⟩ hs, by simpa using I.len⟩ ⟨c, hs, .inr hc⟩
    · exact (hs.2 b (Nat.ne_of_lt (Nat.lt_of_lt_of_le (Heap.lt_size e) (I.ok.cab x c hfn hc)))).trans (I.base.keep b o e n hb hx)
    · obtain ⟨sl, e1⟩ := I.base.slot b o e n hb hx
      exact ⟨sl, (hs.2 b (Nat.ne_of_lt (Nat.lt_of_lt_of_le (Heap.lt_size e) (I.ok.cab x c hfn hc)))).trans e1⟩
    · obtain ⟨o', e1⟩ := I.base.there b o e hx
      exact ⟨o', (hs.2 b (Nat.ne_of_lt (Nat.lt_of_lt_of_le (Heap.lt_size e) (I.ok.cab x c hfn hc)))).trans e1⟩
    · by_cases hj : j = i
      · subst hj
        rw [hi] at e1; cases e1
        rw [List.getElem?_set_self hiσ] at e2
        cases e2
        exact ⟨u, r, .inr ⟨.inl hk, c, hc, hc'⟩⟩
      · rw [List.getElem?_set_ne (Ne.symm hj)] at e2
        obtain ⟨u', r', q⟩ := hl j y v' e1 e2 e3
        refine ⟨u', r', ?_⟩
        rcases q with q | ⟨k, c', e, z'⟩
        · exact .inl q
        · refine .inr ⟨k, c', e, z'.sameBut hs ?_⟩
          rintro rfl
          exact hj (nodup_ix hN e1 (I.ok.inj _ _ _ e hc ▸ hi))
    · by_cases hcc : c' = c
      · subst hcc; exact ⟨_, hc'⟩
      · obtain ⟨w2, z2⟩ := I.cell y c' e
        exact ⟨w2, z2.sameBut hs hcc⟩
    · obtain ⟨e, n, ne, nf, d⟩ := I.pin p hp
      refine ⟨(hs.2 p.1 ?_).trans e, n, ne, nf, d⟩
      intro q
      rw [q, hoc] at e
      have q' : oc = p.2 := Option.some.inj e
      exact d w' (by rw [← q']; exact hocd)
theorem store_ok {M : Model} {A : Around} {E : Value → Shared → Prop} {i : Nat} {x : Str} {v : V} {u : Value} {Q : Unit → Shared → Prop} (I : Inv X pins σ H s) (hN : X.N.Nodup) (hi : X.N[i]? = some x) (hx : Loc X.env.scope x) (r : RelV v u)
    (h : ∀ s', Inv X pins (σ.set i (some v)) H s' → Q () s') (hf : X.fn x = true ∨ X.env.scope.names.lookup x = some .local := by first | exact .inl rfl | exact .inr rfl | assumption) : wpAny M A (storeName X.env x u) Q E s :=
  store_ok2 I hN hi hx r (fun s' I' _ => h s' I') hf
theorem Inv.call' {s' : Shared} {ch : List Addr} (I : Inv X pins σ H s) (ho : s'.os = s.os) (u : Un (frs X.stack) ch H H' s.heap s'.heap) (hok : HOk X.prog X.w H' s'.heap) (hg : AllBare s'.gens)
    (hch : ∀ b ∈ ch, (b ∈ X.ex ∨ X.s₀.heap.objs.size ≤ b) ∧ b ≠ X.env.locals ∧ (∀ x c, X.env.cells.lookup x = some c → c ≠ b) ∧ ∀ p ∈ X.pn ++ pins, p.1 ≠ b) : Inv X pins σ H' s' := by
  obtain ⟨h', g', d', t', o'⟩ := s'
  have e : o' = s.os := ho
  subst e
  exact I.call (g' := g') (t' := t') (d' := d') u hok hg hch
end
abbrev XK := Value → Option Addr → Hp → Prop
abbrev St := List (Option V)
abbrev VK := V → Hp → Prop
abbrev TE := St → Hp → VK → Prop
abbrev TT := St → Hp → (Bool → Hp → Prop) → Prop
abbrev TA := St → Hp → (List V → Hp → Prop) → Prop
structure Ends where
  nx : St → Hp → Prop
  rt : VK
  bk : St → Hp → Prop := fun _ _ => False
  ct : St → Hp → Prop := fun _ _ => False
abbrev TS := Ends → St → Hp → Prop
def EP (X : Cx) (pins : List (Addr × Obj)) (σ : St) (Q : VK) (u : Value) (s' : Shared) : Prop := ∃ v H', Inv X pins σ H' s' ∧ RelV v u ∧ Q v H'
def TP (X : Cx) (pins : List (Addr × Obj)) (σ : St) (Q : Bool → Hp → Prop) (b : Bool) (s' : Shared) : Prop := ∃ H', Inv X pins σ H' s' ∧ Q b H'
def AP (X : Cx) (pins : List (Addr × Obj)) (σ : St) (Q : List V → Hp → Prop) (us : List Value) (s' : Shared) : Prop := ∃ vs H', Inv X pins σ H' s' ∧ Vals vs us ∧ Q vs H'
def SP (X : Cx) (pins : List (Addr × Obj)) (D : Ends) (f : Flow) (s' : Shared) : Prop :=
  match f with
  | .next => ∃ σ' H', Inv X pins σ' H' s' ∧ D.nx σ' H'
  | .brk => ∃ σ' H', Inv X pins σ' H' s' ∧ D.bk σ' H'
  | .cont => ∃ σ' H', Inv X pins σ' H' s' ∧ D.ct σ' H'
  | .ret u => ∃ v σ' H', Inv X pins σ' H' s' ∧ RelV v u ∧ D.rt v H'
def PE (X : Cx) (e : Expr) (t : TE) : Prop :=
  ∀ (pins : List (Addr × Obj)) (s : Shared) (σ : St) (H : Hp) (Q : VK), Inv X pins σ H s → t σ H Q → wpAny (model X.prog X.w) X.A (eval e X.env) (EP X pins σ Q) X.xe s
def PT (X : Cx) (e : Expr) (t : TT) : Prop :=
  ∀ (pins : List (Addr × Obj)) (s : Shared) (σ : St) (H : Hp) (Q : Bool → Hp → Prop), Inv X pins σ H s → t σ H Q → wpAny (model X.prog X.w) X.A (isTrue e X.env (eval e X.env)) (TP X pins σ Q) X.xe s
def PW (X : Cx) (e : Expr) (t : TT) : Prop :=
  ∀ (whole : Sem Value) (pins : List (Addr × Obj)) (s : Shared) (σ : St) (H : Hp) (Q : Bool → Hp → Prop), Inv X pins σ H s → t σ H Q → wpAny (model X.prog X.w) X.A (isTrue e X.env whole) (TP X pins σ Q) X.xe s
theorem PW.pt {X : Cx} {e : Expr} {t : TT} (h : PW X e t) : PT X e t := h _
def PA (X : Cx) (es : List Expr) (t : TA) : Prop :=
  ∀ (pos : Pos) (pins : List (Addr × Obj)) (s : Shared) (σ : St) (H : Hp) (Q : List V → Hp → Prop), Inv X pins σ H s → t σ H Q → wpAny (model X.prog X.w) X.A (spliced (backTo pos (starEach es X.env))) (AP X pins σ Q) X.xe s
def PS (X : Cx) (st : Stmt) (t : TS) : Prop :=
  ∀ (pins : List (Addr × Obj)) (s : Shared) (σ : St) (H : Hp) (D : Ends), Inv X pins σ H s → t D σ H → wpAny (model X.prog X.w) X.A (exec st X.env) (SP X pins D) X.xe s
def PSs (X : Cx) (st : List Stmt) (t : TS) : Prop :=
  ∀ (pins : List (Addr × Obj)) (s : Shared) (σ : St) (H : Hp) (D : Ends), Inv X pins σ H s → t D σ H → wpAny (model X.prog X.w) X.A (execs st X.env) (SP X pins D) X.xe s
theorem thn {α : Type} {t : Sem α} {Q Q' : α → Shared → Prop} {M : Model} {A : Around} {E : Value → Shared → Prop} {s : Shared} (h : wpAny M A t Q E s) (hQ : ∀ a s, Q a s → Q' a s) : wpAny M A t Q' E s := wpAny_mono h hQ fun _ _ x => x
end L2
namespace L2
open PySem PySem.Spec PyProof.Rows
section
variable {X : Cx}
def tVar (i : Nat) : TE := fun σ H Q => ∃ v, σ[i]? = some (some v) ∧ Q v H
def tC (v : V) : TE := fun _ H Q => Q v H
theorem pe_var {i : Nat} {x : Str} {pos : Pos} (hN : X.N[i]? = some x) (hv : Vis X.env.scope x) (hd : (x == ("__debug__" : Str)) = false := by decide) (hcd : (x == ("__classdict__" : Str)) = false := by decide) : PE X (.Name x pos) (tVar i) := by
  intro pins s σ H Q I h
  obtain ⟨v, e, h⟩ := h
  obtain ⟨m, hn, hl⟩ := I.loc
  obtain ⟨u, r, l⟩ := hl i x v hN e hv
  have fin : EP X pins σ Q u s := ⟨v, H, I, r, h⟩
  rcases l with ⟨hk, hm⟩ | ⟨hk, c, hc, hcell⟩
  · exact wpAny_Name (wpAny_loadName_local I.ok.kind hk hn hm fin) hd
  · rcases hk with hk | hk
    · exact wpAny_Name (wpAny_loadName_cell I.ok.kind hk hc hcell fin) hd
    · exact wpAny_Name (wpAny_loadName_free I.ok.kind hk hc hcell fin hcd) hd
theorem pe_int {i j pos} : PE X (.Constant (.int i) j pos) (tC (.int i)) := fun _ _ _ H _ I h => wpAny_Constant_int ⟨.int i, H, I.tok _, ⟨_, rfl⟩, h⟩
theorem pe_bl {b j pos} : PE X (.Constant (.bool b) j pos) (tC (.bl b)) := fun _ _ _ H _ I h => Constant_bool ⟨.bl b, H, I, rfl, h⟩
theorem pe_non {j pos} : PE X (.Constant .none j pos) (tC .non) := fun _ _ _ H _ I h => Constant_none ⟨.non, H, I, rfl, h⟩
theorem pe_str {x j pos} : PE X (.Constant (.str x) j pos) (tC (.str x)) := fun _ _ _ H _ I h => Calls.Constant_str ⟨.str x, H, I.tok _, ⟨_, rfl⟩, h⟩
def Gl (X : Cx) (x : Str) : Prop := X.env.kindOf x = some .globalImplicit
theorem ld_glob {E : Value → Shared → Prop} {pins : List (Addr × Obj)} {s : Shared} {σ : St} {H : Hp} {x : Str} {u : Value} {pos : Pos} {Q : Value → Shared → Prop} (I : Inv X pins σ H s) (hg : Gl X x) (hm : X.mg x = some u) (h : Q u s)
    (hd : (x == ("__debug__" : Str)) = false := by decide) : wpAny (model X.prog X.w) X.A (eval (.Name x pos) X.env) Q E s :=
  Calls.Name_function_global I.ok.kind hg (Calls.loadGlobal_global (by rw [I.ok.glob]; exact I.mod.glob.keeps I.bk) hm h) hd
theorem ld_blt {E : Value → Shared → Prop} {pins : List (Addr × Obj)} {s : Shared} {σ : St} {H : Hp} {x : Str} {u : Value} {pos : Pos} {Q : Value → Shared → Prop} (I : Inv X pins σ H s) (hg : Gl X x) (hm : X.mg x = none) (hv : bootBuiltins x = some u) (h : Q u s)
    (hn : x ≠ "__name__" := by decide) (hd : (x == ("__debug__" : Str)) = false := by decide) : wpAny (model X.prog X.w) X.A (eval (.Name x pos) X.env) Q E s := by
  obtain ⟨mb, h1, h2⟩ := I.mod.blt
  exact Calls.Name_function_global I.ok.kind hg (Calls.loadGlobal_builtin (by rw [I.ok.glob]; exact I.mod.glob.keeps I.bk) hm (by rw [I.ok.blt]; exact h1.keeps I.bk) ((h2 x hn).trans hv) h) hd
theorem pe_glob {x : Str} {v : V} {u : Value} {pos : Pos} (hg : Gl X x) (hm : X.mg x = some u) (r : RelV v u) (hd : (x == ("__debug__" : Str)) = false := by decide) : PE X (.Name x pos) (tC v) :=
  fun _ _ _ H _ I h => ld_glob I hg hm ⟨v, H, I, r, h⟩ hd
theorem pe_bltn {x : Str} {v : V} {u : Value} {pos : Pos} (hg : Gl X x) (hm : X.mg x = none) (hv : bootBuiltins x = some u) (r : RelV v u) (hn : x ≠ "__name__" := by decide) (hd : (x == ("__debug__" : Str)) = false := by decide) : PE X (.Name x pos) (tC v) :=
  fun _ _ _ H _ I h => ld_blt I hg hm hv ⟨v, H, I, r, h⟩ hn hd
variable {a b : Expr} {ta tb : TE} {pos : Pos}
def tB (t : TE) : TT := fun σ H Q => t σ H fun x H1 => ∃ c, x = .bl c ∧ Q c H1
theorem pt_val {e : Expr} {t : TE} (h : PE X e t) (he : ∀ whole, isTrue e X.env whole = (do let v ← whole; standAt e.pos; holding [v] (truthy v)) := by intro _; rfl) : PT X e (tB t) := by
  intro pins s σ H Q I hw
  refine isTrue_plain (thn (h pins s σ H _ I hw) fun v s1 ⟨x, H1, I1, r1, q1⟩ => ?_) (he _)
  obtain ⟨d, rfl, q⟩ := q1
  cases r1
  exact wpAny_truthy_bool ⟨H1, I1, q⟩
variable {tA tB' : TT} {rest : List Expr}
def tAnd (t u : TT) : TT := fun σ H Q => t σ H fun c H1 => if c = true then u σ H1 Q else Q false H1
def tOr (t u : TT) : TT := fun σ H Q => t σ H fun c H1 => if c = true then Q true H1 else u σ H1 Q
def tNot (t : TT) : TT := fun σ H Q => t σ H fun c H1 => Q (!c) H1
theorem pw_and1 (ha : PT X a tA) : PW X (.BoolOp .And [a] pos) tA := by
  intro wh pins s σ H Q I h
  refine isTrue_and (thn (ha pins s σ H Q I h) fun c s1 e => ?_)
  cases c with
  | true => exact isTrue_and_nil e
  | false => exact e
theorem pw_or1 (ha : PT X a tA) : PW X (.BoolOp .Or [a] pos) tA := by
  intro wh pins s σ H Q I h
  refine isTrue_or (thn (ha pins s σ H Q I h) fun c s1 e => ?_)
  cases c with
  | false => exact isTrue_or_nil e
  | true => exact e
theorem pw_and (ha : PT X a tA) (hb : PW X (.BoolOp .And (b :: rest) pos) tB') : PW X (.BoolOp .And (a :: b :: rest) pos) (tAnd tA tB') := by
  intro wh pins s σ H Q I h
  refine isTrue_and (thn (ha pins s σ H _ I h) fun c s1 ⟨H1, I1, q1⟩ => ?_)
  cases c with
  | true => exact hb wh pins s1 σ H1 Q I1 q1
  | false => exact ⟨H1, I1, q1⟩
theorem pw_or (ha : PT X a tA) (hb : PW X (.BoolOp .Or (b :: rest) pos) tB') : PW X (.BoolOp .Or (a :: b :: rest) pos) (tOr tA tB') := by
  intro wh pins s σ H Q I h
  refine isTrue_or (thn (ha pins s σ H _ I h) fun c s1 ⟨H1, I1, q1⟩ => ?_)
  cases c with
  | true => exact ⟨H1, I1, q1⟩
  | false => exact hb wh pins s1 σ H1 Q I1 q1
theorem pt_not (ha : PT X a tA) : PT X (.UnaryOp .Not a pos) (tNot tA) := by
  intro pins s σ H Q I h
  exact isTrue_not (ha pins s σ H (fun c H1 => Q (!c) H1) I h)
def tAndV (ta tb : TE) : TE := fun σ H Q => ta σ H fun x H1 => ∃ c, x = .bl c ∧ if c = true then tb σ H1 Q else Q (.bl false) H1
def tNotV (ta : TE) : TE := fun σ H Q => ta σ H fun x H1 => ∃ c, x = .bl c ∧ Q (.bl (!c)) H1
theorem pe_one {op} {t : TE} (h : PE X a t) : PE X (.BoolOp op [a] pos) t := fun pins s σ H Q I hw => BoolOp_one (h pins s σ H Q I hw)
theorem pe_and (ha : PE X a ta) (hb : PE X (.BoolOp .And (b :: rest) pos) tb) : PE X (.BoolOp .And (a :: b :: rest) pos) (tAndV ta tb) := by
  intro pins s σ H Q I h
  refine BoolOp_and (thn (ha pins s σ H _ I h) fun v s1 ⟨x, H1, I1, r1, q1⟩ => ?_)
  obtain ⟨c, rfl, q1⟩ := q1
  cases r1
  refine wpAny_truthy_bool ?_
  cases c with
  | true => exact hb pins s1 σ H1 Q I1 q1
  | false => exact ⟨.bl false, H1, I1, rfl, q1⟩
theorem pe_not (ha : PE X a ta) : PE X (.UnaryOp .Not a pos) (tNotV ta) := by
  intro pins s σ H Q I h
  refine UnaryOp_ (thn (ha pins s σ H _ I h) fun v s1 ⟨x, H1, I1, r1, q1⟩ => ?_)
  obtain ⟨c, rfl, q1⟩ := q1
  cases r1
  exact not_of (wpAny_truthy_bool ⟨.bl (!c), H1, I1, rfl, q1⟩)
end
end L2
namespace L2
open PySem PySem.Spec PyProof.Rows
def SqL (K : PySem.W.Frag) (H : Hp) (a : Addr) (xs : List V) : Prop :=
  Rd H a (.lst xs) ∨
    ∃ (o : Obj) (its : Array Value) (n : Nat), K.lookup a = some o ∧ o.cls = .type "list" ∧ o.dict = none ∧ o.data = .seq its n ∧ its.size ≤ sizeLine ∧ Vals xs its.toList
def SqT (K : PySem.W.Frag) (H : Hp) (a : Addr) (xs : List V) : Prop :=
  Rd H a (.tup xs) ∨
    ∃ (o : Obj) (its : Array Value) (n : Nat), K.lookup a = some o ∧ o.cls = .type "tuple" ∧ o.data = .seq its n ∧ its.size ≤ sizeLine ∧ Vals xs its.toList
def absV : Value → Option V
  | .none => some .non
  | .bool b => some (.bl b)
  | .int i _ => some (.int i)
  | .str x _ => some (.str x)
  | .bytes b _ => some (.byt b)
  | .float b _ => some (.flt b)
  | .ref a => some (.ref a)
  | .type n => some (.ty n)
  | _ => none
theorem RelV.abs {x : V} {u : Value} (r : RelV x u) : absV u = some x := by
  cases x with
  | non => cases r; rfl
  | bl _ => cases r; rfl
  | int _ => obtain ⟨t, rfl⟩ := r; rfl
  | str _ => obtain ⟨t, rfl⟩ := r; rfl
  | byt _ => obtain ⟨t, rfl⟩ := r; rfl
  | flt _ => obtain ⟨t, rfl⟩ := r; rfl
  | ref _ => cases r; rfl
  | ty _ => cases r; rfl
theorem RelV.inj {x y : V} {u : Value} (r : RelV x u) (q : RelV y u) : x = y := Option.some.inj (r.abs.symm.trans q.abs)
theorem Vals.inj : ∀ {xs ys : List V} {us : List Value}, Vals xs us → Vals ys us → xs = ys
  | _, _, _, .nil, .nil => rfl
  | _, _, _, .cons r t, .cons r' t' => by rw [r.inj r', Vals.inj t t']
section
variable {X : Cx} {pins : List (Addr × Obj)} {σ : St} {H : Hp} {s : Shared} {a : Addr} {xs ys : List V}
theorem SqL.of {K : PySem.W.Frag} (h : H a = some (.lst xs)) : SqL K H a xs := .inl (.inl h)
theorem SqT.of {K : PySem.W.Frag} (h : H a = some (.tup xs)) : SqT K H a xs := .inl (.inl h)
theorem Inv.list (I : Inv X pins σ H s) (h : SqL X.K H a xs) : ∃ its : List Value, Vals xs its ∧ PlainL s.heap a its.toArray ∧ xs.length ≤ sizeLine := by
  rcases h with h | ⟨o, its, n, hk, hc, hd, hs, hz, r⟩
  · obtain ⟨z, its, n, r, e⟩ := h.ok I.hok
    exact ⟨its, r, ⟨_, n, e, rfl, rfl, rfl⟩, z⟩
  · refine ⟨its.toList, r, ⟨o, n, I.kIn a o hk, hc, hd, by simpa using hs⟩, ?_⟩
    have e := r.length
    simp only [Array.length_toList] at e
    omega
theorem Inv.tuple (I : Inv X pins σ H s) (h : SqT X.K H a xs) : ∃ its : List Value, Vals xs its ∧ IsTup s.heap a its.toArray ∧ xs.length ≤ sizeLine := by
  rcases h with h | ⟨o, its, n, hk, hc, hs, hz, r⟩
  · obtain ⟨z, its, r, p⟩ := h.ok I.hok
    exact ⟨its, r, p, z⟩
  · refine ⟨its.toList, r, ⟨o, I.kIn a o hk, hc, n, by simpa using hs⟩, ?_⟩
    have e := r.length
    simp only [Array.length_toList] at e
    omega
theorem Inv.list_inj (I : Inv X pins σ H s) (h : SqL X.K H a xs) (h' : SqL X.K H a ys) : xs = ys := by
  obtain ⟨its, r, ⟨o, n, e, _, _, d⟩, _⟩ := I.list h
  obtain ⟨its', r', ⟨o', n', e', _, _, d'⟩, _⟩ := I.list h'
  rw [e] at e'; cases e'
  rw [d] at d'
  injection d' with d1 _
  have : its = its' := by simpa using congrArg Array.toList d1
  subst this
  exact r.inj r'
theorem Inv.tuple_inj (I : Inv X pins σ H s) (h : SqT X.K H a xs) (h' : SqT X.K H a ys) : xs = ys := by
  obtain ⟨its, r, ⟨o, e, _, n, d⟩, _⟩ := I.tuple h
  obtain ⟨its', r', ⟨o', e', _, n', d'⟩, _⟩ := I.tuple h'
  rw [e] at e'; cases e'
  rw [d] at d'
  injection d' with d1 _
  have : its = its' := by simpa using congrArg Array.toList d1
  subst this
  exact r.inj r'
end
abbrev Cx.wish (X : Cx) (E : Value → Shared → Prop) : Cx := { X with xe := E }
abbrev Cx.nox (X : Cx) : Cx := X.wish fun _ _ => False
theorem Cx.Ok.wish {X : Cx} (ok : X.Ok) (E : Value → Shared → Prop) : (X.wish E).Ok :=
  ⟨ok.mod, ok.kind, ok.glob, ok.blt, ok.above, ok.inj, ok.has, ok.cab, ok.hd, ok.frames, ok.stk, ok.exf, ok.bs, ok.bsz, ok.noex, ok.exfs, ok.funs, ok.frf⟩
theorem Cx.Ok.unwish {X : Cx} {E : Value → Shared → Prop} (ok : (X.wish E).Ok) : X.Ok :=
  ⟨ok.mod, ok.kind, ok.glob, ok.blt, ok.above, ok.inj, ok.has, ok.cab, ok.hd, ok.frames, ok.stk, ok.exf, ok.bs, ok.bsz, ok.noex, ok.exfs, ok.funs, ok.frf⟩
section
variable {X : Cx} {pins : List (Addr × Obj)} {σ : St} {H : Hp} {s : Shared} {E : Value → Shared → Prop}
theorem Inv.wish (I : Inv X pins σ H s) (E : Value → Shared → Prop) : Inv (X.wish E) pins σ H s := ⟨I.ok.wish E, I.os, I.bare, I.base, I.loc, I.cell, I.free, I.freeC, I.pin, I.hok, I.len⟩
theorem Inv.unwish (I : Inv (X.wish E) pins σ H s) : Inv X pins σ H s := ⟨I.ok.unwish, I.os, I.bare, I.base, I.loc, I.cell, I.free, I.freeC, I.pin, I.hok, I.len⟩
theorem SP.unwish {D : Ends} {f : Flow} {s' : Shared} (h : SP (X.wish E) pins D f s') : SP X pins D f s' := by
  cases f with
  | next => obtain ⟨σ', H', I, q⟩ := h; exact ⟨σ', H', I.unwish, q⟩
  | brk => obtain ⟨σ', H', I, q⟩ := h; exact ⟨σ', H', I.unwish, q⟩
  | cont => obtain ⟨σ', H', I, q⟩ := h; exact ⟨σ', H', I.unwish, q⟩
  | ret u => obtain ⟨v, σ', H', I, r, q⟩ := h; exact ⟨v, σ', H', I.unwish, r, q⟩
theorem PSs.nox {st : List Stmt} {t : TS} (h : PSs X.nox st t) : PSs X st t := fun pins s σ H D I hw =>
  wpAny_mono (h pins s σ H D (I.wish _) hw) (fun _ _ q => q.unwish) fun _ _ z => False.elim z
end
section
variable {X : Cx} {st : Stmt} {rest : List Stmt} {t u : TS} {e : Expr} {te : TE} {pos : Pos}
def tNext : TS := fun D σ H => D.nx σ H
def tSeq (t u : TS) : TS := fun D σ H => t { D with nx := u D } σ H
theorem pss_nil : PSs X [] tNext := fun _ _ σ H _ I h => wpAny_execs_nil ⟨σ, H, I, h⟩
theorem pss_cons (h1 : PS X st t) (h2 : PSs X rest u) : PSs X (st :: rest) (tSeq t u) := by
  intro pins s σ H D I h
  refine wpAny_execs_cons (thn (h1 pins s σ H { D with nx := u D } I h) fun f s1 q => ?_)
  cases f with
  | next =>
    obtain ⟨σ', H', I', q⟩ := q
    exact h2 pins s1 σ' H' D I' q
  | ret v => exact q
  | brk => exact q
  | cont => exact q
theorem pss_one (h1 : PS X st t) : PSs X [st] t := by
  intro pins s σ H D I h
  refine wpAny_execs_cons (thn (h1 pins s σ H D I h) fun f s1 q => ?_)
  cases f with
  | next => exact wpAny_execs_nil q
  | ret v => exact q
  | brk => exact q
  | cont => exact q
theorem Inv.quiet {pins : List (Addr × Obj)} {σ : St} {H : Hp} {s : Shared} (I : Inv X pins σ H s) : interactive X.env = false := by simp [interactive, I.ok.kind]
def tDrop (te : TE) : TS := fun D σ H => te σ H fun _ H1 => D.nx σ H1
theorem ps_expr (he : PE X e te) (hs : swapsWith e none pos.line X.env = pure false := by rfl) : PS X (.Expr e pos) (tDrop te) := by
  intro pins s σ H D I h
  exact wpAny_Expr_any (thn (he pins s σ H _ I h) fun v s1 ⟨x, H1, I1, r1, q1⟩ => ⟨σ, H1, I1, q1⟩) I.quiet hs
def tRet (te : TE) : TS := fun D σ H => te σ H D.rt
theorem ps_ret (he : PE X e te) : PS X (.Return (some e) pos) (tRet te) := by
  intro pins s σ H D I h
  exact wpAny_Return_some (thn (he pins s σ H _ I h) fun v s1 ⟨x, H1, I1, r1, q1⟩ => ⟨x, σ, H1, I1, r1, q1⟩)
def tIfS (c : TT) (t u : TS) : TS := fun D σ H => c σ H fun b H1 => if b = true then t D σ H1 else u D σ H1
theorem ps_if {c : Expr} {a b : List Stmt} {tc : TT} (hc : PT X c tc) (ha : PSs X a t) (hb : PSs X b u) : PS X (.If c a b pos) (tIfS tc t u) := by
  intro pins s σ H D I h
  refine wpAny_If (thn (hc pins s σ H _ I h) fun d s1 ⟨H1, I1, q1⟩ => ?_)
  cases d with
  | true => exact ha pins s1 σ H1 D I1 q1
  | false => exact hb pins s1 σ H1 D I1 q1
def tNever : TS := fun _ _ _ => False
theorem pss_never {sts : List Stmt} : PSs X sts tNever := fun _ _ _ _ _ _ h => h.elim
end
abbrev TG := V → St → Hp → (St → Hp → Prop) → Prop
def PG (X : Cx) (target : Expr) (t : TG) : Prop :=
  ∀ (pins : List (Addr × Obj)) (s : Shared) (σ : St) (H : Hp) (v : V) (u : Value) (Q : St → Hp → Prop), Inv X pins σ H s → RelV v u → t v σ H Q →
    wpAny (model X.prog X.w) X.A (assign target X.env u) (fun _ s' => ∃ σ' H', Inv X pins σ' H' s' ∧ Q σ' H') X.xe s
section
variable {X : Cx} {pos : Pos}
def gName (i : Nat) : TG := fun v σ H Q => Q (σ.set i (some v)) H
theorem pg_name {i : Nat} {x : Str} (hN : X.N.Nodup) (hi : X.N[i]? = some x) (hx : Loc X.env.scope x) (hf : X.fn x = true ∨ X.env.scope.names.lookup x = some .local := by first | exact .inl rfl | exact .inr rfl | assumption) : PG X (.Name x pos) (gName i) := by
  intro pins s σ H v u Q I r h
  exact wpAny_assign_Name (store_ok I hN hi hx r (fun s' I' => ⟨_, H, I', h⟩) hf)
def tAsg (te : TE) (g : TG) : TS := fun D σ H => te σ H fun x H1 => g x σ H1 D.nx
theorem ps_set {i : Nat} {x : Str} {e : Expr} {te : TE} {pos' : Pos} (hN : X.N.Nodup) (hi : X.N[i]? = some x) (hx : Loc X.env.scope x) (he : PE X e te) (hs : swapsWith e (some (.Name x pos')) pos.line X.env = pure false := by rfl) (hf : X.fn x = true ∨ X.env.scope.names.lookup x = some .local := by first | exact .inl rfl | exact .inr rfl | assumption) :
    PS X (.Assign [.Name x pos'] e pos) (tAsg te (gName i)) := by
  intro pins s σ H D I h
  refine wpAny_Assign_Name (thn (he pins s σ H _ I h) fun v s1 ⟨y, H1, I1, r1, q1⟩ => ?_) hs
  exact store_ok I1 hN hi hx r1 (fun s2 I2 => ⟨_, H1, I2, q1⟩) hf
end
section
variable {X : Cx} {pos : Pos}
end
structure It where
  go : Nat → Hp → Prop
  yld : Nat → Hp → V → Hp → Prop
  stop : Nat → Hp → Prop
def FpOk (X : Cx) (pins : List (Addr × Obj)) (H : Hp) (b : Addr) : Prop :=
  H b = none ∧ b ≠ X.env.locals ∧ b ∉ X.fs ∧ (b ∈ X.ex ∨ X.s₀.heap.objs.size ≤ b) ∧ (∀ x c, X.env.cells.lookup x = some c → c ≠ b) ∧ ∀ p ∈ X.pn ++ pins, p.1 ≠ b
theorem Inv.fpOk {X : Cx} {pins : List (Addr × Obj)} {σ : St} {H H' : Hp} {s : Shared} {b : Addr} (I : Inv X pins σ H s) (hb : s.heap.objs.size ≤ b) (hn : H' b = none) : FpOk X pins H' b := by
  refine ⟨hn, Nat.ne_of_gt (Nat.lt_of_lt_of_le I.lt hb), I.nofs hb, .inr (Nat.le_trans I.sz hb), fun x c e z => ?_, fun p hp z => ?_⟩
  · obtain ⟨v, q⟩ := I.cell x c e
    exact absurd (Nat.lt_of_lt_of_le q.lt (by rw [z]; exact hb)) (Nat.lt_irrefl _)
  · exact absurd (Nat.lt_of_lt_of_le (Heap.lt_size (I.pin p hp).1) (by rw [z]; exact hb)) (Nat.lt_irrefl _)
structure Turn (P : Program) (w : World) (K : PySem.W.Frag) (tg : Expr) (J : It) (fp : List Addr) (it : Addr) (tn : Nat → Heap → Prop) : Prop where
  mem : it ∈ fp
  obj : ∀ i h, tn i h → ∀ b ∈ fp, ∃ o, h.get? b = some o ∧ ∀ v, o.data ≠ .cell v
  keep : ∀ i h h', tn i h → (∀ b ∈ fp, ∀ o, h.get? b = some o → h'.get? b = some o) → tn i h'
  item : ∀ (X : Cx), X.prog = P → X.w = w → X.K = K → X.calm = true → ∀ (i : Nat) (pins : List (Addr × Obj)) (s : Shared) (σ : St) (H : Hp) (E : Value → Shared → Prop), Inv X pins σ H s → (∀ b ∈ fp, FpOk X pins H b) → tn i s.heap → J.go i H →
    wpAny (model P w) X.A (pyNext (.ref it)) (fun r s1 => ∃ u, r = some u ∧
      wpAny (model P w) X.A (letOwnedTupleGo tg (.ref it) u) (fun _ s2 => ∃ x H', Inv X pins σ H' s2 ∧ RelV x u ∧ J.yld i H x H' ∧ tn (i + 1) s2.heap ∧ ∀ b ∈ fp, H' b = none) E s1) E s
  done : ∀ (X : Cx), X.prog = P → X.w = w → X.K = K → X.calm = true → ∀ (i : Nat) (pins : List (Addr × Obj)) (s : Shared) (σ : St) (H : Hp) (E : Value → Shared → Prop), Inv X pins σ H s → (∀ b ∈ fp, FpOk X pins H b) → tn i s.heap → J.stop i H →
    wpAny (model P w) X.A (pyNext (.ref it)) (fun r s1 => r = none ∧ Inv X pins σ H s1) E s
  self : ∀ (A : Around) (i : Nat) (s : Shared) (Q : Value → Shared → Prop) (E : Value → Shared → Prop), tn i s.heap → Q (.ref it) s → wpAny (model P w) A (pyIter (.ref it)) Q E s
abbrev TI := St → Hp → (It → Hp → Prop) → Prop
def PIE (X : Cx) (pins : List (Addr × Obj)) (σ : St) (tg : Expr) (R : It → Hp → Prop) (itv : Value) (s2 : Shared) : Prop :=
  ∃ (it : Addr) (fp : List Addr) (tn : Nat → Heap → Prop) (J : It) (H' : Hp), itv = .ref it ∧ Inv X pins σ H' s2 ∧ Turn X.prog X.w X.K tg J fp it tn ∧ tn 0 s2.heap ∧ (∀ b ∈ fp, FpOk X pins H' b) ∧ R J H'
def PI (X : Cx) (tg iter : Expr) (wi : TI) : Prop :=
  ∀ (pins : List (Addr × Obj)) (s : Shared) (σ : St) (H : Hp) (R : It → Hp → Prop), Inv X pins σ H s → wi σ H R →
    wpAny (model X.prog X.w) X.A (eval iter X.env) (fun v s1 => wpAny (model X.prog X.w) X.A (pyIter v) (PIE X pins σ tg R) X.xe s1) X.xe s
theorem go_of {M : Model} {A : Around} {E : Value → Shared → Prop} {s : Shared} {tg : Expr} {it : Addr} {u : Value} {o : Obj} {n : String} {vs : Array Value} {Q : Unit → Shared → Prop} (ho : s.heap.get? it = some o) (hc : o.cls = .type n) (hd : o.data = .fields vs)
    (hn : ["enumerate", "zip", "dict_itemiterator", "dict_reverseitemiterator", "odict_iterator", "itertools.zip_longest", "itertools.pairwise"].contains n = false) (hQ : Q () s) : wpAny M A (letOwnedTupleGo tg (.ref it) u) Q E s := by
  unfold letOwnedTupleGo
  cases tg <;> first
    | exact wpAny_pure hQ
    | (cases u <;> first
        | exact wpAny_pure hQ
        | (refine wpAny_bind (wpAny_load ho ?_)
           rw [hc, hd]
           show wpAny M A (if (["enumerate", "zip", "dict_itemiterator", "dict_reverseitemiterator", "odict_iterator", "itertools.zip_longest", "itertools.pairwise"].contains n && vs[0]? == some (rawInt _)) = true then _ else _) Q E s
           rw [if_neg (by intro h; rw [hn, Bool.false_and] at h; cases h)]
           exact wpAny_pure hQ))
def Itl (K : PySem.W.Frag) (a : Addr) : It :=
  ⟨fun i H => ∃ xs x, SqL K H a xs ∧ xs[i]? = some x, fun i H x H' => H' = H ∧ ∀ xs, SqL K H a xs → xs[i]? = some x, fun i H => ∃ xs, SqL K H a xs ∧ xs.length ≤ i⟩
def Itt (K : PySem.W.Frag) (a : Addr) : It :=
  ⟨fun i H => ∃ xs x, SqT K H a xs ∧ xs[i]? = some x, fun i H x H' => H' = H ∧ ∀ xs, SqT K H a xs → xs[i]? = some x, fun i H => ∃ xs, SqT K H a xs ∧ xs.length ≤ i⟩
def Itr (lo : Int) (n : Nat) : It := ⟨fun i _ => i < n, fun i H x H' => H' = H ∧ x = .int (lo + i), fun i _ => n ≤ i⟩
theorem turn_list {P : Program} {w : World} {K : PySem.W.Frag} {tg : Expr} (a it : Addr) : Turn P w K tg (Itl K a) [it] it (fun i h => h.IsListIter it a i) where
  mem := by simp
  obj := fun i h st b hb => by
    have e : b = it := by simpa using hb
    subst e
    obtain ⟨o, e, c, d⟩ := st
    exact ⟨o, e, fun v z => by rw [d] at z; cases z⟩
  keep := fun i h h' st k => st.at fun o e => k it (by simp) o e
  item := by
    intro X hP hw hK hc i pins s σ H E I hf st hg
    subst hP hw hK
    obtain ⟨xs, x, hq, hx⟩ := hg
    obtain ⟨its, rv, p, hz⟩ := I.list hq
    obtain ⟨u, hu, ru⟩ := rv.get hx
    obtain ⟨f0, f1, f2, f3, f4, f5⟩ := hf it (by simp)
    refine wpAny_pyNext_list_item st p.isList (x := u) (by simpa using hu) fun h' st' sb => ?_
    have I1 : Inv X pins σ H { s with heap := h' } := I.turned (t' := s.toks) (fun b o hb e => (sb.2 b hb).trans e) f0 f1 f3 f4 f5
    obtain ⟨o, e, c, d⟩ := id st'
    exact ⟨u, rfl, go_of (s := { s with heap := h' }) e c d (by decide) ⟨x, H, I1, ru, ⟨rfl, fun ys hy => by rw [I.list_inj hy hq]; exact hx⟩, st', fun b hb => (hf b hb).1⟩⟩
  done := by
    intro X hP hw hK hc i pins s σ H E I hf st hg
    subst hP hw hK
    obtain ⟨xs, hq, hx⟩ := hg
    obtain ⟨its, rv, p, hz⟩ := I.list hq
    obtain ⟨f0, f1, f2, f3, f4, f5⟩ := hf it (by simp)
    have hl := rv.length
    exact wpAny_pyNext_list_end (I.ok.hd hc) st p.isList (by simp; omega) fun h' eb => ⟨rfl, I.turned (t' := s.toks) (fun b o hb e => eb b o hb e) f0 f1 f3 f4 f5⟩
  self := fun _ _ _ _ _ st h => wpAny_pyIter_listiter st h
theorem turn_tuple {P : Program} {w : World} {K : PySem.W.Frag} {tg : Expr} (a it : Addr) : Turn P w K tg (Itt K a) [it] it (fun i h => h.IsTupleIter it a i) where
  mem := by simp
  obj := fun i h st b hb => by
    have e : b = it := by simpa using hb
    subst e
    obtain ⟨o, e, c, d⟩ := st
    exact ⟨o, e, fun v z => by rw [d] at z; cases z⟩
  keep := fun i h h' st k => st.at fun o e => k it (by simp) o e
  item := by
    intro X hP hw hK hc i pins s σ H E I hf st hg
    subst hP hw hK
    obtain ⟨xs, x, hq, hx⟩ := hg
    obtain ⟨its, rv, p, hz⟩ := I.tuple hq
    obtain ⟨u, hu, ru⟩ := rv.get hx
    obtain ⟨f0, f1, f2, f3, f4, f5⟩ := hf it (by simp)
    refine wpAny_pyNext_tuple_item st (show s.heap.IsTuple a its.toArray from p) (x := u) (by simpa using hu) fun h' st' sb => ?_
    have I1 : Inv X pins σ H { s with heap := h' } := I.turned (t' := s.toks) (fun b o hb e => (sb.2 b hb).trans e) f0 f1 f3 f4 f5
    obtain ⟨o, e, c, d⟩ := id st'
    exact ⟨u, rfl, go_of (s := { s with heap := h' }) e c d (by decide) ⟨x, H, I1, ru, ⟨rfl, fun ys hy => by rw [I.tuple_inj hy hq]; exact hx⟩, st', fun b hb => (hf b hb).1⟩⟩
  done := by
    intro X hP hw hK hc i pins s σ H E I hf st hg
    subst hP hw hK
    obtain ⟨xs, hq, hx⟩ := hg
    obtain ⟨its, rv, p, hz⟩ := I.tuple hq
    obtain ⟨f0, f1, f2, f3, f4, f5⟩ := hf it (by simp)
    have hl := rv.length
    exact wpAny_pyNext_tuple_end (I.ok.hd hc) st (show s.heap.IsTuple a its.toArray from p) (by simp; omega) fun h' eb => ⟨rfl, I.turned (t' := s.toks) (fun b o hb e => eb b o hb e) f0 f1 f3 f4 f5⟩
  self := fun _ _ _ _ _ st h => wpAny_pyIter_tupleiter st h
theorem turn_range {P : Program} {w : World} {K : PySem.W.Frag} {tg : Expr} (it : Addr) (lo : Int) (n : Nat) : Turn P w K tg (Itr lo n) [it] it (fun i h => IsRangeIter h it (lo + (i : Nat) * 1) ((n : Int) - (i : Nat)) 1) where
  mem := by simp
  obj := fun i h st b hb => by
    have e : b = it := by simpa using hb
    subst e
    exact ⟨_, st, fun v z => by
      have z' : Data.fields _ = Data.cell v := z
      cases z'⟩
  keep := fun i h h' st k => k it (by simp) _ st
  item := by
    intro X hP hw hK hc i pins s σ H E I hf st hg
    subst hP hw hK
    obtain ⟨f0, f1, f2, f3, f4, f5⟩ := hf it (by simp)
    have W := Walks.range (prog := X.prog) (w := X.w) (I.ok.hd hc) it lo 1 n
    refine W.item i s _ _ hg st fun v h' tk hv st' kk => ?_
    obtain ⟨t, rfl⟩ := hv
    have I1 : Inv X pins σ H { s with heap := h', toks := tk } := I.turned (fun b o hb e => kk b o (by simpa using hb) e) f0 f1 f3 f4 f5
    refine ⟨_, rfl, go_of (s := { s with heap := h', toks := tk }) (n := "range_iterator") st' rfl rfl (by decide) ⟨.int (lo + i), H, I1, ⟨t, ?_⟩, ⟨rfl, rfl⟩, st', fun b hb => (hf b hb).1⟩⟩
    rw [Int.mul_one]
  done := by
    intro X hP hw hK hc i pins s σ H E I hf st hg
    subst hP hw hK
    obtain ⟨f0, f1, f2, f3, f4, f5⟩ := hf it (by simp)
    exact wpAny_pyNext_range_end (I.ok.hd hc) st (by have : n ≤ i := hg; omega) fun h' eb => ⟨rfl, I.turned (t' := s.toks) (fun b o hb e => eb b o hb e) f0 f1 f3 f4 f5⟩
  self := fun _ _ _ _ _ st h => wpAny_pyIter_rangeiter st h
end L2
namespace L2
open PySem PySem.Spec PyProof.Rows
section
variable {X : Cx} {tg : Expr}
def iList (K : PySem.W.Frag) (tl : TE) : TI := fun σ H R => tl σ H fun x H1 => ∃ a, x = .ref a ∧ (∃ xs, SqL K H1 a xs) ∧ R (Itl K a) H1
def iTup (K : PySem.W.Frag) (tl : TE) : TI := fun σ H R => tl σ H fun x H1 => ∃ a, x = .ref a ∧ (∃ xs, SqT K H1 a xs) ∧ R (Itt K a) H1
theorem pi_list {l : Expr} {tl : TE} (hl : PE X l tl) : PI X tg l (iList X.K tl) := by
  intro pins s σ H R I h
  refine thn (hl pins s σ H _ I h) fun v s1 ⟨x, H1, I1, r1, q1⟩ => ?_
  obtain ⟨a, e, ⟨xs, hq⟩, q⟩ := q1
  subst e
  cases r1
  obtain ⟨its, rv, p, hz⟩ := I1.list hq
  refine wpAny_pyIter_list p.isList ?_
  refine ⟨s1.heap.objs.size, [s1.heap.objs.size], _, _, H1, rfl, I1.kept (t' := s1.toks) fun b o e => Heap.get?_push_of_some _ e, turn_list a _, ⟨_, Heap.get?_push_size _ rfl, rfl, rfl⟩, fun b hb => ?_, q⟩
  have e : b = s1.heap.objs.size := by simpa using hb
  subst e
  exact I1.fpOk (Nat.le_refl _) (I1.hok.fresh (Nat.le_refl _))
theorem pi_tup {l : Expr} {tl : TE} (hl : PE X l tl) : PI X tg l (iTup X.K tl) := by
  intro pins s σ H R I h
  refine thn (hl pins s σ H _ I h) fun v s1 ⟨x, H1, I1, r1, q1⟩ => ?_
  obtain ⟨a, e, ⟨xs, hq⟩, q⟩ := q1
  subst e
  cases r1
  obtain ⟨its, rv, p, hz⟩ := I1.tuple hq
  refine wpAny_pyIter_tuple (show s1.heap.IsTuple a its.toArray from p) ?_
  refine ⟨s1.heap.objs.size, [s1.heap.objs.size], _, _, H1, rfl, I1.kept (t' := s1.toks) fun b o e => Heap.get?_push_of_some _ e, turn_tuple a _, ⟨_, Heap.get?_push_size _ rfl, rfl, rfl⟩, fun b hb => ?_, q⟩
  have e : b = s1.heap.objs.size := by simpa using hb
  subst e
  exact I1.fpOk (Nat.le_refl _) (I1.hok.fresh (Nat.le_refl _))
theorem range_it {pins : List (Addr × Obj)} {σ : St} {H : Hp} {s : Shared} {R : It → Hp → Prop} {E : Value → Shared → Prop} {lo hi : Int} {t u v : Tok} {tk : Nat} (I : Inv X pins σ H s) (h1 : -(2 ^ 62) ≤ lo) (h2 : lo < 2 ^ 62) (h3 : -(2 ^ 62) ≤ hi) (h4 : hi < 2 ^ 62)
    (q : R (Itr lo (hi - lo).toNat) H) : wpAny (model X.prog X.w) X.A (pyIter (.ref s.heap.objs.size)) (PIE X pins σ tg R) E { s with heap := s.heap.push { cls := .type "range", data := .fields #[.int lo t, .int hi u, .int 1 v] }, toks := tk } := by
  refine wpAny_pyIter_range (IsRange.new ..) (small_one h1 h2 h3 h4) ?_
  have I1 : Inv X pins σ H { s with heap := s.heap.push { cls := .type "range", data := .fields #[.int lo t, .int hi u, .int 1 v] }, toks := tk } := I.kept fun b o e => Heap.get?_push_of_some _ e
  refine ⟨(s.heap.push { cls := .type "range", data := .fields #[.int lo t, .int hi u, .int 1 v] }).objs.size, [(s.heap.push { cls := .type "range", data := .fields #[.int lo t, .int hi u, .int 1 v] }).objs.size], _, _, H, rfl,
    I1.kept (t' := tk) fun b o e => Heap.get?_push_of_some _ e, turn_range _ lo (hi - lo).toNat, ?_, fun b hb => ?_, q⟩
  · have e1 : lo + ((0 : Nat) : Int) * 1 = lo := by simp
    have e2 : (((hi - lo).toNat : Nat) : Int) - ((0 : Nat) : Int) = Builtin.Range.rangeSize lo hi 1 := by rw [rangeSize_one]; split <;> omega
    show IsRangeIter _ _ (lo + ((0 : Nat) : Int) * 1) ((((hi - lo).toNat : Nat) : Int) - ((0 : Nat) : Int)) 1
    rw [e1, e2]
    exact Heap.get?_push_size _ rfl
  · have e : b = (s.heap.push { cls := .type "range", data := .fields #[.int lo t, .int hi u, .int 1 v] }).objs.size := by simpa using hb
    subst e
    exact I1.fpOk (Nat.le_refl _) (I1.hok.fresh (Nat.le_refl _))
def iRng1 (ta : TA) : TI := fun σ H R => ta σ H fun vs H1 => ∃ j : Int, vs = [.int j] ∧ -(2 ^ 62) ≤ j ∧ j < 2 ^ 62 ∧ R (Itr 0 j.toNat) H1
theorem pi_range1 {a : Expr} {ta : TA} {p pos : Pos} (hg : Gl X "range") (hm : X.mg "range" = none) (ha : PA X [a] ta) (hs : starEach [a] X.env = [(false, eval a X.env)] := by rfl) : PI X tg (.Call (.Name "range" p) [a] [] pos) (iRng1 ta) := by
  intro pins s σ H R I h
  refine Call_ (ld_blt I hg hm boot_range (PyProof.Rows.callWith_type1 (thn (ha pos pins s σ H _ I h) fun us s1 ⟨vs, H1, I1, r1, q1⟩ => ?_) hs rfl))
  obtain ⟨j, e, q1, q2, q⟩ := q1
  subst e
  cases r1 with
  | cons r rr =>
    cases rr
    obtain ⟨t, rfl⟩ := r
    exact call_range_1 (range_it I1 (by omega) (by omega) q1 q2 (by simpa using q))
def tFor (wi : TI) (g : TG) (tb : TS) : TS := fun D σ H => wi σ H fun J H1 => ∃ W : Nat → Nat → St → Hp → Prop, (∃ m, W 0 m σ H1) ∧ ∀ i m σ H, W i m σ H →
  (J.stop i H ∧ D.nx σ H) ∨ (J.go i H ∧ ∃ N : St → Hp → Prop, (∀ σ' H', N σ' H' → ∃ m', m' < m ∧ W (i + 1) m' σ' H') ∧ ∀ x H', J.yld i H x H' → g x σ H' fun σ2 H2 => tb { D with nx := N, ct := N, bk := D.nx } σ2 H2)
def pinsAt (fp : List Addr) (h : Heap) : List (Addr × Obj) := fp.filterMap fun b => (h.get? b).map fun o => (b, o)
theorem mem_pinsAt {fp : List Addr} {h : Heap} {b : Addr} {o : Obj} (hb : b ∈ fp) (e : h.get? b = some o) : (b, o) ∈ pinsAt fp h := List.mem_filterMap.mpr ⟨b, hb, by rw [e]; rfl⟩
theorem of_pinsAt {fp : List Addr} {h : Heap} {p : Addr × Obj} (hp : p ∈ pinsAt fp h) : p.1 ∈ fp ∧ h.get? p.1 = some p.2 := by
  obtain ⟨b, hb, e⟩ := List.mem_filterMap.mp hp
  cases q : h.get? b with
  | none => rw [q] at e; cases e
  | some o =>
    rw [q] at e
    have e' : (b, o) = p := Option.some.inj e
    subst e'
    exact ⟨hb, q⟩
theorem Inv.pinned {pins : List (Addr × Obj)} {σ : St} {H : Hp} {s : Shared} {fp : List Addr} (I : Inv X pins σ H s) (hf : ∀ b ∈ fp, FpOk X pins H b) (ho : ∀ b ∈ fp, ∃ o, s.heap.get? b = some o ∧ ∀ v, o.data ≠ .cell v) : Inv X (pins ++ pinsAt fp s.heap) σ H s :=
  I.pins_of fun p hp => (List.mem_append.mp hp).elim (fun z => I.pin p (List.mem_append_right _ z)) fun z => by
    obtain ⟨hb, e⟩ := of_pinsAt z
    obtain ⟨f0, f1, f2, _⟩ := hf p.1 hb
    obtain ⟨o, e', d⟩ := ho p.1 hb
    rw [e] at e'; cases e'
    exact ⟨e, f0, f1, f2, d⟩
theorem Inv.unpinned {pins pl : List (Addr × Obj)} {σ : St} {H : Hp} {s : Shared} (I : Inv X (pins ++ pl) σ H s) : Inv X pins σ H s := I.pins_of fun p hp => I.pin p (List.mem_append_right _ (List.mem_append_left _ hp))
theorem ps_for {iter : Expr} {body : List Stmt} {wi : TI} {g : TG} {tb : TS} {pos : Pos} (hp : PassesOwn (model X.prog X.w) X.A X.env X.xe) (hc : X.calm = true) (hi : PI X tg iter wi) (hg : PG X tg g) (hb : PSs X body tb)
    (hs : ∀ x, foldedSetIterable iter X.env x = pure x := by intro _; rfl) : PS X (.For tg iter body [] pos) (tFor wi g tb) := by
  intro pins s σ H D I h
  refine wpAny_For (thn (hi pins s σ H _ I h) fun v s1 h1 => thn h1 fun itv s2 h2 => ?_) hs
  obtain ⟨it, fp, tn, J, H2, e, I2, T, st2, f2, W, ⟨m0, w0⟩, turn⟩ := h2
  subst e
  have stat : ∀ {H' : Hp}, (∀ b ∈ fp, H' b = none) → ∀ b ∈ fp, FpOk X pins H' b := fun hn b hb => ⟨hn b hb, (f2 b hb).2⟩
  refine codeAny_forLoop_any (fun n s' => ∃ i σ' H', Inv X pins σ' H' s' ∧ tn i s'.heap ∧ (∀ b ∈ fp, H' b = none) ∧ W i n σ' H') ?_ m0 ⟨0, σ, H2, I2, st2, fun b hb => (f2 b hb).1, w0⟩
  rintro n s3 ⟨i, σ3, H3, I3, st3, fr3, w3⟩
  rcases turn i n σ3 H3 w3 with ⟨stop, qn⟩ | ⟨go, N, hN, step⟩
  · refine wpAny_passesOwn hp (thn (T.done X rfl rfl rfl hc i pins s3 σ3 H3 X.xe I3 (stat fr3) st3 stop) fun r s4 ⟨hr, I4⟩ => ?_)
    subst hr
    exact wpAny_execs_nil ⟨σ3, H3, I4, qn⟩
  · refine wpAny_passesOwn hp (thn (T.item X rfl rfl rfl hc i pins s3 σ3 H3 X.xe I3 (stat fr3) st3 go) fun r s4 ⟨u, hr, h4⟩ => ?_)
    subst hr
    refine wpAny_passesOwn hp (thn h4 fun _ s5 ⟨x, H5, I5, r5, y5, st5, fr5⟩ => ?_)
    have I5' := I5.pinned (stat fr5) (T.obj _ _ st5)
    refine wpAny_passesOwn hp (thn (hg _ s5 σ3 H5 x u _ I5' r5 (step x H5 y5)) fun _ s6 ⟨σ6, H6, I6, q6⟩ => ?_)
    refine wpAny_passesOwn hp (thn (hb _ s6 σ6 H6 _ I6 q6) fun f s7 q7 => ?_)
    have again : ∀ {σ7 : St} {H7 : Hp}, Inv X (pins ++ pinsAt fp s5.heap) σ7 H7 s7 → N σ7 H7 → ∃ m, m < n ∧ ∃ i σ' H', Inv X pins σ' H' s7 ∧ tn i s7.heap ∧ (∀ b ∈ fp, H' b = none) ∧ W i m σ' H' := fun {σ7 H7} I7 n7 => by
      obtain ⟨m', hm, w7⟩ := hN σ7 H7 n7
      refine ⟨m', hm, i + 1, σ7, H7, I7.unpinned, T.keep _ _ _ st5 fun b hb o e => (I7.pin (b, o) (List.mem_append_right _ (List.mem_append_right _ (mem_pinsAt hb e)))).1, fun b hb => ?_, w7⟩
      obtain ⟨o, e, d⟩ := T.obj _ _ st5 b hb
      exact (I7.pin (b, o) (List.mem_append_right _ (List.mem_append_right _ (mem_pinsAt hb e)))).2.1
    cases f with
    | next => obtain ⟨σ7, H7, I7, n7⟩ := q7; exact again I7 n7
    | cont => obtain ⟨σ7, H7, I7, n7⟩ := q7; exact again I7 n7
    | brk => obtain ⟨σ7, H7, I7, q7⟩ := q7; exact ⟨σ7, H7, I7.unpinned, q7⟩
    | ret v => obtain ⟨x7, σ7, H7, I7, r7, q7⟩ := q7; exact ⟨x7, σ7, H7, I7.unpinned, r7, q7⟩
end
theorem for_list {K : PySem.W.Frag} {a : Addr} {xs : List V} {g : TG} {tb : TS} {D : Ends} {σ : St} {H : Hp} (Pv : Nat → St → Hp → Prop) (h0 : Pv 0 σ H) (hl : ∀ i σ H, i ≤ xs.length → Pv i σ H → SqL K H a xs)
    (hs : ∀ i x σ H, xs[i]? = some x → Pv i σ H → g x σ H fun σ2 H2 => tb { D with nx := Pv (i + 1), ct := Pv (i + 1), bk := D.nx } σ2 H2) (hd : ∀ σ H, Pv xs.length σ H → D.nx σ H) :
    ∃ W : Nat → Nat → St → Hp → Prop, (∃ m, W 0 m σ H) ∧ ∀ i m σ H, W i m σ H →
      ((Itl K a).stop i H ∧ D.nx σ H) ∨ ((Itl K a).go i H ∧ ∃ N : St → Hp → Prop, (∀ σ' H', N σ' H' → ∃ m', m' < m ∧ W (i + 1) m' σ' H') ∧ ∀ x H', (Itl K a).yld i H x H' → g x σ H' fun σ2 H2 => tb { D with nx := N, ct := N, bk := D.nx } σ2 H2) := by
  refine ⟨fun i m σ H => m = xs.length - i ∧ i ≤ xs.length ∧ Pv i σ H, ⟨xs.length, by simp, Nat.zero_le _, h0⟩, ?_⟩
  rintro i m σ H ⟨rfl, hi, p⟩
  have q := hl i σ H hi p
  by_cases hlt : i < xs.length
  · refine .inr ⟨⟨xs, xs[i], q, by simp [hlt]⟩, Pv (i + 1), fun σ' H' p' => ⟨xs.length - (i + 1), by omega, rfl, hlt, p'⟩, fun x H' y => ?_⟩
    obtain ⟨e, y⟩ := y
    subst e
    exact hs i x σ _ (y xs q) p
  · have e : i = xs.length := by omega
    subst e
    exact .inl ⟨⟨xs, q, Nat.le_refl _⟩, hd σ H p⟩
theorem for_tup {K : PySem.W.Frag} {a : Addr} {xs : List V} {g : TG} {tb : TS} {D : Ends} {σ : St} {H : Hp} (Pv : Nat → St → Hp → Prop) (h0 : Pv 0 σ H) (hl : ∀ i σ H, i ≤ xs.length → Pv i σ H → SqT K H a xs)
    (hs : ∀ i x σ H, xs[i]? = some x → Pv i σ H → g x σ H fun σ2 H2 => tb { D with nx := Pv (i + 1), ct := Pv (i + 1), bk := D.nx } σ2 H2) (hd : ∀ σ H, Pv xs.length σ H → D.nx σ H) :
    ∃ W : Nat → Nat → St → Hp → Prop, (∃ m, W 0 m σ H) ∧ ∀ i m σ H, W i m σ H →
      ((Itt K a).stop i H ∧ D.nx σ H) ∨ ((Itt K a).go i H ∧ ∃ N : St → Hp → Prop, (∀ σ' H', N σ' H' → ∃ m', m' < m ∧ W (i + 1) m' σ' H') ∧ ∀ x H', (Itt K a).yld i H x H' → g x σ H' fun σ2 H2 => tb { D with nx := N, ct := N, bk := D.nx } σ2 H2) := by
  refine ⟨fun i m σ H => m = xs.length - i ∧ i ≤ xs.length ∧ Pv i σ H, ⟨xs.length, by simp, Nat.zero_le _, h0⟩, ?_⟩
  rintro i m σ H ⟨rfl, hi, p⟩
  have q := hl i σ H hi p
  by_cases hlt : i < xs.length
  · refine .inr ⟨⟨xs, xs[i], q, by simp [hlt]⟩, Pv (i + 1), fun σ' H' p' => ⟨xs.length - (i + 1), by omega, rfl, hlt, p'⟩, fun x H' y => ?_⟩
    obtain ⟨e, y⟩ := y
    subst e
    exact hs i x σ _ (y xs q) p
  · have e : i = xs.length := by omega
    subst e
    exact .inl ⟨⟨xs, q, Nat.le_refl _⟩, hd σ H p⟩
theorem for_range {lo : Int} {n : Nat} {g : TG} {tb : TS} {D : Ends} {σ : St} {H : Hp} (Pv : Nat → St → Hp → Prop) (h0 : Pv 0 σ H)
    (hs : ∀ i σ H, i < n → Pv i σ H → g (.int (lo + i)) σ H fun σ2 H2 => tb { D with nx := Pv (i + 1), ct := Pv (i + 1), bk := D.nx } σ2 H2) (hd : ∀ σ H, Pv n σ H → D.nx σ H) :
    ∃ W : Nat → Nat → St → Hp → Prop, (∃ m, W 0 m σ H) ∧ ∀ i m σ H, W i m σ H →
      ((Itr lo n).stop i H ∧ D.nx σ H) ∨ ((Itr lo n).go i H ∧ ∃ N : St → Hp → Prop, (∀ σ' H', N σ' H' → ∃ m', m' < m ∧ W (i + 1) m' σ' H') ∧ ∀ x H', (Itr lo n).yld i H x H' → g x σ H' fun σ2 H2 => tb { D with nx := N, ct := N, bk := D.nx } σ2 H2) := by
  refine ⟨fun i m σ H => m = n - i ∧ i ≤ n ∧ Pv i σ H, ⟨n, by simp, Nat.zero_le _, h0⟩, ?_⟩
  rintro i m σ H ⟨rfl, hi, p⟩
  by_cases hlt : i < n
  · refine .inr ⟨hlt, Pv (i + 1), fun σ' H' p' => ⟨n - (i + 1), by omega, rfl, hlt, p'⟩, fun x H' y => ?_⟩
    obtain ⟨e, y⟩ := y
    subst e y
    exact hs i σ _ hlt p
  · have e : i = n := by omega
    subst e
    exact .inl ⟨Nat.le_refl _, hd σ H p⟩
end L2
namespace L2
open PySem PySem.Spec PyProof.Rows
abbrev R2 := V → V → Hp → VK → Prop
def OpR (X : Cx) (f : Value → Value → Sem Value) (r : R2) : Prop :=
  ∀ (pins : List (Addr × Obj)) (s : Shared) (σ : St) (H : Hp) (x y : V) (v u : Value) (Q : VK), Inv X pins σ H s → RelV x v → RelV y u → r x y H Q →
    wpAny (model X.prog X.w) X.A (f v u) (EP X pins σ Q) X.xe s
def CallR (X : Cx) (f : Value) (r : List V → Hp → VK → Prop) : Prop :=
  ∀ (pins : List (Addr × Obj)) (s : Shared) (σ : St) (H : Hp) (xs : List V) (us : List Value) (Q : VK), Inv X pins σ H s → Vals xs us → r xs H Q →
    wpAny (model X.prog X.w) X.A (call f us) (EP X pins σ Q) X.xe s
def tOp (r : R2) (ta tb : TE) : TE := fun σ H Q => ta σ H fun x H1 => tb σ H1 fun y H2 => r x y H2 Q
def rI (C : Int → Int → Prop) (g : Int → Int → V) : R2 := fun x y H Q => ∃ i j, x = .int i ∧ y = .int j ∧ C i j ∧ Q (g i j) H
def rI0 (g : Int → Int → V) : R2 := fun x y H Q => ∃ i j, x = .int i ∧ y = .int j ∧ Q (g i j) H
section
variable {X : Cx} {a b c : Expr} {ta tb tc : TE} {pos : Pos}
theorem binT (ha : PE X a ta) (hb : PE X b tb) {pins : List (Addr × Obj)} {s : Shared} {σ : St} {H : Hp} {R : V → V → Hp → Prop} (I : Inv X pins σ H s)
    (h : ta σ H fun x H1 => tb σ H1 fun y H2 => R x y H2) {Q : Value → Shared → Prop} {f : Value → Value → Sem Value}
    (hf : ∀ v u s2 x y H2, Inv X pins σ H2 s2 → RelV x v → RelV y u → R x y H2 → wpAny (model X.prog X.w) X.A (f v u) Q X.xe s2) :
    wpAny (model X.prog X.w) X.A (eval a X.env) (fun v s₁ => wpAny (model X.prog X.w) X.A (eval b X.env) (fun u s₂ => wpAny (model X.prog X.w) X.A (f v u) Q X.xe s₂) X.xe s₁) X.xe s := by
  refine thn (ha pins s σ H _ I h) fun v s1 ⟨x, H1, I1, r1, q1⟩ => ?_
  refine thn (hb pins s1 σ H1 _ I1 q1) fun u s2 ⟨y, H2, I2, r2, q2⟩ => ?_
  exact hf v u s2 x y H2 I2 r1 r2 q2
theorem pe_op {op : Operator} {r : R2} (ho : OpR X (binaryOp op) r) (ha : PE X a ta) (hb : PE X b tb) : PE X (.BinOp a op b pos) (tOp r ta tb) := by
  intro pins s σ H Q I h
  exact wpAny_BinOp (binT ha hb I h fun v u s2 x y H2 I2 rx ry q => ho pins s2 σ H2 x y v u Q I2 rx ry q)
theorem opI {f : Value → Value → Sem Value} {C : Int → Int → Prop} {g : Int → Int → Int}
    (rule : ∀ (i j : Int) (t u : Tok) (s : Shared) (Q : Value → Shared → Prop) (E : Value → Shared → Prop), C i j → Q (.int (g i j) s.toks) { s with toks := s.toks + 1 } → wpAny (model X.prog X.w) X.A (f (.int i t) (.int j u)) Q E s) :
    OpR X f (rI C fun i j => .int (g i j)) := by
  intro pins s σ H x y v u Q I rx ry h
  obtain ⟨i, j, rfl, rfl, hc, q⟩ := h
  obtain ⟨t, rfl⟩ := rx
  obtain ⟨t', rfl⟩ := ry
  exact rule i j t t' s _ _ hc ⟨.int (g i j), H, I.tok _, ⟨_, rfl⟩, q⟩
theorem opI0 {f : Value → Value → Sem Value} {g : Int → Int → Int}
    (rule : ∀ (i j : Int) (t u : Tok) (s : Shared) (Q : Value → Shared → Prop) (E : Value → Shared → Prop), Q (.int (g i j) s.toks) { s with toks := s.toks + 1 } → wpAny (model X.prog X.w) X.A (f (.int i t) (.int j u)) Q E s) :
    OpR X f (rI0 fun i j => .int (g i j)) := by
  intro pins s σ H x y v u Q I rx ry h
  obtain ⟨i, j, rfl, rfl, q⟩ := h
  obtain ⟨t, rfl⟩ := rx
  obtain ⟨t', rfl⟩ := ry
  exact rule i j t t' s _ _ ⟨.int (g i j), H, I.tok _, ⟨_, rfl⟩, q⟩
theorem opB0 {f : Value → Value → Sem Value} {g : Int → Int → Bool}
    (rule : ∀ (i j : Int) (t u : Tok) (s : Shared) (Q : Value → Shared → Prop) (E : Value → Shared → Prop), Q (.bool (g i j)) s → wpAny (model X.prog X.w) X.A (f (.int i t) (.int j u)) Q E s) :
    OpR X f (rI0 fun i j => .bl (g i j)) := by
  intro pins s σ H x y v u Q I rx ry h
  obtain ⟨i, j, rfl, rfl, q⟩ := h
  obtain ⟨t, rfl⟩ := rx
  obtain ⟨t', rfl⟩ := ry
  exact rule i j t t' s _ _ ⟨.bl (g i j), H, I, rfl, q⟩
def CDiv (i j : Int) : Prop := 0 < j ∧ j < 1073741824
def CPow (i j : Int) : Prop := 0 ≤ j ∧ j ≤ 1000000 ∧ i.natAbs < 2 ^ 64
def CMul (i j : Int) : Prop := (-(2 ^ 64) < i ∧ i < 2 ^ 64) ∨ (-(2 ^ 64) < j ∧ j < 2 ^ 64)
theorem CMul.ok {i j : Int} (h : CMul i j) : IntMulOk i j := by
  rcases h with ⟨h1, h2⟩ | ⟨h1, h2⟩
  · exact .of_left (intBits_le_64 h1 h2)
  · exact .of_right (intBits_le_64 h1 h2)
theorem op_add : OpR X (binaryOp .Add) (rI0 fun i j => .int (i + j)) := opI0 fun _ _ _ _ _ _ _ q => add_int q
theorem op_sub : OpR X (binaryOp .Sub) (rI0 fun i j => .int (i - j)) := opI0 fun _ _ _ _ _ _ _ q => sub_int q
theorem op_mul : OpR X (binaryOp .Mult) (rI CMul fun i j => .int (i * j)) := opI fun _ _ _ _ _ _ _ hc q => mul_int q hc.ok
theorem op_fdiv : OpR X (binaryOp .FloorDiv) (rI CDiv fun i j => .int (i / j)) := opI fun i j _ _ _ _ _ hc q => by
  have h1 : (0 : Int) < j := hc.1
  have h2 : j < 1073741824 := hc.2
  exact floordiv_int (by omega) (by rw [Int.fdiv_eq_ediv_of_nonneg i (by omega)]; exact q) (.inl (PyProof.noPylong_small (by omega)))
theorem op_mod : OpR X (binaryOp .Mod) (rI (fun _ j => 0 < j) fun i j => .int (i % j)) := opI fun i j _ _ _ _ _ hc q => by
  have h1 : (0 : Int) < j := hc
  exact mod_int' (by omega) (by rw [Int.fmod_eq_emod_of_nonneg i (by omega)]; exact q)
theorem op_pow : OpR X (binaryOp .Pow) (rI CPow fun i j => .int (i ^ j.toNat)) := opI fun _ _ _ _ _ _ _ hc q => pow_int_small hc.1 hc.2.1 hc.2.2 q
end
def scal : V → V → Bool
  | .non, .non => true | .non, .int _ => true | .int _, .non => true | .non, .bl _ => true | .bl _, .non => true | .non, .str _ => true | .str _, .non => true
  | .int _, .int _ => true | .bl _, .bl _ => true | .str _, .str _ => true | .byt _, .byt _ => true
  | .int _, .str _ => true | .str _, .int _ => true | .bl _, .str _ => true | .str _, .bl _ => true
  | _, _ => false
def rEq : R2 := fun x y H Q => scal x y = true ∧ Q (.bl (decide (x = y))) H
def rNe : R2 := fun x y H Q => scal x y = true ∧ Q (.bl (!decide (x = y))) H
theorem dec_int {i j : Int} : decide (V.int i = V.int j) = (i == j) := by
  rw [Bool.eq_iff_iff]
  simp
theorem dec_bl {i j : Bool} : decide (V.bl i = V.bl j) = (i == j) := by
  rw [Bool.eq_iff_iff]
  simp
theorem dec_str {i j : Str} : decide (V.str i = V.str j) = (i == j) := by
  rw [Bool.eq_iff_iff]
  simp
theorem dec_byt {i j : Array UInt8} : decide (V.byt i = V.byt j) = (i.toList == j.toList) := by
  rw [Bool.eq_iff_iff]
  cases i
  cases j
  simp
section
variable {X : Cx} {a b c : Expr} {ta tb tc : TE} {pos : Pos}
theorem fin_bl {pins : List (Addr × Obj)} {σ : St} {H : Hp} {s : Shared} {Q : VK} {k k' : Bool} (I : Inv X pins σ H s) (q : Q (.bl k) H) (e : k = k') : EP X pins σ Q (.bool k') s := by
  subst e
  exact ⟨.bl k, H, I, rfl, q⟩
theorem op_eq : OpR X (compareOp .Eq) rEq := by
  intro pins s σ H x y v u Q I rx ry h
  obtain ⟨hs, q⟩ := h
  cases x with
  | non =>
    cases rx
    cases y with
    | non => cases ry; exact PySem.EqNone.eq_none_none (fin_bl I q (by simp))
    | bl j => cases ry; exact PySem.EqNone.eq_none_bool (fin_bl I q (by simp))
    | int j => obtain ⟨t', rfl⟩ := ry; exact PySem.EqNone.eq_none_int (fin_bl I q (by simp))
    | str j => obtain ⟨t', rfl⟩ := ry; exact PySem.EqNone.eq_none_str (fin_bl I q (by simp))
    | _ => exact absurd (show false = true from hs) Bool.false_ne_true
  | bl i =>
    cases rx
    cases y with
    | non => cases ry; exact PySem.EqNone.eq_bool_none (fin_bl I q (by simp))
    | bl j => cases ry; exact eq_bool (fin_bl I q dec_bl)
    | str j => obtain ⟨t', rfl⟩ := ry; exact PySem.EqMixed.eq_bool_str (fin_bl I q (by simp))
    | _ => exact absurd (show false = true from hs) Bool.false_ne_true
  | int i =>
    obtain ⟨t, rfl⟩ := rx
    cases y with
    | non => cases ry; exact PySem.EqNone.eq_int_none (fin_bl I q (by simp))
    | int j => obtain ⟨t', rfl⟩ := ry; exact eq_int (fin_bl I q dec_int)
    | str j => obtain ⟨t', rfl⟩ := ry; exact PySem.EqMixed.eq_int_str (fin_bl I q (by simp))
    | _ => exact absurd (show false = true from hs) Bool.false_ne_true
  | str i =>
    obtain ⟨t, rfl⟩ := rx
    cases y with
    | non => cases ry; exact PySem.EqNone.eq_str_none (fin_bl I q (by simp))
    | bl j => cases ry; exact PySem.EqMixed.eq_str_bool (fin_bl I q (by simp))
    | int j => obtain ⟨t', rfl⟩ := ry; exact PySem.EqMixed.eq_str_int (fin_bl I q (by simp))
    | str j => obtain ⟨t', rfl⟩ := ry; exact eq_str (fin_bl I q dec_str)
    | _ => exact absurd (show false = true from hs) Bool.false_ne_true
  | byt i =>
    obtain ⟨t, rfl⟩ := rx
    cases y with
    | byt j => obtain ⟨t', rfl⟩ := ry; exact PySem.W.eq_bytes (fin_bl I q dec_byt)
    | _ => exact absurd (show false = true from hs) Bool.false_ne_true
  | _ => cases y <;> exact absurd (show false = true from hs) Bool.false_ne_true
theorem op_ne : OpR X (compareOp .NotEq) rNe := by
  intro pins s σ H x y v u Q I rx ry h
  obtain ⟨hs, q⟩ := h
  cases x with
  | non =>
    cases rx
    cases y with
    | non => cases ry; exact PySem.EqNone.ne_none_none (fin_bl I q (by simp))
    | bl j => cases ry; exact PySem.EqNone.ne_none_bool (fin_bl I q (by simp))
    | int j => obtain ⟨t', rfl⟩ := ry; exact PySem.EqNone.ne_none_int (fin_bl I q (by simp))
    | str j => obtain ⟨t', rfl⟩ := ry; exact PySem.EqNone.ne_none_str (fin_bl I q (by simp))
    | _ => exact absurd (show false = true from hs) Bool.false_ne_true
  | bl i =>
    cases rx
    cases y with
    | non => cases ry; exact PySem.EqNone.ne_bool_none (fin_bl I q (by simp))
    | bl j => cases ry; exact ne_bool (fin_bl I q (congrArg not dec_bl))
    | str j => obtain ⟨t', rfl⟩ := ry; exact PySem.EqMixed.ne_bool_str (fin_bl I q (by simp))
    | _ => exact absurd (show false = true from hs) Bool.false_ne_true
  | int i =>
    obtain ⟨t, rfl⟩ := rx
    cases y with
    | non => cases ry; exact PySem.EqNone.ne_int_none (fin_bl I q (by simp))
    | int j => obtain ⟨t', rfl⟩ := ry; exact ne_int (fin_bl I q (congrArg not dec_int))
    | str j => obtain ⟨t', rfl⟩ := ry; exact PySem.EqMixed.ne_int_str (fin_bl I q (by simp))
    | _ => exact absurd (show false = true from hs) Bool.false_ne_true
  | str i =>
    obtain ⟨t, rfl⟩ := rx
    cases y with
    | non => cases ry; exact PySem.EqNone.ne_str_none (fin_bl I q (by simp))
    | bl j => cases ry; exact PySem.EqMixed.ne_str_bool (fin_bl I q (by simp))
    | int j => obtain ⟨t', rfl⟩ := ry; exact PySem.EqMixed.ne_str_int (fin_bl I q (by simp))
    | str j => obtain ⟨t', rfl⟩ := ry; exact ne_str (fin_bl I q (congrArg not dec_str))
    | _ => exact absurd (show false = true from hs) Bool.false_ne_true
  | byt i =>
    obtain ⟨t, rfl⟩ := rx
    cases y with
    | byt j => obtain ⟨t', rfl⟩ := ry; exact PySem.W.ne_bytes (fin_bl I q (congrArg not dec_byt))
    | _ => exact absurd (show false = true from hs) Bool.false_ne_true
  | _ => cases y <;> exact absurd (show false = true from hs) Bool.false_ne_true
theorem op_lt : OpR X (compareOp .Lt) (rI0 fun i j => .bl (decide (i < j))) := opB0 fun _ _ _ _ _ _ _ q => lt_int q
theorem op_gt : OpR X (compareOp .Gt) (rI0 fun i j => .bl (decide (j < i))) := opB0 fun _ _ _ _ _ _ _ q => gt_int q
theorem op_isN : OpR X (compareOp .Is) (fun x y H Q => y = .non ∧ Q (.bl (decide (x = .non))) H) := by
  intro pins s σ H x y v u Q I rx ry h
  obtain ⟨rfl, q⟩ := h
  cases ry
  refine is_none_gen (fin_bl I q ?_)
  cases x <;> first
    | (cases rx; rfl)
    | (obtain ⟨t, rfl⟩ := rx; rfl)
theorem nomark (b : Expr) {op : CmpOp} (h : op ≠ .In := by decide) (h2 : op ≠ .NotIn := by decide) : behindInMarks op b = false := by
  have e1 : (op == CmpOp.In) = false := by cases op <;> first | rfl | exact absurd rfl h
  have e2 : (op == CmpOp.NotIn) = false := by cases op <;> first | rfl | exact absurd rfl h2
  cases b <;> simp [behindInMarks, e1, e2]
theorem pe_cmpR {op : CmpOp} {r : R2} (ho : OpR X (compareOp op) r) (ha : PE X a ta) (hb : PE X b tb) (hm : behindInMarks op b = false) : PE X (.Compare a [op] [b] pos) (tOp r ta tb) := by
  intro pins s σ H Q I h
  exact wpAny_Compare1 (binT ha hb I h fun v u s2 x y H2 I2 rx ry q => ho pins s2 σ H2 x y v u Q I2 rx ry q) hm
def tTest (t : TE) : TT := fun σ H Q => t σ H fun x H' => ∃ k, x = .bl k ∧ Q k H'
theorem pt_cmpR {op : CmpOp} {r : R2} (ho : OpR X (compareOp op) r) (ha : PE X a ta) (hb : PE X b tb) (hm : behindInMarks op b = false) : PT X (.Compare a [op] [b] pos) (tTest (tOp r ta tb)) := by
  intro pins s σ H Q I h
  refine wpAny_isTrue_Compare1 (thn (ha pins s σ H _ I h) fun v s1 ⟨x, H1, I1, r1, q1⟩ => thn (hb pins s1 σ H1 _ I1 q1) fun u s2 ⟨y, H2, I2, r2, q2⟩ =>
    thn (ho pins s2 σ H2 x y v u _ I2 r1 r2 q2) fun c s3 ⟨z, H3, I3, r3, k, e, q3⟩ => ?_) hm
  subst e
  cases r3
  exact wpAny_truthy_bool ⟨H3, I3, q3⟩
theorem line63 : (sizeLine : Nat) < 2 ^ 63 := by rw [sizeLine_eq]; decide
theorem vals1 {x : V} {us : List Value} (r : Vals [x] us) : ∃ u, us = [u] ∧ RelV x u := by
  cases r with
  | cons r1 r2 => cases r2; exact ⟨_, rfl, r1⟩
theorem vals2 {x y : V} {us : List Value} (r : Vals [x, y] us) : ∃ u w', us = [u, w'] ∧ RelV x u ∧ RelV y w' := by
  cases r with
  | cons r1 r2 =>
    cases r2 with
    | cons r3 r4 => cases r4; exact ⟨_, _, rfl, r1, r3⟩
theorem call_abs : CallR X (.builtin "abs") (fun xs H Q => ∃ i, xs = [.int i] ∧ Q (.int (if i < 0 then -i else i)) H) := by
  intro pins s σ H xs us Q I r h
  obtain ⟨i, rfl, q⟩ := h
  obtain ⟨u, rfl, t, rfl⟩ := vals1 r
  exact call_abs_int fun u tk => ⟨.int (if i < 0 then -i else i), H, I.tok _, ⟨_, rfl⟩, q⟩
theorem call_max2 (hc : X.calm = true) : CallR X (.builtin "max") (fun xs H Q => ∃ i j, xs = [.int i, .int j] ∧ Q (.int (if j > i then j else i)) H) := by
  intro pins s σ H xs us Q I r h
  obtain ⟨i, j, rfl, q⟩ := h
  obtain ⟨u, w', rfl, ⟨t, rfl⟩, ⟨t', rfl⟩⟩ := vals2 r
  refine max_two_ints (I.ok.hd hc) fun h' tk k => ⟨_, H, I.kept k, ?_, q⟩
  by_cases hj : j > i
  · rw [if_pos hj, if_pos hj]; exact ⟨_, rfl⟩
  · rw [if_neg hj, if_neg hj]; exact ⟨_, rfl⟩
theorem call_min2 (hc : X.calm = true) : CallR X (.builtin "min") (fun xs H Q => ∃ i j, xs = [.int i, .int j] ∧ Q (.int (if j < i then j else i)) H) := by
  intro pins s σ H xs us Q I r h
  obtain ⟨i, j, rfl, q⟩ := h
  obtain ⟨u, w', rfl, ⟨t, rfl⟩, ⟨t', rfl⟩⟩ := vals2 r
  refine min_two_ints (I.ok.hd hc) fun h' tk k => ⟨_, H, I.kept k, ?_, q⟩
  by_cases hj : j < i
  · rw [if_pos hj, if_pos hj]; exact ⟨_, rfl⟩
  · rw [if_neg hj, if_neg hj]; exact ⟨_, rfl⟩
end
end L2
namespace L2
open PySem PySem.Spec PyProof.Rows
structure ObjM (h : Heap) (x dx C : Addr) (mA : Str → Option Value) : Prop where
  obj : h.get? x = some (PySem.W.instObj C dx)
  ns : h.Ns1 dx mA
  ne : dx ≠ x
theorem lookIn_ns {h : Heap} {dx : Addr} {mA : Str → Option Value} (n : h.Ns1 dx mA) : ∃ od, h.get? dx = some od ∧ ∀ name, PySem.W.lookIn name od = some (mA name) := by
  obtain ⟨o, es, ep, ho, hd, hk, _, hm⟩ := n
  refine ⟨o, ho, fun name => ?_⟩
  have e := hm name
  unfold nsFind findBy at e
  rw [← Array.find?_toList] at e
  unfold PySem.W.lookIn
  rw [hd]
  dsimp only
  split
  · rename_i y q
    rw [q] at e
    exact congrArg some e
  · rename_i q
    rw [q] at e
    have a : es.toList.any (·.refKey) = false := by
      rw [List.any_eq_false]
      intro y hy
      obtain ⟨z, t, hkey⟩ := hk y (Array.mem_toList_iff.mp hy)
      simp [DictEntry.refKey, hkey]
    have a' : ¬ es.toList.any (·.refKey) = true := by rw [a]; exact Bool.false_ne_true
    rw [if_neg a']
    exact congrArg some e
theorem ObjM.look {h : Heap} {x dx C : Addr} {mA : Str → Option Value} (I : ObjM h x dx C mA) : ∃ od, PySem.W.InstAt h x (PySem.W.instObj C dx) C (some od) ∧ ∀ name, PySem.W.lookIn name od = some (mA name) :=
  let ⟨od, ho, hl⟩ := lookIn_ns I.ns
  ⟨od, ⟨I.obj, rfl, rfl, ho⟩, hl⟩
section
variable {prog : Program} {w : World} {A : Around} {E : Value → Shared → Prop} {s : Shared} {K : PySem.W.Frag} {x dx C f : Addr} {mA : Str → Option Value} {name : Str} {v : Value}
theorem get_map {expr : Bool} {Q : Value → Shared → Prop} (X : K.In s.heap) (I : ObjM s.heap x dx C mA) (hg : PySem.W.plainGet K C name = true) (hh : PySem.W.hasDictIn K C = true)
    (ha : PySem.W.findIn K (.ref C) name = some none) (hv : mA name = some v) (hv' : PySem.W.handedIn v = true) (h : Q v { s with toks := s.toks + 1 }) :
    wpAny (model prog w) A (getAttr (.ref x) name expr) Q E s := by
  obtain ⟨od, J, hl⟩ := I.look
  exact PySem.W.get_value X J (PySem.W.plainGet_of hg).1 (PySem.W.findObj_own hh ha rfl (by rw [hl, hv])) hv' h
theorem get_meth {pl : Sem Bool} {Q : Value × List Value → Shared → Prop} (X : K.In s.heap) (I : ObjM s.heap x dx C mA) (hg : PySem.W.plainGet K C name = true)
    (hf : PySem.W.findIn K (.ref C) name = some (some (.ref f))) (ht : PySem.W.isFn K (.ref f) = true) (hv : mA name = none) (h : Q (.ref f, [.ref x]) s) :
    wpAny (model prog w) A (getMethod (.ref x) name pl) Q E s := by
  obtain ⟨od, J, hl⟩ := I.look
  exact PySem.W.method_fn X J (PySem.W.plainGet_of hg).1 (PySem.W.plainGet_of hg).2 hf (beq_iff_eq.mp ht) (by show (PySem.W.lookIn name od).map (·.isSome) = some false; rw [hl, hv]; rfl) h
theorem set_map {ns : List Str} {Q : Unit → Shared → Prop} (X : K.In s.heap) (I : ObjM s.heap x dx C mA)
    (hs : PySem.W.findIn K (.ref C) "__setattr__" = some (some (.builtin "object.__setattr__"))) (hp : PySem.W.plainOver K C = true) (ht : PySem.W.takerIn K C name = some none) (hh : PySem.W.hasDictIn K C = true)
    (hw : PySem.Within mA ns) (hsz : ns.length ≤ sizeLine)
    (h : ∀ h', ObjM h' x dx C (fun y => if y = name then some v else mA y) → Heap.SameBut dx s.heap h' → Q () { s with heap := h', toks := s.toks + 2 }) :
    wpAny (model prog w) A (setAttr (.ref x) name v) Q E s := by
  obtain ⟨od, J, hl⟩ := I.look
  refine PySem.W.set_plain X J hs (PySem.W.osa_open (s := { s with toks := s.toks + 1 }) (r := none) X J hp ht fun b => ?_)
  obtain ⟨cd, hc, hd'⟩ := PySem.W.any_some hh
  have hx : s.heap.get? x = some ⟨.ref C, some dx, .plain, #[]⟩ := I.obj
  refine wpAny_bind (wpAny_pure (wpAny_bind (wpAny_bind (wpAny_loadPart hx (wpAny_bind (PySem.W.Looks.here (s := { s with toks := s.toks + 1 }) (PySem.W.looks_clsIn X hc) ?_))))))
  rw [hd']
  refine wpAny_pure (a := some dx) (wpAny_bind (wpAny_pure (wpAny_bind ?_)))
  refine wpAny_nsSet1 (s := { s with toks := s.toks + 1 }) I.ns fun h' hn2 hs2 => ?_
  obtain ⟨oD, esD, epD, hoD, hdD, hcD⟩ := hn2.count (PySem.Within.cons name v hw)
  refine wpAny_bind (wpAny_lookBehind hoD (by rw [hdD]; exact pastItsLine_dict (Nat.le_trans hcD (by rw [List.length_cons]; omega))) ?_)
  exact wpAny_pure (h _ ⟨(hs2.2 _ (Ne.symm I.ne)).trans I.obj, hn2, I.ne⟩ hs2)
theorem make_map {R : Result → Shared → Prop} {vs : List Value} {kw : List (Str × Value)} (X : K.In s.heap) (hm : PySem.W.makesIn K C = true)
    (hi : PySem.W.findIn K (.ref C) "__init__" = some (some (.ref f))) (hf : PySem.W.typeIn K (.ref f) = some (.type "function"))
    (h : codeAny (model prog w) (A.under (.builtin "type.__call__" ⟨.ref C :: vs, kw⟩)) (.call (.ref f) ⟨.ref (s.heap.objs.size + 1) :: vs, kw⟩) (PySem.W.InitBack (s.heap.objs.size + 1) R)
      { s with heap := (s.heap.push PySem.W.emptyDict).push (PySem.W.instObj C s.heap.objs.size) }) :
    codeAny (model prog w) A (.call (.ref C) ⟨vs, kw⟩) R s := by
  obtain ⟨hh, g, d, t, os⟩ := s
  exact PySem.W.make_core (PySem.W.makes_of X hm) (PySem.W.looks_findIn X hi) (fun self => PySem.W.bind_fn X self hf) (.inl rfl) h
end
def putF (f : Str) (v : V) : List (Str × V) → List (Str × V)
  | [] => [(f, v)]
  | (g, x) :: r => if g = f then (g, v) :: r else (g, x) :: putF f v r
theorem lookup_putF (f g : Str) (v : V) : ∀ fs : List (Str × V), (putF f v fs).lookup g = if g = f then some v else fs.lookup g
  | [] => by
    show List.lookup g [(f, v)] = _
    by_cases h : g = f
    · have hb : (g == f) = true := beq_iff_eq.mpr h
      simp only [List.lookup, hb, if_pos h]
    · have hb : (g == f) = false := beq_eq_false_iff_ne.mpr h
      simp only [List.lookup, hb, if_neg h]
  | (k, x) :: r => by
    have ih := lookup_putF f g v r
    rw [show putF f v ((k, x) :: r) = (if k = f then (k, v) :: r else (k, x) :: putF f v r) from rfl]
    by_cases hk : k = f
    · rw [if_pos hk]
      by_cases h : g = k
      · have hb : (g == k) = true := beq_iff_eq.mpr h
        simp only [List.lookup, hb, if_pos (h.trans hk)]
      · have hb : (g == k) = false := beq_eq_false_iff_ne.mpr h
        simp only [List.lookup, hb, if_neg (fun e : g = f => h (e.trans hk.symm))]
    · rw [if_neg hk]
      by_cases h : g = k
      · have hb : (g == k) = true := beq_iff_eq.mpr h
        simp only [List.lookup, hb, if_neg (fun e : g = f => hk (h.symm.trans e))]
      · have hb : (g == k) = false := beq_eq_false_iff_ne.mpr h
        simp only [List.lookup, hb]
        exact ih
theorem keys_putF (f : Str) (v : V) : ∀ fs : List (Str × V), f ∈ (putF f v fs).map (·.1) ∧ ∀ g, g ∈ fs.map (·.1) → g ∈ (putF f v fs).map (·.1)
  | [] => ⟨by simp [putF], fun g h => by simp at h⟩
  | (k, x) :: r => by
    obtain ⟨i1, i2⟩ := keys_putF f v r
    rw [show putF f v ((k, x) :: r) = (if k = f then (k, v) :: r else (k, x) :: putF f v r) from rfl]
    by_cases hk : k = f
    · rw [if_pos hk]
      subst hk
      exact ⟨by simp, fun g h => by simpa using h⟩
    · rw [if_neg hk]
      refine ⟨?_, fun g h => ?_⟩
      · rw [List.map_cons]
        exact List.mem_cons_of_mem _ i1
      · rw [List.map_cons] at h ⊢
        rcases List.mem_cons.mp h with e | e
        · exact List.mem_cons.mpr (.inl e)
        · exact List.mem_cons_of_mem _ (i2 g e)
theorem length_putF (f : Str) (v : V) : ∀ fs : List (Str × V), (putF f v fs).length ≤ fs.length + 1
  | [] => by simp [putF]
  | (k, x) :: r => by
    have ih := length_putF f v r
    rw [show putF f v ((k, x) :: r) = (if k = f then (k, v) :: r else (k, x) :: putF f v r) from rfl]
    by_cases hk : k = f
    · rw [if_pos hk, List.length_cons, List.length_cons]; omega
    · rw [if_neg hk, List.length_cons, List.length_cons]; omega
theorem RelO.some_of {v : V} {o : Option Value} (r : RelO (some v) o) : ∃ u, o = some u ∧ RelV v u := by
  cases o with
  | none => exact (show False from r).elim
  | some u => exact ⟨u, rfl, r⟩
theorem RelO.none_of {o : Option Value} (r : RelO none o) : o = none := by
  cases o with
  | none => rfl
  | some u => exact (show False from r).elim
theorem handed_of {v : V} {u : Value} (r : RelV v u) : PySem.W.handedIn u = true := by
  cases v with
  | non => cases (show u = Value.none from r); rfl
  | bl b => cases (show u = Value.bool b from r); rfl
  | int i => obtain ⟨t, e⟩ := (show ∃ t, u = Value.int i t from r); cases e; rfl
  | str x => obtain ⟨t, e⟩ := (show ∃ t, u = Value.str x t from r); cases e; rfl
  | byt b => obtain ⟨t, e⟩ := (show ∃ t, u = Value.bytes b t from r); cases e; rfl
  | flt b => obtain ⟨t, e⟩ := (show ∃ t, u = Value.float b t from r); cases e; rfl
  | ref a => cases (show u = Value.ref a from r); rfl
  | ty n => cases (show u = Value.type n from r); rfl
section
variable {P : Program} {w : World} {H H' : Hp} {h h' : Heap} {a C dx : Addr} {fs fs' : List (Str × V)}
theorem ins_get (hok : HOk P w H h) (e : H a = some (.ins C dx fs)) : ∃ mA, ObjM h a dx C mA ∧ (∀ f, RelO (fs.lookup f) (mA f)) ∧ PySem.Within mA (fs.map (·.1)) ∧ fs.length ≤ 1000 ∧ H dx = some (.own a) := by
  obtain ⟨d, z, ne, ob, mA, n, r, q⟩ := (show ObjOk P w H h a (.ins C dx fs) from hok a _ e)
  exact ⟨mA, ⟨ob, n, ne⟩, r, q, z, d⟩
end
structure Cls (K : PySem.W.Frag) (C : Addr) : Prop where
  pg : PySem.W.plainGet K C Str.empty = true
  hd : PySem.W.hasDictIn K C = true
  po : PySem.W.plainOver K C = true
  sa : PySem.W.findIn K (.ref C) "__setattr__" = some (some (.builtin "object.__setattr__"))
theorem Cls.get {K : PySem.W.Frag} {C : Addr} (c : Cls K C) (f : Str) : PySem.W.plainGet K C f = true := c.pg
def NoAttr (K : PySem.W.Frag) (C : Addr) (f : Str) : Prop := PySem.W.findIn K (.ref C) f = some none
theorem NoAttr.taker {K : PySem.W.Frag} {C : Addr} {f : Str} (n : NoAttr K C f) : PySem.W.takerIn K C f = some none := by
  unfold PySem.W.takerIn
  rw [show PySem.W.findIn K (.ref C) f = some none from n]
  rfl
structure Meth (K : PySem.W.Frag) (C : Addr) (m : Str) (f : Addr) : Prop where
  at_ : PySem.W.findIn K (.ref C) m = some (some (.ref f))
  fn : PySem.W.isFn K (.ref f) = true
  kp : PySem.W.keepIn K (.ref f) = true
section
variable {X : Cx} {pins : List (Addr × Obj)} {σ : St} {H : Hp} {s : Shared} {a C dx : Addr} {fs : List (Str × V)} {f : Str} {v : V} {A : Around} {E : Value → Shared → Prop}
theorem getattr_ok {b : Bool} {Q : Value → Shared → Prop} (I : Inv X pins σ H s) (e : H a = some (.ins C dx fs)) (c : Cls X.K C) (n : NoAttr X.K C f) (l : fs.lookup f = some v)
    (h : ∀ u s', Inv X pins σ H s' → RelV v u → Q u s') : wpAny (model X.prog X.w) A (getAttr (.ref a) f b) Q E s := by
  obtain ⟨mA, O, r, _, _, _⟩ := ins_get I.hok e
  obtain ⟨u, hu, ru⟩ := RelO.some_of (v := v) (o := mA f) (by rw [← l]; exact r f)
  exact get_map I.kIn O (c.get f) c.hd n hu (handed_of ru) (h u _ (I.tok _) ru)
theorem getmeth_ok {m : Str} {g : Addr} {pl : Sem Bool} {Q : Value × List Value → Shared → Prop} (I : Inv X pins σ H s) (e : H a = some (.ins C dx fs)) (c : Cls X.K C) (k : Meth X.K C m g) (l : fs.lookup m = none)
    (h : Q (.ref g, [.ref a]) s) : wpAny (model X.prog X.w) A (getMethod (.ref a) m pl) Q E s := by
  obtain ⟨mA, O, r, _, _, _⟩ := ins_get I.hok e
  have hn : mA m = none := RelO.none_of (by rw [← l]; exact r m)
  exact get_meth I.kIn O (c.get m) k.at_ k.fn hn h
theorem setattr_ok {y : V} {u : Value} {Q : Unit → Shared → Prop} (I : Inv X pins σ H s) (e : H a = some (.ins C dx fs)) (c : Cls X.K C) (n : NoAttr X.K C f) (hl : fs.length < 1000) (ry : RelV y u)
    (h : ∀ s', Inv X pins σ (upd H a (.ins C dx (putF f y fs))) s' → Q () s') : wpAny (model X.prog X.w) A (setAttr (.ref a) f u) Q E s := by
  obtain ⟨mA, O, r, wi, _, ho⟩ := ins_get I.hok e
  have hz : (fs.map (·.1)).length ≤ sizeLine := by rw [List.length_map, sizeLine_eq]; omega
  refine set_map I.kIn O c.sa c.po n.taker c.hd wi hz fun h' O' sb => h _ ?_
  have hd : ∃ o, h'.get? dx = some o := let ⟨o, _, _, e', _⟩ := O'.ns; ⟨o, e'⟩
  refine I.write (x := a) (e := dx) (by rw [e]; exact True.intro) (.inr ho) (fun b q hb z => (sb.2 b hb).trans z) hd ?_
  refine ⟨by rw [upd_ne O.ne]; exact ho, ?_, O.ne, O'.obj, _, O'.ns, fun g => ?_, fun g hg => ?_⟩
  · have := length_putF f y fs; omega
  · show RelO ((putF f y fs).lookup g) (if g = f then some u else mA g)
    rw [lookup_putF]
    by_cases q : g = f
    · rw [if_pos q, if_pos q]; exact ry
    · rw [if_neg q, if_neg q]; exact r g
  · by_cases q : g = f
    · rw [q]; exact (keys_putF f y fs).1
    · refine (keys_putF f y fs).2 g (wi g fun z => hg ?_)
      show (if g = f then some u else mA g) = none
      rw [if_neg q]; exact z
theorem Inv.made (I : Inv X pins σ H s) : Inv X pins σ (upd (upd H s.heap.objs.size (.own (s.heap.objs.size + 1))) (s.heap.objs.size + 1) (.ins C s.heap.objs.size []))
    { s with heap := (s.heap.push PySem.W.emptyDict).push (PySem.W.instObj C s.heap.objs.size) } := by
  have e1 : (s.heap.push PySem.W.emptyDict).get? s.heap.objs.size = some PySem.W.emptyDict := Heap.get?_push_size s.heap rfl
  have e2 : ((s.heap.push PySem.W.emptyDict).push (PySem.W.instObj C s.heap.objs.size)).get? (s.heap.objs.size + 1) = some (PySem.W.instObj C s.heap.objs.size) := by
    have := Heap.get?_push_size (s.heap.push PySem.W.emptyDict) (o := PySem.W.instObj C s.heap.objs.size) rfl
    rwa [Heap.size_push] at this
  have e3 : (s.heap.push PySem.W.emptyDict).Ns s.heap.objs.size (fun _ => none) := ⟨PySem.W.emptyDict, #[], _, e1, rfl, (fun e he => absurd he (by simp)), fun _ => rfl⟩
  have I1 := I.laid (a := s.heap.objs.size) (o := .own (s.heap.objs.size + 1)) (h' := s.heap.push PySem.W.emptyDict) (t' := s.toks) (fun b u q => Heap.get?_push_of_some _ q) (Nat.le_refl _) ⟨_, e1⟩
  refine I1.laid (a := s.heap.objs.size + 1) (o := .ins C s.heap.objs.size []) (t' := s.toks) (fun b u q => Heap.get?_push_of_some _ q) (Nat.le_of_eq (Heap.size_push _ _)) ?_
  have ne : s.heap.objs.size ≠ s.heap.objs.size + 1 := Nat.ne_of_lt (Nat.lt_succ_self _)
  refine ⟨by rw [upd_ne ne, upd_same], Nat.zero_le _, ne, e2, fun _ => none, (Heap.Ns1.of_empty e3).at fun o q => Heap.get?_push_of_some _ q, fun _ => True.intro, fun y hy => absurd rfl hy⟩
theorem attr_of {prog : Program} {w : World} {env : Env} {e : Expr} {f : Str} {pos : Pos} {s : Shared} {Q : Value → Shared → Prop} (hb : attributeBase e f env (eval e env) = eval e env)
    (h : wpAny (model prog w) A (eval e env) (fun o s₁ => wpAny (model prog w) A (getAttr o f true) Q E s₁) E s) : wpAny (model prog w) A (eval (.Attribute e f pos) env) Q E s :=
  Attribute_any_ h (by rw [arm_eval_Attribute, hb])
end
def tFld (K : PySem.W.Frag) (ta : TE) (f : Str) : TE := fun σ H Q => ta σ H fun x H1 => ∃ a C dx fs v, x = .ref a ∧ H1 a = some (.ins C dx fs) ∧ Cls K C ∧ NoAttr K C f ∧ fs.lookup f = some v ∧ Q v H1
def sFld (K : PySem.W.Frag) (ta tv : TE) (f : Str) : TS := fun D σ H => tv σ H fun y H1 => ta σ H1 fun x H2 => ∃ a C dx fs, x = .ref a ∧ H2 a = some (.ins C dx fs) ∧ Cls K C ∧ NoAttr K C f ∧ fs.length < 1000 ∧
  D.nx σ (upd H2 a (.ins C dx (putF f y fs)))
section
variable {X : Cx} {o e value : Expr} {f : Str} {pos pos' tpos : Pos} {ta tv : TE}
theorem pe_fld (he : PE X e ta) (hb : attributeBase e f X.env (eval e X.env) = eval e X.env) : PE X (.Attribute e f pos) (tFld X.K ta f) := by
  intro pins s σ H Q I h
  refine attr_of hb (thn (he pins s σ H _ I h) fun u s1 ⟨x, H1, I1, rx, a, C, dx, fs, v, ex, ea, c, n, l, q⟩ => ?_)
  subst ex
  obtain rfl : u = Value.ref a := rx
  exact getattr_ok I1 ea c n l fun u' s2 I2 ru => ⟨v, H1, I2, ru, q⟩
theorem ps_fld (ha : PE X o ta) (hv : PE X value tv) (hs : swapsWith value (some (.Attribute o f pos')) pos.line X.env = pure false) : PS X (.Assign [.Attribute o f pos'] value pos) (sFld X.K ta tv f) := by
  intro pins s σ H D I h
  refine plainObj_wpAny_Assign_Attribute (thn (hv pins s σ H _ I h) fun u s1 ⟨y, H1, I1, ry, q⟩ => thn (ha pins s1 σ H1 _ I1 q) fun ov s2 ⟨x, H2, I2, rx, a, C, dx, fs, ex, ea, c, n, l, q2⟩ => ?_) hs
  subst ex
  obtain rfl : ov = Value.ref a := rx
  exact setattr_ok I2 ea c n l ry fun s3 I3 => ⟨σ, _, I3, q2⟩
end
section
variable {X : Cx} {pins : List (Addr × Obj)} {σ : St} {H : Hp} {s : Shared} {A : Around} {E : Value → Shared → Prop} {Q : Value → Shared → Prop} {c : Value} {b : Bool}
inductive TyOf (K : PySem.W.Frag) (H : Hp) : V → Value → Prop where
  | non : TyOf K H .non (.type "NoneType")
  | bl (x : Bool) : TyOf K H (.bl x) (.type "bool")
  | int (i : Int) : TyOf K H (.int i) (.type "int")
  | str (x : Str) : TyOf K H (.str x) (.type "str")
  | flt (x : UInt64) : TyOf K H (.flt x) (.type "float")
  | lst {a : Addr} {xs : List V} (e : H a = some (.lst xs)) : TyOf K H (.ref a) (.type "list")
  | frz {a : Addr} {o : Obj} {xs : List V} (e : H a = some (.frz o (.lst xs))) : TyOf K H (.ref a) (.type "list")
  | tup {a : Addr} {xs : List V} (e : H a = some (.tup xs)) : TyOf K H (.ref a) (.type "tuple")
  | dK {a : Addr} {kvs : List (Key × V)} (e : H a = some (.dK kvs)) : TyOf K H (.ref a) (.type "dict")
  | dT {a : Addr} {kvs : List (List Key × V)} (e : H a = some (.dT kvs)) : TyOf K H (.ref a) (.type "dict")
  | ins {a C dx : Addr} {fs : List (Str × V)} (e : H a = some (.ins C dx fs)) (cl : Cls K C) (ha : PySem.W.findIn K (.ref C) "__class__" = some (some (.builtin "object.__class__")))
      (hn : PySem.W.specialIn K (.builtin "object.__class__") "__get__" = some (some (.builtin "getset_descriptor.__get__"))) (htk : PySem.W.takesIn K (.builtin "object.__class__") = some true)
      (hm : PySem.W.mroIn K C (.type "object") = some true) : TyOf K H (.ref a) (.ref C)
theorem isinst_ok {x : V} {u t : Value} (I : Inv X pins σ H s) (rx : RelV x u) (ty : TyOf X.K H x t) (e : PySem.W.kitOne X.K t c = some b) (h : ∀ tk, Q (.bool b) { s with toks := tk }) :
    wpAny (model X.prog X.w) A (call (.builtin "isinstance") [u, c]) Q E s := by
  cases ty with
  | non => cases (show u = Value.none from rx); exact PySem.W.kia_one PySem.W.kitx_none I.kIn True.intro e (fun z => nomatch z) h
  | bl y => cases (show u = Value.bool y from rx); exact PySem.W.kia_one PySem.W.kitx_bool I.kIn True.intro e (fun z => nomatch z) h
  | int i => obtain ⟨t, q⟩ := (show ∃ t, u = Value.int i t from rx); cases q; exact PySem.W.kia_one PySem.W.kitx_int I.kIn True.intro e (fun z => nomatch z) h
  | str y => obtain ⟨t, q⟩ := (show ∃ t, u = Value.str y t from rx); cases q; exact PySem.W.kia_one PySem.W.kitx_str I.kIn True.intro e (fun z => nomatch z) h
  | flt y => obtain ⟨t, q⟩ := (show ∃ t, u = Value.float y t from rx); cases q; exact PySem.W.kia_one PySem.W.kitx_float I.kIn True.intro e (fun z => nomatch z) h
  | @lst a xs ea =>
    cases (show u = Value.ref a from rx)
    obtain ⟨_, _, n, _, h1⟩ := (show ObjOk X.prog X.w H s.heap a (.lst xs) from I.hok a _ ea)
    exact PySem.W.kia_one PySem.W.kitx_list I.kIn ⟨_, h1, rfl⟩ e (fun z => nomatch z) h
  | @frz a ob xs ea =>
    cases (show u = Value.ref a from rx)
    obtain ⟨_, _, _, n, _, h1⟩ := (show ObjOk X.prog X.w H s.heap a (.frz ob (.lst xs)) from I.hok a _ ea)
    exact PySem.W.kia_one PySem.W.kitx_list I.kIn ⟨_, h1, rfl⟩ e (fun z => nomatch z) h
  | @tup a xs ea =>
    cases (show u = Value.ref a from rx)
    obtain ⟨_, _, _, p⟩ := (show ObjOk X.prog X.w H s.heap a (.tup xs) from I.hok a _ ea)
    obtain ⟨o, h1, h2, _⟩ := p
    exact PySem.W.kia_one PySem.W.kitx_tuple I.kIn ⟨o, h1, h2⟩ e (fun z => nomatch z) h
  | @dK a kvs ea =>
    cases (show u = Value.ref a from rx)
    obtain ⟨_, _, vs, _, p⟩ := (show ObjOk X.prog X.w H s.heap a (.dK kvs) from I.hok a _ ea)
    obtain ⟨o, es, ep, h1, h2, _⟩ := p
    exact PySem.W.kia_one PySem.W.kitx_dict I.kIn ⟨o, h1, h2.1⟩ e (fun z => nomatch z) h
  | @dT a kvs ea =>
    cases (show u = Value.ref a from rx)
    obtain ⟨_, _, xs, _, o, es, ep, h1, h2, _⟩ := (show ObjOk X.prog X.w H s.heap a (.dT kvs) from I.hok a _ ea)
    exact PySem.W.kia_one PySem.W.kitx_dict I.kIn ⟨o, h1, h2.1⟩ e (fun z => nomatch z) h
  | @ins a C dx fs ea cl ha hn htk hm =>
    cases (show u = Value.ref a from rx)
    obtain ⟨mA, O, _⟩ := ins_get I.hok ea
    obtain ⟨od, J, _⟩ := O.look
    exact PySem.W.kia_one (PySem.W.kitx_own (cl.get _) cl.hd ha hn htk hm) I.kIn J e (fun z => nomatch z) h
end
end L2
namespace L2
open PySem PySem.Spec PyProof.Rows
structure Room (k : Nat) (A : Around) : Prop where
  hd : A.handled = none
  dp : A.depth + 3 * k + 5 < recursionLimit
  un : A.units + 16 * k + 200 < cLine
theorem Room.mono {j k : Nat} {A : Around} (r : Room k A) (h : j ≤ k) : Room j A := ⟨r.hd, by have := r.dp; omega, by have := r.un; omega⟩
theorem Room.deeper {k : Nat} {A : Around} (r : Room (k + 1) A) (env : Env) : Room k (A.deeper env) :=
  ⟨r.hd, by have := r.dp; show A.depth + 1 + 3 * k + 5 < _; omega, by have := r.un; show A.units + 3 + 16 * k + 200 < _; omega⟩
theorem make_depth {A : Around} {C : Addr} {us : List Value} {kw : List (Str × Value)} : (A.under (.builtin "type.__call__" ⟨.ref C :: us, kw⟩)).depth = A.depth + 1 := by
  first | rfl | simp [Around.under, Code.weight, Code.isCreation, Code.isGuard, Code.isCaller, Code.frames, Code.isFrame, guardIds]
theorem make_units {A : Around} {C : Addr} {us : List Value} {kw : List (Str × Value)} : (A.under (.builtin "type.__call__" ⟨.ref C :: us, kw⟩)).units = A.units + 1 := by
  first | rfl | simp [Around.under, Code.cUnits, Code.frames, Code.isFrame]
theorem Room.make {k : Nat} {A : Around} (r : Room (k + 1) A) (C : Addr) (us : List Value) (kw : List (Str × Value)) : Room k (A.under (.builtin "type.__call__" ⟨.ref C :: us, kw⟩)) :=
  ⟨r.hd, by have := r.dp; rw [make_depth]; omega, by have := r.un; rw [make_units]; omega⟩
theorem Room.depth {k : Nat} {A : Around} (r : Room k A) : A.depth < recursionLimit := by have := r.dp; omega
theorem Room.units {k : Nat} {A : Around} (r : Room k A) : A.units + 64 < cLine := by have := r.un; omega
def tNil : TA := fun _ H Q => Q [] H
def tCons (ta : TE) (tr : TA) : TA := fun σ H Q => ta σ H fun x H1 => tr σ H1 fun xs H2 => Q (x :: xs) H2
section
variable {X : Cx} {e : Expr} {es : List Expr} {te : TE} {t : TA} {pos : Pos}
theorem pa_nil : PA X [] tNil := fun _ _ _ _ H Q I h => Calls.spliced_nil ⟨[], H, I, .nil, h⟩
theorem pa_cons (ha : PE X e te) (hr : PA X es t) (hs : starEach (e :: es) X.env = (false, eval e X.env) :: starEach es X.env := by rfl) : PA X (e :: es) (tCons te t) := by
  intro pos pins s σ H Q I h
  rw [hs]
  show wpAny _ _ (spliced ((false, eval e X.env) :: backTo pos (starEach es X.env))) _ _ s
  refine Calls.spliced_cons (thn (ha pins s σ H _ I h) fun u s1 ⟨x, H1, I1, r1, q1⟩ => ?_)
  exact thn (hr pos pins s1 σ H1 _ I1 q1) fun us s2 ⟨xs, H2, I2, r2, q2⟩ => ⟨x :: xs, H2, I2, .cons r1 r2, q2⟩
def tTup (t : TA) : TE := fun σ H Q => t σ H fun xs H1 => xs.length ≤ sizeLine ∧ ∀ p, H1 p = none → Q (.ref p) (upd H1 p (.tup xs))
def tLst (t : TA) : TE := fun σ H Q => t σ H fun xs H1 => xs.length ≤ sizeLine ∧ ∀ p, H1 p = none → Q (.ref p) (upd H1 p (.lst xs))
theorem pe_tup {x1} (h : PA X es t) : PE X (.Tuple es x1 pos) (tTup t) := by
  intro pins s σ H Q I hq
  refine wpAny_Tuple_spliced (thn (h pos pins s σ H _ I hq) fun us s1 ⟨xs, H1, I1, r, z, q⟩ => ⟨by rw [← r.length]; exact z, ?_⟩)
  have hf : H1 s1.heap.objs.size = none := I1.hok.fresh (Nat.le_refl _)
  refine ⟨.ref s1.heap.objs.size, upd H1 s1.heap.objs.size (.tup xs), I1.laid (t' := s1.toks) (fun b u e => Heap.get?_push_of_some _ e) (Nat.le_refl _) ?_, rfl, q _ hf⟩
  exact ⟨z, us, r, ⟨_, Heap.get?_push_size _ rfl, rfl, _, rfl⟩⟩
theorem pe_lst (h : PA X es t) : PE X (.List es pos) (tLst t) := by
  intro pins s σ H Q I hq
  refine wpAny_List_spliced (thn (h pos pins s σ H _ I hq) fun us s1 ⟨xs, H1, I1, r, z, q⟩ => ⟨by rw [← r.length]; exact z, ?_⟩)
  have hf : H1 s1.heap.objs.size = none := I1.hok.fresh (Nat.le_refl _)
  refine ⟨.ref s1.heap.objs.size, upd H1 s1.heap.objs.size (.lst xs), I1.laid (t' := s1.toks) (fun b u e => Heap.get?_push_of_some _ e) (Nat.le_refl _) ?_, rfl, q _ hf⟩
  exact ⟨z, us, 0, r, Heap.get?_push_size _ rfl⟩
end
abbrev Sp := List V → Hp → VK → XK → Prop
abbrev CXT := List Env → Hp → Shared → XK → Value → Shared → Prop
structure Env0 (P : Program) (w : World) (K : PySem.W.Frag) (mg : Str → Option Value) (base : Heap) (A : Around) (outer : List Env) (s : Shared) (H : Hp) : Prop where
  frames : A.frames = some outer
  mod : Mod K mg base
  bs : ∀ b o, base.get? b = some o → s.heap.get? b = some o ∧ H b = none
  bsz : base.objs.size ≤ s.heap.objs.size
  funs : s.heap.FunFrames base outer
  frf : ∀ b ∈ frs outer, H b = none
  hok : HOk P w H s.heap
  bare : AllBare s.gens
def CE (outer : List Env) (P : Program) (w : World) (H : Hp) (s : Shared) (Q : VK) (u : Value) (s' : Shared) : Prop :=
  ∃ v H', s'.os = s.os ∧ AllBare s'.gens ∧ Un (frs outer) [] H H' s.heap s'.heap ∧ HOk P w H' s'.heap ∧ RelV v u ∧ Q v H'
def CR (CX : CXT) (outer : List Env) (P : Program) (w : World) (H : Hp) (s : Shared) (Q : VK) (E : XK) (r : Result) (s' : Shared) : Prop :=
  match r with
  | .ok (.ret u) => CE outer P w H s Q u s'
  | .ok _ => False
  | .error e => CX outer H s E e s'
structure FnOk (P : Program) (w : World) (K : PySem.W.Frag) (mg : Str → Option Value) (base : Heap) (CX : CXT) (k : Nat) (f : Addr) (fd : FuncData) (ps : List Str) (sp : Sp) : Prop where
  len : ∀ vs H Q E, sp vs H Q E → vs.length = ps.length
  run : ∀ (A : Around) (outer : List Env) (s : Shared) (H : Hp) (args : Args) (us : List Value) (vs : List V) (Q : VK) (E : XK), Room k A → Env0 P w K mg base A outer s H → BindsTo s fd args (ps.zip us) → Vals vs us → sp vs H Q E →
    codeAny (model P w) A (.call (.ref f) args) (CR CX outer P w H s Q E) s
theorem FnOk.mono {P : Program} {w : World} {K : PySem.W.Frag} {mg : Str → Option Value} {base : Heap} {CX : CXT} {j k : Nat} {f : Addr} {fd : FuncData} {ps : List Str} {sp : Sp} (F : FnOk P w K mg base CX j f fd ps sp) (h : j ≤ k) :
    FnOk P w K mg base CX k f fd ps sp := ⟨F.len, fun A outer s H args us vs Q E hr => F.run A outer s H args us vs Q E (hr.mono h)⟩
theorem FnOk.imp {P : Program} {w : World} {K : PySem.W.Frag} {mg : Str → Option Value} {base : Heap} {CX : CXT} {k : Nat} {f : Addr} {fd : FuncData} {ps : List Str} {sp sp' : Sp} (F : FnOk P w K mg base CX k f fd ps sp)
    (h : ∀ vs H Q E, sp' vs H Q E → sp vs H Q E) : FnOk P w K mg base CX k f fd ps sp' :=
  ⟨fun vs H Q E q => F.len vs H Q E (h _ _ _ _ q), fun A outer s H args us vs Q E hr he hb hv hs => F.run A outer s H args us vs Q E hr he hb hv (h _ _ _ _ hs)⟩
theorem Env0.make {P : Program} {w : World} {K : PySem.W.Frag} {mg : Str → Option Value} {base : Heap} {A : Around} {outer : List Env} {s : Shared} {H : Hp} (e : Env0 P w K mg base A outer s H) (C : Addr) (us : List Value) (kw : List (Str × Value)) :
    Env0 P w K mg base (A.under (.builtin "type.__call__" ⟨.ref C :: us, kw⟩)) outer s H := ⟨by first | exact e.frames | (simpa [Around.under, Code.envs, Code.isFrame, pushEnvs] using e.frames), e.mod, e.bs, e.bsz, e.funs, e.frf, e.hok, e.bare⟩
section
variable {X : Cx} {pins : List (Addr × Obj)} {σ : St} {H : Hp} {s s' : Shared}
theorem Inv.env0 (I : Inv X pins σ H s) : Env0 X.prog X.w X.K X.mg X.base X.A X.stack s H :=
  ⟨I.ok.frames, I.ok.mod, I.bs, Nat.le_trans I.ok.bsz I.sz, I.stack, I.stkFree, I.hok, I.bare⟩
theorem Inv.after {Q : VK} {u : Value} (I : Inv X pins σ H s) (h : CE X.stack X.prog X.w H s Q u s') : EP X pins σ Q u s' := by
  obtain ⟨v, H', os, bare, un, hok, r, q⟩ := h
  obtain ⟨hh, g, d, t, os'⟩ := s'
  obtain rfl : os' = s.os := os
  exact ⟨v, H', I.call (h' := hh) (g' := g) (d' := d) (t' := t) (ch := []) un hok bare (fun b z => absurd z (by simp)), r, q⟩
end
def tCall (sp : Sp) (dvs : List V) (E : XK) (t : TA) : TE := fun σ H Q => t σ H fun vs H1 => sp (vs ++ dvs) H1 Q E
def tMeth (C : Addr) (m : Str) (sp : Sp) (dvs : List V) (E : XK) (ta : TE) (t : TA) : TE := fun σ H Q => ta σ H fun x H1 => ∃ a dx fs, x = .ref a ∧ H1 a = some (.ins C dx fs) ∧ fs.lookup m = none ∧
  t σ H1 fun vs H2 => sp (x :: (vs ++ dvs)) H2 Q E
def tMake (C : Addr) (sp : Sp) (dvs : List V) (E : XK) (t : TA) : TE := fun σ H Q => t σ H fun vs H1 => ∀ x dx, H1 x = none → H1 dx = none → dx ≠ x →
  sp (.ref x :: (vs ++ dvs)) (upd (upd H1 dx (.own x)) x (.ins C dx [])) (fun v H2 => v = .non ∧ Q (.ref x) H2) E
def Binds (K : PySem.W.Frag) (fd : FuncData) (ps : List Str) (ds : List Value) : Prop :=
  ∀ (s : Shared) (us : List Value), K.In s.heap → (us ++ ds).length = ps.length → BindsTo s fd ⟨us, []⟩ (ps.zip (us ++ ds))
theorem Binds.all {K : PySem.W.Frag} {fd : FuncData} {ps : List Str} (h : ∀ us : List Value, us.length = ps.length → bindArgs fd ⟨us, []⟩ = pure (ps.zip us)) : Binds K fd ps [] := fun s us _ hl => by
  rw [List.append_nil] at hl ⊢
  exact .of_eq (h us hl)
def Passes (CX : CXT) (X : Cx) (E : XK) : Prop := ∀ (pins : List (Addr × Obj)) (σ : St) (H : Hp) (s : Shared) (e : Value) (s' : Shared), Inv X pins σ H s → CX X.stack H s E e s' → X.xe e s'
section
variable {X : Cx} {CX : CXT} {k : Nat} {f C : Addr} {fd : FuncData} {ps : List Str} {sp : Sp} {dvs : List V} {ds : List Value} {E : XK} {x m : Str} {p pos apos : Pos} {e o : Expr} {es : List Expr} {ta : TE} {t : TA}
theorem run_fn {pins : List (Addr × Obj)} {σ : St} {H : Hp} {s : Shared} {Q : VK} {us : List Value} {vs : List V} (F : FnOk X.prog X.w X.K X.mg X.base CX k f fd ps sp) (hr : Room k X.A) (hb : Binds X.K fd ps ds) (hd : Vals dvs ds) (hx : Passes CX X E)
    (I : Inv X pins σ H s) (r : Vals vs us) (h : sp (vs ++ dvs) H Q E) : wpAny (model X.prog X.w) X.A (call (.ref f) us) (EP X pins σ Q) X.xe s := by
  have r2 : Vals (vs ++ dvs) (us ++ ds) := r.append hd
  have hl : (us ++ ds).length = ps.length := by rw [← r2.length]; exact F.len _ _ _ _ h
  refine wpAny_call (codeAny_mono (F.run X.A X.stack s H ⟨us, []⟩ (us ++ ds) (vs ++ dvs) Q E hr I.env0 (hb s us I.kIn hl) r2 h) fun r s' hq => ?_)
  cases r with
  | error e => exact hx pins σ H s e s' I hq
  | ok fl =>
    cases fl with
    | ret u => exact I.after hq
    | next => exact False.elim hq
    | brk => exact False.elim hq
    | cont => exact False.elim hq
theorem pe_call (F : FnOk X.prog X.w X.K X.mg X.base CX k f fd ps sp) (hr : Room k X.A) (hg : Gl X x) (hm : X.mg x = some (.ref f)) (hk : PySem.W.keepIn X.K (.ref f) = true) (hb : Binds X.K fd ps ds) (hd : Vals dvs ds) (hx : Passes CX X E)
    (ha : PA X (e :: es) t) (hdb : (x == ("__debug__" : Str)) = false := by decide) (he : starEach (e :: es) X.env = (false, eval e X.env) :: starEach es X.env := by rfl) (hpl : (backTo pos (starEach es X.env)).any (·.1) = false := by rfl) :
    PE X (.Call (.Name x p) (e :: es) [] pos) (tCall sp dvs E t) := by
  intro pins s σ H Q I h
  refine wpAny_Call_Name_kw (ld_glob I hg hm ?_ hdb)
  refine PySem.W.callWith_K (h₀ := X.base) I.ok.mod.kin hk (thn (ha pos pins s σ H _ I h) fun us s1 ⟨vs, H1, I1, r, q⟩ => ⟨I1.kIn, ?_⟩) he hpl
  exact run_fn F hr hb hd hx I1 r q
theorem pe_meth0 {pl : Sem Bool} (he : PE X o ta) (c : Cls X.K C) (hm : Meth X.K C m f) (F : FnOk X.prog X.w X.K X.mg X.base CX k f fd ps sp) (hr : Room k X.A) (hb : Binds X.K fd ps ds) (hd : Vals dvs ds) (hx : Passes CX X E)
    (ht : eval (.Call (.Attribute o m apos) [] [] pos) X.env = (do
      let ov ← eval o X.env
      standAt apos.atName
      let (f, first) ← holding [ov] (getMethod ov m pl)
      callWith pos f first (backTo pos (starEach [] X.env)) (backToKw pos (keywordEach [] X.env))) := by rfl) :
    PE X (.Call (.Attribute o m apos) [] [] pos) (tMeth C m sp dvs E ta tNil) := by
  intro pins s σ H Q I h
  refine PySem.W.methodCall_KW (pl := pl) (thn (he pins s σ H _ I h) fun u s1 ⟨x, H1, I1, rx, a, dx, fs, ex, ea, l, q⟩ => ?_) ht
  subst ex
  obtain rfl : u = Value.ref a := rx
  refine getmeth_ok I1 ea c hm l ?_
  exact PySem.W.callWith_K0 (first := [.ref a]) I1.kIn hm.kp (run_fn (us := [.ref a]) (vs := [.ref a]) F hr hb hd hx I1 (.cons rfl .nil) q)
structure Mk (K : PySem.W.Frag) (C f : Addr) : Prop where
  makes : PySem.W.makesIn K C = true
  init : PySem.W.findIn K (.ref C) "__init__" = some (some (.ref f))
  fn : PySem.W.isFn K (.ref f) = true
  kp : PySem.W.keepIn K (.ref C) = true
theorem run_make {pins : List (Addr × Obj)} {σ : St} {H : Hp} {s : Shared} {Q : VK} {us : List Value} {vs : List V} (M : Mk X.K C f) (F : FnOk X.prog X.w X.K X.mg X.base CX k f fd ps sp) (hr : Room (k + 1) X.A) (hb : Binds X.K fd ps ds) (hd : Vals dvs ds)
    (hx : Passes CX X E) (I : Inv X pins σ H s) (r : Vals vs us)
    (h : ∀ x dx, H x = none → H dx = none → dx ≠ x → sp (.ref x :: (vs ++ dvs)) (upd (upd H dx (.own x)) x (.ins C dx [])) (fun v H2 => v = .non ∧ Q (.ref x) H2) E) :
    wpAny (model X.prog X.w) X.A (call (.ref C) us) (EP X pins σ Q) X.xe s := by
  have hq := h (s.heap.objs.size + 1) s.heap.objs.size (I.hok.fresh (Nat.le_succ _)) (I.hok.fresh (Nat.le_refl _)) (Nat.ne_of_lt (Nat.lt_succ_self _))
  have I2 := Inv.made (C := C) I
  have r2 : Vals (V.ref (s.heap.objs.size + 1) :: (vs ++ dvs)) (Value.ref (s.heap.objs.size + 1) :: (us ++ ds)) := .cons rfl (r.append hd)
  have hl : (Value.ref (s.heap.objs.size + 1) :: us ++ ds).length = ps.length := by
    have e := r2.length
    rw [F.len _ _ _ _ hq] at e
    exact e.symm
  refine wpAny_call (make_map (f := f) I.kIn M.makes M.init (beq_iff_eq.mp M.fn) (codeAny_mono (F.run _ X.stack _ _ ⟨Value.ref (s.heap.objs.size + 1) :: us, []⟩ (Value.ref (s.heap.objs.size + 1) :: (us ++ ds)) _ _ E (hr.make C us [])
    (I2.env0.make C us []) (hb _ (Value.ref (s.heap.objs.size + 1) :: us) I2.kIn hl) r2 hq) fun r s' hq' => ?_))
  cases r with
  | error e => exact hx pins σ _ _ e s' I2 hq'
  | ok fl =>
    cases fl with
    | ret u =>
      obtain ⟨v, H', I3, rv, ev, q3⟩ := I2.after hq'
      subst ev
      exact ⟨rv, ⟨V.ref (s.heap.objs.size + 1), H', I3, rfl, q3⟩⟩
    | next => exact False.elim hq'
    | brk => exact False.elim hq'
    | cont => exact False.elim hq'
theorem pe_make (M : Mk X.K C f) (F : FnOk X.prog X.w X.K X.mg X.base CX k f fd ps sp) (hr : Room (k + 1) X.A) (hg : Gl X x) (hm : X.mg x = some (.ref C)) (hb : Binds X.K fd ps ds) (hd : Vals dvs ds) (hx : Passes CX X E)
    (ha : PA X (e :: es) t) (hdb : (x == ("__debug__" : Str)) = false := by decide) (he : starEach (e :: es) X.env = (false, eval e X.env) :: starEach es X.env := by rfl) (hpl : (backTo pos (starEach es X.env)).any (·.1) = false := by rfl) :
    PE X (.Call (.Name x p) (e :: es) [] pos) (tMake C sp dvs E t) := by
  intro pins s σ H Q I h
  refine wpAny_Call_Name_kw (ld_glob I hg hm ?_ hdb)
  refine PySem.W.callWith_K (h₀ := X.base) I.ok.mod.kin M.kp (thn (ha pos pins s σ H _ I h) fun us s1 ⟨vs, H1, I1, r, q⟩ => ⟨I1.kIn, ?_⟩) he hpl
  exact run_make M F hr hb hd hx I1 r q
end
section
variable {X : Cx} {CX : CXT} {k : Nat} {f C : Addr} {fd : FuncData} {ps ks : List Str} {sp : Sp} {E : XK} {x m : Str} {p pos apos kpos : Pos} {e o : Expr} {es : List Expr} {kws : List Keyword} {te ta : TE} {t tk : TA} {nm : Option Str}
variable {g : List Value → List Value → List Value} {gV : List V → List V → List V}
end
structure FnScope (N P : List Str) (sc : Scope) : Prop where
  kind : sc.kind = .function
  co : sc.isCoroutine = false
  gen : sc.isGenerator = false
  nd : N.Nodup
  pre : N.take P.length = P
  par : ∀ x ∈ P, sc.names.lookup x = some .local ∨ sc.names.lookup x = some .cell
  nofree : ∀ y ∈ sc.names, y.2 ≠ .free
theorem bindL_out {kindOf : Str → Option NameKind} {x : Str} : ∀ {binds : List (Str × Value)} {m : Str → Option Value}, (∀ v, (x, v) ∉ binds) → bindL kindOf binds m x = m x
  | [], _, _ => rfl
  | (n, v) :: r, m, h => by
    unfold bindL
    rw [bindL_out fun w hw => h w (List.mem_cons_of_mem _ hw)]
    split
    · have : x ≠ n := by rintro rfl; exact h v List.mem_cons_self
      simp [this]
    · rfl
theorem bindC_out {kindOf : Str → Option NameKind} {x : Str} : ∀ {binds : List (Str × Value)} {m : Str → Option Value}, (∀ v, (x, v) ∉ binds) → bindC kindOf binds m x = m x
  | [], _, _ => rfl
  | (n, v) :: r, m, h => by
    unfold bindC
    rw [bindC_out fun w hw => h w (List.mem_cons_of_mem _ hw)]
    split
    · rfl
    · have : x ≠ n := by rintro rfl; exact h v List.mem_cons_self
      simp [this]
theorem bindL_get {kindOf : Str → Option NameKind} {x : Str} {v : Value} : ∀ {P : List Str} {vs : List Value} {i : Nat} {m : Str → Option Value}, P.Nodup → P[i]? = some x → vs[i]? = some v → kindOf x = some .local →
    bindL kindOf (P.zip vs) m x = some v
  | [], _, _, _, _, h, _, _ => by simp at h
  | _ :: _, [], _, _, _, _, h, _ => by simp at h
  | p :: P, w :: vs, 0, m, nd, h1, h2, hk => by
    simp at h1 h2; subst h1; subst h2
    show bindL kindOf ((p, w) :: P.zip vs) m p = _
    unfold bindL
    rw [bindL_out fun v hv => (List.nodup_cons.mp nd).1 (List.of_mem_zip hv).1, if_pos hk]
    simp
  | p :: P, w :: vs, i + 1, m, nd, h1, h2, hk => by
    show bindL kindOf ((p, w) :: P.zip vs) m x = _
    unfold bindL
    exact bindL_get (i := i) (List.nodup_cons.mp nd).2 (by simpa using h1) (by simpa using h2) hk
theorem bindC_get {kindOf : Str → Option NameKind} {x : Str} {v : Value} : ∀ {P : List Str} {vs : List Value} {i : Nat} {m : Str → Option Value}, P.Nodup → P[i]? = some x → vs[i]? = some v → kindOf x ≠ some .local →
    bindC kindOf (P.zip vs) m x = some v
  | [], _, _, _, _, h, _, _ => by simp at h
  | _ :: _, [], _, _, _, _, h, _ => by simp at h
  | p :: P, w :: vs, 0, m, nd, h1, h2, hk => by
    simp at h1 h2; subst h1; subst h2
    show bindC kindOf ((p, w) :: P.zip vs) m p = _
    unfold bindC
    rw [bindC_out fun v hv => (List.nodup_cons.mp nd).1 (List.of_mem_zip hv).1, if_neg hk]
    simp
  | p :: P, w :: vs, i + 1, m, nd, h1, h2, hk => by
    show bindC kindOf ((p, w) :: P.zip vs) m x = _
    unfold bindC
    exact bindC_get (i := i) (List.nodup_cons.mp nd).2 (by simpa using h1) (by simpa using h2) hk
def start (N : List Str) (vs : List V) : St := vs.map some ++ List.replicate (N.length - vs.length) none
def cxOf (CX : CXT) (P : Program) (w : World) (K : PySem.W.Frag) (mg : Str → Option Value) (base : Heap) (N : List Str) (qual : Str) (scope : Scope) (f : Addr) (cd : Value) (A : Around) (outer : List Env) (s : Shared) (H : Hp) (E : XK) : Cx where
  prog := P
  w := w
  K := K
  mg := mg
  base := base
  A := A.deeper (envOfC qual scope s.heap.objs.size f cd)
  N := N
  s₀ := s
  H₀ := H
  env := envOfC qual scope s.heap.objs.size f cd
  outer := outer
  stack := envOfC qual scope s.heap.objs.size f cd :: outer
  ex := []
  calm := true
  fn := fun _ => true
  pn := []
  xe := fun e s' => wpAny (model P w) (A.deeper (envOfC qual scope s.heap.objs.size f cd)) (leaving (envOfC qual scope s.heap.objs.size f cd) e) (fun _ s'' => CX outer H s E e s'') (fun e' s'' => CX outer H s E e' s'') s'
theorem cell_has {sc : Scope} {n : Nat} {x : Str} (h : sc.names.lookup x = some .cell) : ∃ c, (cellsFrom n sc.names []).lookup x = some c := by
  have q := PySem.W.cellsFrom_some sc.names n [] (.inl h)
  exact Option.isSome_iff_exists.mp q
theorem inv_start {CX : CXT} {P : Program} {w : World} {K : PySem.W.Frag} {mg : Str → Option Value} {base : Heap} {N ps : List Str} {qual : Str} {scope : Scope} {f : Addr} {cd : Value} {A : Around} {outer : List Env} {s s1 : Shared} {H : Hp} {E : XK} {us : List Value} {vs : List V}
    (S : FnScope N ps scope) (hd : A.handled = none) (e0 : Env0 P w K mg base A outer s H) (hl : vs.length = ps.length) (r : Vals vs us)
    (x : InCallC s s.heap.objs.size (bindL (envOfC qual scope s.heap.objs.size f cd).kindOf (ps.zip us) fun _ => none) (cellsFrom (s.heap.objs.size + 1) scope.names []) (bindC (envOfC qual scope s.heap.objs.size f cd).kindOf (ps.zip us) fun _ => none) s1) :
    Inv (cxOf CX P w K mg base N qual scope f cd A outer s H E) [] (start N vs) H s1 := by
  have hpl : ps.length ≤ N.length := by have := congrArg List.length S.pre; rw [List.length_take] at this; omega
  obtain ⟨h1, tk, rfl, hk⟩ := x.done
  have noA : ∀ b : Addr, b ∉ (cxOf CX P w K mg base N qual scope f cd A outer s H E).ex := fun b z => absurd (show b ∈ ([] : List Addr) from z) (by simp)
  refine ⟨⟨e0.mod, S.kind, rfl, rfl, Nat.le_refl _, fun y z c h1 h2 => ?_, fun y hy => ?_, fun y c _ h => ?_, fun _ => hd, Around.frames_deeper e0.frames, .inr ⟨rfl, rfl⟩, fun b z => absurd z (noA b), e0.bs, e0.bsz, fun b _ _ => noA b, fun b z => absurd z (noA b), e0.funs, e0.frf⟩,
    rfl, e0.bare, Un.kept hk, ⟨_, x.toInCall.ns, fun i y v h1 h2 h3 => ?_⟩, fun y c h => ⟨_, x.cell y c h⟩, e0.hok.fresh (Nat.le_refl _), fun y c h => ?_, fun p hp => absurd (show p ∈ ([] : List (Addr × Obj)) from hp) (by simp), e0.hok.kept hk, ?_⟩
  · exact name_of_addr x.apart (PySem.mem_of_lookup h1) (PySem.mem_of_lookup h2)
  · have hy : scope.names.lookup y = some .cell ∨ scope.names.lookup y = some .free := hy
    rcases hy with hy | hy
    · exact cell_has hy
    · exact absurd rfl (S.nofree _ (PySem.mem_of_lookup hy))
  · exact Nat.le_of_lt (x.above y c (PySem.mem_of_lookup h))
  · have hi : i < vs.length := by
      unfold start at h2
      by_cases hi : i < vs.length
      · exact hi
      · rw [List.getElem?_append_right (by simpa using hi)] at h2
        rw [List.getElem?_replicate] at h2
        split at h2 <;> cases h2
    have ha : vs[i]? = some v := by
      unfold start at h2
      rw [List.getElem?_append_left (by simpa using hi), List.getElem?_map] at h2
      cases e : vs[i]? with
      | none => rw [e] at h2; cases h2
      | some a => rw [e] at h2; cases h2; rfl
    obtain ⟨u, hu, rv⟩ := r.get ha
    have hp : ps[i]? = some y := by
      rw [← S.pre, List.getElem?_take_of_lt (by omega)]; exact h1
    have ndP : ps.Nodup := by rw [← S.pre]; exact S.nd.sublist (List.take_sublist _ _)
    refine ⟨u, rv, ?_⟩
    rcases S.par y (List.mem_of_getElem? hp) with k | k
    · exact .inl ⟨k, bindL_get ndP hp hu k⟩
    · obtain ⟨c, e⟩ := cell_has (n := s.heap.objs.size + 1) k
      refine .inr ⟨.inl k, c, e, ?_⟩
      have q := x.cell y c e
      rw [bindC_get ndP hp hu (by show scope.names.lookup y ≠ _; rw [k]; decide)] at q
      exact q
  · exact e0.hok.fresh (Nat.le_of_lt (x.above y c (PySem.mem_of_lookup h)))
  · unfold start
    show _ = N.length
    rw [List.length_append, List.length_map, List.length_replicate]
    omega
theorem fn_of {CX : CXT} {P : Program} {w : World} {K : PySem.W.Frag} {mg : Str → Option Value} {base : Heap} {k : Nat} {f : Addr} {name qual : Str} {params : Arguments} {body : List Stmt} {scope : Scope} {dV kV doc pm cdv ct oc : Value} {an od : Option Addr}
    {osl : Array (Option Value)} {N ps : List Str} {sp : Sp} (lk : K.lookup f = some ⟨oc, od, .func (PySem.W.fnOf name qual params body scope dV kV doc pm an cdv ct), osl⟩) (hcd : PySem.W.codeIn K cdv qual = true) (S : FnScope N ps scope)
    (len : ∀ vs H Q E, sp vs H Q E → vs.length = ps.length)
    (hbody : ∀ (A : Around) (outer : List Env) (s : Shared) (H : Hp) (vs : List V) (Q : VK) (E : XK), Room k (A.deeper (envOfC qual scope s.heap.objs.size f cdv)) → sp vs H Q E →
      ∃ t, PSs (cxOf CX P w K mg base N qual scope f cdv A outer s H E) body t ∧ t { nx := fun _ H' => Q .non H', rt := Q } (start N vs) H) :
    FnOk P w K mg base CX (k + 1) f (PySem.W.fnOf name qual params body scope dV kV doc pm an cdv ct) ps sp := by
  refine ⟨len, fun A outer s H args us vs Q E hr e0 hb r hsp => ?_⟩
  have hl := len _ _ _ _ hsp
  have KX : K.In s.heap := e0.mod.kin.keeps fun b o e => (e0.bs b o e).1
  have lim : s.heap.NoLimit := e0.mod.nolimit.keeps fun b o e => (e0.bs b o e).1
  have hkind : ∀ y ∈ ps.zip us, scope.names.lookup y.1 = some .local ∨ (scope.names.lookup y.1 = some .cell ∧ ((cellsFrom (s.heap.objs.size + 1) scope.names []).lookup y.1).isSome = true) := fun ⟨n, v⟩ hy => by
    rcases S.par n (List.of_mem_zip hy).1 with q | q
    · exact .inl q
    · exact .inr ⟨q, PySem.W.cellsFrom_some _ _ _ (.inl q)⟩
  refine codeAny_call_function hr.depth (KX _ _ lk) rfl S.co S.gen rfl (PySem.W.codeRec_of KX hcd) (hb _ _ _ _ ?_)
  refine wpAny_newFunctionEnv_cells S.kind hkind fun env he s1 x => ?_
  subst he
  refine ⟨lim.keeps x.toInCall.keep, codeAny_func ?_⟩
  obtain ⟨t, ht, hq⟩ := hbody A outer s H vs Q E (hr.deeper _) hsp
  have I : Inv (cxOf CX P w K mg base N qual scope f cdv A outer s H E) [] (start N vs) H s1 := inv_start S hr.hd e0 hl r x
  refine wpAny_mono (ht [] s1 (start N vs) H _ I hq) (fun fl s' hs => ?_) fun e s' hs => hs
  have fin : ∀ {σ' : St} {H' : Hp} {v : V} {u : Value}, Inv (cxOf CX P w K mg base N qual scope f cdv A outer s H E) [] σ' H' s' → RelV v u → Q v H' → CE outer P w H s Q u s' :=
    fun {σ' H' v u} J rv q => ⟨v, H', J.os, J.bare, J.base, J.hok, rv, q⟩
  cases fl with
  | ret u =>
    obtain ⟨v, σ', H', J, rv, q⟩ := hs
    exact fin J rv q
  | next =>
    obtain ⟨σ', H', J, q⟩ := hs
    exact fin (v := V.non) (u := Value.none) J rfl q
  | brk =>
    obtain ⟨_, _, _, q⟩ := hs
    exact False.elim q
  | cont =>
    obtain ⟨_, _, _, q⟩ := hs
    exact False.elim q
end L2
namespace L2
open PySem PySem.Spec PyProof.Rows
section
variable {X : Cx} {x : Str} {p pos : Pos} {e : Expr} {es : List Expr} {t : TA} {id T : String} {r : List V → Hp → VK → Prop}
def tCB (r : List V → Hp → VK → Prop) (t : TA) : TE := fun σ H Q => t σ H fun vs H1 => r vs H1 Q
theorem pe_callB (hc : CallR X (.builtin id) r) (hg : Gl X x) (hm : X.mg x = none) (hv : bootBuiltins x = some (.builtin id)) (ha : PA X (e :: es) t) (hn : x ≠ "__name__" := by decide) (hdb : (x == ("__debug__" : Str)) = false := by decide)
    (he : starEach (e :: es) X.env = (false, eval e X.env) :: starEach es X.env := by rfl) (hpl : (backTo pos (starEach es X.env)).any (·.1) = false := by rfl) : PE X (.Call (.Name x p) (e :: es) [] pos) (tCB r t) := by
  intro pins s σ H Q I h
  refine wpAny_Call_Name_kw (ld_blt I hg hm hv ?_ hn hdb)
  exact PyProof.Rows.callWith_builtin1 (thn (ha pos pins s σ H _ I h) fun us s1 ⟨vs, H1, I1, r1, q1⟩ => hc pins s1 σ H1 vs us Q I1 r1 q1) he hpl
end
end L2
namespace HT
open PySem PyProof.Rows
section
open PySem.SeqAt
open PySem.AutoSeq1 (wpAny_loadPart')
open PySem.MeetsSeq PySem.MeetsSeq2 PySem.MeetsSeq3
end
section
variable {prog : Program} {w : World} {A : Around} {E : Value → Shared → Prop} {s : Shared}
def sIx (n d : Nat) : Option Int → Nat
  | none => d
  | some v => if v < 0 then (v + (n : Int)).toNat else min v.toNat n
end
end HT
namespace L2
open PySem PySem.Spec PyProof.Rows
abbrev TO := St → Hp → (Option Int → Hp → Prop) → Prop
def PO (X : Cx) (e : Option Expr) (t : TO) : Prop :=
  ∀ (pins : List (Addr × Obj)) (s : Shared) (σ : St) (H : Hp) (Q : Option Int → Hp → Prop), Inv X pins σ H s → t σ H Q →
    wpAny (model X.prog X.w) X.A (evalPart e X.env) (fun u s' => ∃ o H', Inv X pins σ H' s' ∧ IsPart u o ∧ Q o H') X.xe s
def tPart (t : TE) : TO := fun σ H Q => t σ H fun x H1 => ∃ i, x = .int i ∧ Q (some i) H1
theorem intsAre_of {ns : List Int} : ∀ {us : List Value}, Vals (ns.map V.int) us → IntsAre us ns := by
  induction ns with
  | nil => intro us r; rw [List.map_nil] at r; cases r; exact .nil
  | cons n ns ih =>
    intro us r
    rw [List.map_cons] at r
    cases r with
    | cons r1 r2 =>
      obtain ⟨t, e⟩ := r1
      subst e
      exact .cons n t (ih r2)
section
variable {X : Cx} {e : Expr} {te : TE} {lo hi : Option Expr} {tl th : TO} {pos p2 : Pos}
theorem po_some (h : PE X e te) : PO X (some e) (tPart te) := by
  intro pins s σ H Q I hw
  rw [evalPart_some]
  refine thn (h pins s σ H _ I hw) fun u s1 ⟨x, H1, I1, r1, q1⟩ => ?_
  obtain ⟨i, rfl, q⟩ := q1
  obtain ⟨t, rfl⟩ := r1
  exact ⟨some i, H1, I1, .int i t, q⟩
def SlR (X : Cx) (r : V → Option Int → Option Int → Hp → VK → Prop) : Prop :=
  ∀ (pins : List (Addr × Obj)) (s : Shared) (σ : St) (H : Hp) (x : V) (v vl vu : Value) (lo hi : Option Int) (sl : Addr) (Q : VK), Inv X pins σ H s → RelV x v → s.heap.IsSliceOf sl vl vu .none → IsPart vl lo → IsPart vu hi → r x lo hi H Q →
    ∃ T id, typeLookup (.type T) "__getitem__" = pure (some (.builtin id)) ∧ s.TypeIs v T ∧ wpAny (model X.prog X.w) X.A (getItem v (.ref sl)) (EP X pins σ Q) X.xe s
def tSl (r : V → Option Int → Option Int → Hp → VK → Prop) (te : TE) (tl th : TO) : TE := fun σ H Q => te σ H fun x H1 => tl σ H1 fun l H2 => th σ H2 fun u H3 => r x l u H3 Q
theorem pe_slice {r : V → Option Int → Option Int → Hp → VK → Prop} (hr : SlR X r) (he : PE X e te) (hl : PO X lo tl) (hu : PO X hi th) : PE X (.Subscript e (.Slice lo hi none p2) pos) (tSl r te tl th) := by
  intro pins s σ H Q I h
  refine Subscript_ (thn (he pins s σ H _ I h) fun v s1 ⟨x, H1, I1, r1, q1⟩ => ?_)
  refine wpAny_Slice (thn (hl pins s1 σ H1 _ I1 q1) fun vl s2 ⟨l, H2, I2, pl, q2⟩ => thn (hu pins s2 σ H2 _ I2 q2) fun vu s3 ⟨u, H3, I3, pu, q3⟩ => ?_)
  rw [evalPart_none]
  refine wpAny_pure ?_
  have I4 : Inv X pins σ H3 { s3 with heap := s3.heap.push { cls := .type "slice", data := .fields #[vl, vu, .none] } } := I3.kept (t' := s3.toks) fun b ob q => Heap.get?_push_of_some _ q
  obtain ⟨T, id, hT, ht, hg⟩ := hr pins { s3 with heap := s3.heap.push { cls := .type "slice", data := .fields #[vl, vu, .none] } } σ H3 x v vl vu l u s3.heap.objs.size Q I4 r1 (Heap.IsSliceOf.new ..) pl pu q3
  show wpAny (model X.prog X.w) X.A (subscriptTail e (.Slice lo hi none p2) v (.ref s3.heap.objs.size)) (EP X pins σ Q) X.xe { s3 with heap := s3.heap.push { cls := .type "slice", data := .fields #[vl, vu, .none] } }
  exact tail_any (ops := [.ref s3.heap.objs.size, v]) ht hT hg (by with_unfolding_all rfl)
def cutV (xs : List V) (lo hi : Option Int) : List V := (xs.drop (HT.sIx xs.length 0 lo)).take (HT.sIx xs.length xs.length hi - HT.sIx xs.length 0 lo)
theorem cutV_length (xs : List V) (lo hi : Option Int) : (cutV xs lo hi).length ≤ xs.length := by
  unfold cutV
  rw [List.length_take, List.length_drop]
  omega
end
end L2
namespace L2
open PySem PySem.Spec PyProof.Rows
def ixN (n : Nat) (i : Int) : Option Nat := if 0 ≤ i then (if i < n then some i.toNat else none) else if -(n : Int) ≤ i then some (i + n).toNat else none
def atI {α : Type} (xs : List α) (i : Int) : Option α := (ixN xs.length i).bind fun j => xs[j]?
theorem ixN_seq {n : Nat} {i : Int} {j : Nat} (h : ixN n i = some j) : seqIndex? i n = some j ∧ j < n ∧ -(n : Int) ≤ i ∧ i < n := by
  unfold ixN at h
  by_cases h0 : 0 ≤ i
  · rw [if_pos h0] at h
    by_cases h1 : i < n
    · rw [if_pos h1] at h
      have e : i.toNat = j := Option.some.inj h
      exact ⟨by rw [seqIndex_of h0 h1, e], by omega, by omega, h1⟩
    · rw [if_neg h1] at h; cases h
  · rw [if_neg h0] at h
    by_cases h1 : -(n : Int) ≤ i
    · rw [if_pos h1] at h
      have e : (i + n).toNat = j := Option.some.inj h
      exact ⟨by rw [seqIndex_neg (by omega) h1, e], by omega, h1, by omega⟩
    · rw [if_neg h1] at h; cases h
theorem atI_get {α : Type} {xs : List α} {i : Int} {v : α} (h : atI xs i = some v) : ∃ j, seqIndex? i xs.length = some j ∧ xs[j]? = some v ∧ j < xs.length ∧ -(xs.length : Int) ≤ i ∧ i < xs.length := by
  unfold atI at h
  cases e : ixN xs.length i with
  | none => rw [e] at h; cases h
  | some j =>
    rw [e] at h
    obtain ⟨h1, h2, h3, h4⟩ := ixN_seq e
    exact ⟨j, h1, h, h2, h3, h4⟩
theorem atI_nat {α : Type} {xs : List α} {j : Nat} {v : α} (h : xs[j]? = some v) : atI xs (j : Int) = some v := by
  have hj : j < xs.length := (List.getElem?_eq_some_iff.mp h).1
  have e : ixN xs.length (j : Int) = some j := by
    unfold ixN
    rw [if_pos (by omega), if_pos (by omega)]; simp
  unfold atI; rw [e]; exact h
def PlainIx (b : Expr) : Prop := ∀ o i, subscripted b false o i = operate [o, i] (getItem o i)
def IxR (X : Cx) (r : R2) : Prop :=
  ∀ (value slice : Expr) (pins : List (Addr × Obj)) (s : Shared) (σ : St) (H : Hp) (x y : V) (v u : Value) (Q : VK), Inv X pins σ H s → RelV x v → RelV y u → r x y H Q →
    subscripted slice false v u = operate [v, u] (getItem v u) → wpAny (model X.prog X.w) X.A (subscriptTail value slice v u) (EP X pins σ Q) X.xe s
def MtR (X : Cx) (id : String) (r : V → List V → Hp → VK → Prop) : Prop :=
  ∀ (pins : List (Addr × Obj)) (s : Shared) (σ : St) (H : Hp) (x : V) (xs : List V) (v : Value) (us : List Value) (Q : VK), Inv X pins σ H s → RelV x v → Vals xs us → r x xs H Q →
    wpAny (model X.prog X.w) X.A (call (.builtin id) (v :: us)) (EP X pins σ Q) X.xe s
section
variable {X : Cx} {a b : Expr} {ta tb : TE} {pos : Pos}
theorem pe_ix {r : R2} (hr : IxR X r) (ha : PE X a ta) (hb : PE X b tb) (hs : PlainIx b) : PE X (.Subscript a b pos) (tOp r ta tb) := by
  intro pins s σ H Q I h
  exact Subscript_ (binT ha hb I h fun v u s2 x y H2 I2 rx ry q => hr a b pins s2 σ H2 x y v u Q I2 rx ry q (hs _ _))
def rIxL (K : PySem.W.Frag) : R2 := fun x y H Q => ∃ p xs i v, x = .ref p ∧ y = .int i ∧ SqL K H p xs ∧ atI xs i = some v ∧ Q v H
def rIxT (K : PySem.W.Frag) : R2 := fun x y H Q => ∃ p xs i v, x = .ref p ∧ y = .int i ∧ SqT K H p xs ∧ atI xs i = some v ∧ Q v H
theorem ix_list : IxR X (rIxL X.K) := by
  intro value slice pins s σ H x y v u Q I rx ry h hs
  obtain ⟨p, xs, i, z, rfl, rfl, hq, he, q⟩ := h
  cases rx
  obtain ⟨t, rfl⟩ := ry
  obtain ⟨its, r, pl, hz⟩ := I.list hq
  obtain ⟨j, h1, h2, h3, h4, h5⟩ := atI_get he
  obtain ⟨w, ew, rw'⟩ := r.get h2
  have hl := r.length
  have hn := line63
  have fin : EP X pins σ Q w s := ⟨z, H, I, rw', q⟩
  by_cases h0 : 0 ≤ i
  · have hj : i.toNat = j := by
      rw [seqIndex_of h0 h5] at h1
      exact Option.some.inj h1
    exact item_listR pl.isList h0 (by omega) (by rw [hj]; simpa using ew) fin hs
  · have hj : (i + (its.toArray.size : Int)).toNat = j := by
      rw [seqIndex_neg (by omega) h4] at h1
      rw [List.size_toArray, ← hl]
      exact Option.some.inj h1
    exact subscriptTail_builtinR (x := w) pl.isList.typeIs slot_list_getitem.lookup
      (wpAny_getItem_list_neg (Q := fun r s' => r = w ∧ EP X pins σ Q r s') pl.isList (by omega) (by rw [List.size_toArray] <;> omega) (by omega) (by rw [hj]; simpa using ew) ⟨rfl, fin⟩) hs
theorem ix_tup : IxR X (rIxT X.K) := by
  intro value slice pins s σ H x y v u Q I rx ry h hs
  obtain ⟨p, xs, i, z, rfl, rfl, hq, he, q⟩ := h
  cases rx
  obtain ⟨t, rfl⟩ := ry
  obtain ⟨its, r, pl, hz⟩ := I.tuple hq
  obtain ⟨j, h1, h2, h3, h4, h5⟩ := atI_get he
  obtain ⟨w, ew, rw'⟩ := r.get h2
  have hl := r.length
  have hn := line63
  have fin : EP X pins σ Q w s := ⟨z, H, I, rw', q⟩
  exact subscriptTail_builtinR (x := w) pl.typeIs slot_tuple_getitem.lookup
    (getItem_tuple (j := j) (Q := fun r s' => r = w ∧ EP X pins σ Q r s') pl (by omega) (by omega) (by rw [List.size_toArray, ← hl]; exact h1) (by simpa using ew) ⟨rfl, fin⟩) hs
theorem slice_bounds (lo hi : Option Int) (n : Nat) : (sliceBounds lo hi none n).1 = ((HT.sIx n 0 lo : Nat) : Int) ∧ (sliceBounds lo hi none n).2.1 = ((HT.sIx n n hi : Nat) : Int) ∧ (sliceBounds lo hi none n).2.2 = 1 := by
  refine ⟨?_, ?_, rfl⟩
  · cases lo with
    | none => simp [sliceBounds, HT.sIx]
    | some i =>
      simp only [sliceBounds, HT.sIx, Option.getD_none, show (1 : Int) > 0 by decide, if_true]
      by_cases h : i < 0
      · simp only [h, if_true] <;> omega
      · simp only [h, if_false] <;> omega
  · cases hi with
    | none => simp [sliceBounds, HT.sIx]
    | some i =>
      simp only [sliceBounds, HT.sIx, Option.getD_none, show (1 : Int) > 0 by decide, if_true]
      by_cases h : i < 0
      · simp only [h, if_true] <;> omega
      · simp only [h, if_false] <;> omega
theorem slicePick_cut (its : List Value) (lo hi : Option Int) : slicePick its.toArray lo hi none = ((its.drop (HT.sIx its.length 0 lo)).take (HT.sIx its.length its.length hi - HT.sIx its.length 0 lo)).toArray := by
  obtain ⟨h1, h2, h3⟩ := slice_bounds lo hi its.toArray.size
  unfold slicePick
  rw [h1, h2, h3]
  simp only [sliceRange_one, pick_run, List.size_toArray] <;> rfl
def rSlL (K : PySem.W.Frag) : V → Option Int → Option Int → Hp → VK → Prop := fun x lo hi H Q => ∃ a xs, x = .ref a ∧ SqL K H a xs ∧ ∀ p, H p = none → Q (.ref p) (upd H p (.lst (cutV xs lo hi)))
theorem sl_list : SlR X (rSlL X.K) := by
  intro pins s σ H x v vl vu lo hi sl Q I rx hs pl pu h
  obtain ⟨a, xs, rfl, hx, q⟩ := h
  cases rx
  obtain ⟨its, r, ht, hz⟩ := I.list hx
  have hlen := r.length
  refine ⟨"list", _, slot_list_getitem.lookup, ht.isList.typeIs, ?_⟩
  refine wpAny_getItem_list_slice ht.isList hs pl pu .none (by simp) ?_ (by rw [List.size_toArray] <;> omega)
  rw [slicePick_cut, ← hlen]
  refine ⟨.ref s.heap.objs.size, _, I.laid (t' := s.toks) (o := .lst (cutV xs lo hi)) (fun b ob q => Heap.get?_push_of_some _ q) (Nat.le_refl _) ?_, rfl, q _ (I.hok.fresh (Nat.le_refl _))⟩
  exact ⟨Nat.le_trans (cutV_length xs lo hi) hz, _, 0, (r.drop (HT.sIx xs.length 0 lo)).take (HT.sIx xs.length xs.length hi - HT.sIx xs.length 0 lo), Heap.get?_push_size _ rfl⟩
theorem call_len_seq : CallR X (.builtin "len") (fun xs H Q => ∃ p ys, xs = [.ref p] ∧ (SqL X.K H p ys ∨ SqT X.K H p ys) ∧ Q (.int ys.length) H) := by
  intro pins s σ H xs us Q I r h
  obtain ⟨p, ys, rfl, hq, q⟩ := h
  obtain ⟨u, rfl, rx⟩ := vals1 r
  cases rx
  have hn := line63
  rcases hq with hq | hq
  · obtain ⟨its, r', pl, hz⟩ := I.list hq
    have hlen := r'.length
    exact Calls.call_len_list pl.isList (by simp only [List.size_toArray] <;> omega) ⟨.int ys.length, H, I.tok _, ⟨s.toks + 1, by rw [List.size_toArray, hlen]⟩, q⟩
  · obtain ⟨its, r', pl, hz⟩ := I.tuple hq
    have hlen := r'.length
    exact len_tuple pl (by simp only [List.size_toArray] <;> omega) ⟨.int ys.length, H, I.tok _, ⟨s.toks + 1, by rw [List.size_toArray, hlen]⟩, q⟩
def tyV (K : PySem.W.Frag) (T : String) (x : V) (H : Hp) : Prop := match x with
  | .str _ => T = "str"
  | .int _ => T = "int"
  | .ref p => (T = "list" ∧ ∃ xs, SqL K H p xs) ∨ (T = "tuple" ∧ ∃ o, K.lookup p = some o ∧ o.cls = .type "tuple" ∧ o.dict = none) ∨
      (T = "dict" ∧ ((∃ kvs, H p = some (.dK kvs)) ∨ ∃ kvs, H p = some (.dT kvs))) ∨ (T = "set" ∧ ∃ S n, H p = some (.set S n))
  | _ => False
theorem tyV_is {pins : List (Addr × Obj)} {σ : St} {H : Hp} {s : Shared} {T : String} {x : V} {v : Value} (I : Inv X pins σ H s) (r : RelV x v) (ty : tyV X.K T x H) :
    s.TypeIs v T ∧ ∀ a, v = .ref a → ∃ ob, s.heap.get? a = some ob ∧ ob.dict = none := by
  cases x with
  | str z =>
    obtain ⟨t, rfl⟩ := r
    cases (show T = "str" from ty)
    exact ⟨typeIs_str s z t, fun _ e => nomatch e⟩
  | int i =>
    obtain ⟨t, rfl⟩ := r
    cases (show T = "int" from ty)
    exact ⟨typeIs_int s i t, fun _ e => nomatch e⟩
  | ref p =>
    cases r
    rcases ty with ⟨rfl, xs, hq⟩ | ⟨rfl, o, hk, hc, hd⟩ | ⟨rfl, hk⟩ | ⟨rfl, S, n, hk⟩
    · obtain ⟨its, _, pl, _⟩ := I.list hq
      refine ⟨pl.isList.typeIs, fun a e => ?_⟩
      cases e
      obtain ⟨o, n, e, c, hd, _⟩ := pl
      exact ⟨o, e, hd⟩
    · refine ⟨⟨o, I.kIn p o hk, hc⟩, fun a e => ?_⟩
      cases e
      exact ⟨o, I.kIn _ o hk, hd⟩
    · have z : ∃ o, s.heap.get? p = some o ∧ o.ExactDict := by
        rcases hk with ⟨kvs, hk⟩ | ⟨kvs, hk⟩
        · obtain ⟨_, _, _, _, o, _, _, e, ex, _⟩ := I.hok p _ hk
          exact ⟨o, e, ex⟩
        · obtain ⟨_, _, _, _, o, _, _, e, ex, _⟩ := I.hok p _ hk
          exact ⟨o, e, ex⟩
      obtain ⟨o, e, ex⟩ := z
      refine ⟨⟨o, e, ex.1⟩, fun a e2 => ?_⟩
      cases e2
      exact ⟨o, e, ex.2.1⟩
    · obtain ⟨o, _, _, _, e, ex, _⟩ := I.hok p _ hk
      refine ⟨⟨o, e, ex.1⟩, fun a e2 => ?_⟩
      cases e2
      exact ⟨o, e, ex.2.1⟩
  | _ => exact False.elim ty
def tBM0 (K : PySem.W.Frag) (T : String) (r : V → List V → Hp → VK → Prop) (to : TE) : TE := fun σ H Q => to σ H fun x H1 => tyV K T x H1 ∧ r x [] H1 Q
def tBM (K : PySem.W.Frag) (T : String) (r : V → List V → Hp → VK → Prop) (to : TE) (t : TA) : TE := fun σ H Q => to σ H fun x H1 => tyV K T x H1 ∧ t σ H1 fun xs H2 => r x xs H2 Q
variable {o e : Expr} {es : List Expr} {to : TE} {t : TA} {name : Str} {apos cpos : Pos} {T id : String} {r : V → List V → Hp → VK → Prop}
theorem pe_bm0 (pa : PlainAttrs T) (slot : Slot T name id) (hty : typeOf (.builtin id) = pure (.type "method_descriptor")) (hm : MtR X id r) (ho : PE X o to)
    (hbase : attributeBase o name X.env (eval o X.env) = eval o X.env := by rfl) (hline : (apos.endLine == cpos.line) = true := by rfl) : PE X (.Call (.Attribute o name apos) [] [] cpos) (tBM0 X.K T r to) := by
  intro pins s σ H Q I h
  refine wpAny_Call_method0_late hbase hline (thn (ho pins s σ H _ I h) fun v s1 ⟨x, H1, I1, r1, ty, q1⟩ => ?_)
  obtain ⟨h1, h2⟩ := tyV_is I1 r1 ty
  exact ⟨T, id, pa, slot, hty, h1, h2, Calls.callWith_builtin rfl (PySem.evalArgs_none (hm pins s1 σ H1 x [] v [] Q I1 r1 .nil q1))⟩
theorem pe_bm (pa : PlainAttrs T) (slot : Slot T name id) (hty : typeOf (.builtin id) = pure (.type "method_descriptor")) (hm : MtR X id r) (ho : PE X o to) (ha : PA X (e :: es) t)
    (hbase : attributeBase o name X.env (eval o X.env) = eval o X.env := by rfl)
    (hfew : ((backTo cpos (starEach (e :: es) X.env)).all (fun x => !x.1) && (backToKw cpos (keywordEach [] X.env)).all (fun x => x.1.isSome)
      && decide ((e :: es).length + ([] : List Keyword).length + (if ([] : List Keyword).isEmpty then 0 else 1) < 30)) = true := by rfl)
    (hline : (apos.endLine == cpos.line) = true := by rfl) (hs : starEach (e :: es) X.env = (false, eval e X.env) :: starEach es X.env := by rfl) (hplain : (backTo cpos (starEach es X.env)).any (·.1) = false := by rfl) :
    PE X (.Call (.Attribute o name apos) (e :: es) [] cpos) (tBM X.K T r to t) := by
  intro pins s σ H Q I h
  refine wpAny_Call_method_late hbase hfew hline rfl (thn (ho pins s σ H _ I h) fun v s1 ⟨x, H1, I1, r1, ty, q1⟩ => ?_)
  obtain ⟨h1, h2⟩ := tyV_is I1 r1 ty
  refine ⟨T, id, pa, slot, hty, h1, h2, ?_⟩
  have hA := ha cpos pins s1 σ H1 _ I1 q1
  rw [hs] at hA ⊢
  refine Calls.callWith_builtin (by show (false || (backTo cpos (starEach es X.env)).any (·.1)) = false; rw [hplain] <;> rfl) (Calls.evalArgs_plain ?_)
  exact thn hA fun us s2 ⟨vs, H2, I2, r2, q2⟩ => hm pins s2 σ H2 x vs v us Q I2 r1 r2 q2
end
end L2
namespace L2
open PySem PySem.Spec PyProof.Rows
def MtM (X : Cx) (id : String) (r : V → List V → Hp → VK → Prop) : Prop :=
  ∀ (pins : List (Addr × Obj)) (s : Shared) (σ : St) (H : Hp) (x : V) (xs : List V) (v : Value) (us : List Value) (Q : VK), Inv X pins σ H s → RelV x v → Vals xs us → r x xs H Q →
    wpAny (model X.prog X.w) X.A (call (.builtin id) (v :: us)) (EP X pins σ Q) X.xe s
theorem Vals.one : ∀ {x : V} {us : List Value}, Vals [x] us → ∃ u, us = [u] ∧ RelV x u
  | _, _, .cons r .nil => ⟨_, rfl, r⟩
theorem Vals.zero : ∀ {us : List Value}, Vals [] us → us = []
  | _, .nil => rfl
section
variable {X : Cx} {pins : List (Addr × Obj)} {σ : St} {H : Hp} {s : Shared} {l b : Addr} {xs ys zs : List V}
theorem Inv.lset {its its' : List Value} {n : Nat} {f : Array Value → Array Value} {t' : Nat} (I : Inv X pins σ H s) (hH : H l = some (.lst xs))
    (e : s.heap.get? l = some { cls := .type "list", data := .seq its.toArray n }) (hf : f its.toArray = its'.toArray) (hv : Vals ys its') (hz : ys.length ≤ sizeLine) :
    Inv X pins σ (upd H l (.lst ys)) { s with heap := s.heap.update l (Obj.mapSeq f), toks := t' } := by
  have q := PySem.IsL.update e f
  rw [hf] at q
  refine I.write (x := l) (e := l) (by rw [hH]; exact trivial) (.inl rfl) (fun b' u hb hu => (Heap.get?_update_other s.heap (Obj.mapSeq f) (Ne.symm hb)).trans hu) ⟨_, q⟩ ?_
  exact ⟨hz, its', _, hv, q⟩
theorem Inv.lstM (I : Inv X pins σ H s) (hH : H l = some (.lst xs)) : xs.length ≤ sizeLine ∧ ∃ (its : List Value) (n : Nat), Vals xs its ∧ xs.length = its.length ∧ s.heap.get? l = some { cls := .type "list", data := .seq its.toArray n } := by
  obtain ⟨z, its, n, r, e⟩ := I.hok l _ hH
  exact ⟨z, its, n, r, r.length, e⟩
end
section
variable {X : Cx}
def rAppend : V → List V → Hp → VK → Prop := fun x vs H Q => ∃ l xs y, x = .ref l ∧ vs = [y] ∧ H l = some (.lst xs) ∧ xs.length < sizeLine ∧ Q .non (upd H l (.lst (xs ++ [y])))
theorem mt_append : MtM X "list.append" rAppend := by
  intro pins s σ H x vs v us Q I rx rv h
  obtain ⟨l, xs, y, rfl, rfl, hH, hz, q⟩ := h
  cases rx
  obtain ⟨u, rfl, ru⟩ := rv.one
  obtain ⟨z, its, n, r, hl, e⟩ := I.lstM hH
  refine call_meets F.slot_list_append ⟨_, e, rfl⟩ F.entry_list_append (F.args_list_append_2 _ _) (PySem.list_append l its.toArray n u (by rw [List.size_toArray]; omega)) ⟨e, ?_⟩
  refine ⟨.non, _, I.lset (its' := its ++ [u]) hH e (by simp) (r.append (.cons ru .nil)) ?_, rfl, q⟩
  rw [List.length_append, List.length_singleton]
  omega
def rClear : V → List V → Hp → VK → Prop := fun x vs H Q => ∃ l xs, x = .ref l ∧ vs = [] ∧ H l = some (.lst xs) ∧ Q .non (upd H l (.lst []))
theorem mt_clear : MtM X "list.clear" rClear := by
  intro pins s σ H x vs v us Q I rx rv h
  obtain ⟨l, xs, rfl, rfl, hH, q⟩ := h
  cases rx
  have hus := rv.zero
  subst hus
  obtain ⟨z, its, n, r, hl, e⟩ := I.lstM hH
  refine call_meets F.slot_list_clear ⟨_, e, rfl⟩ F.entry_list_clear (F.args_list_clear_1 _) (AutoSeq1.list_clear_list_0 l its.toArray n (by rw [List.size_toArray]; omega)) ⟨e, ?_⟩
  exact ⟨.non, _, I.lset (its' := []) (ys := []) hH e rfl .nil (Nat.zero_le _), rfl, q⟩
end
section
variable {prog : Program} {w : World} {A : Around} {E : Value → Shared → Prop} {s : Shared}
end
section
variable {X : Cx}
end
end L2
namespace Att
open PySem PySem.W PySem.Calls PyProof.Rows
theorem ints_of_wellAll {P : Params} {h : Heap} : ∀ (ns : List Int) (vs : List Value), WellAll P h vs (ns.map WData.int) → IntsAre vs ns := by
  intro ns
  induction ns with
  | nil =>
    intro vs w
    rw [List.map_nil] at w
    cases w
    exact .nil
  | cons n ns ih =>
    intro vs w
    rw [List.map_cons] at w
    cases w with
    | cons a b =>
      cases a
      exact .cons _ _ (ih _ b)
theorem script_of {l : OpenLaw} {n : Nat} (hn : l.most = some n) {P : Params} {h : Heap} {args : List WData} {vals : List Value}
    (hpre : l.row.toRowW.claim.pre args = true) (hwl : WellAll P h vals args) :
    ∃ a vs ns, vals = [Value.ref a] ∧ args = [WData.list (ns.map WData.int)] ∧ h.get? a = some { cls := .type "list", data := .seq vs.toArray } ∧ IntsAre vs ns ∧ ns.length ≤ n := by
  have hsh : WShape.hasAll [] args [.list .int] = true := (pre_splitW hpre).1
  have hc : l.pre.holds [] { args := args } = true := (pre_splitW hpre).2
  obtain ⟨d, r, rfl, h1, h2⟩ := hasAllW_cons hsh
  obtain rfl := hasAllW_nil h2
  obtain ⟨xs, rfl, h3⟩ := hasW_list h1
  obtain ⟨ns, rfl⟩ := items_int h3
  have hlen : ns.length ≤ n := by
    unfold OpenLaw.pre at hc
    have h4 : (WTm.not (.lt (.lit (.int (n : Int))) (.len (.arg 0)))).holds [] { args := [.list (ns.map .int)] } = true := by
      have h4 := (holds_andW hc).1
      rw [hn] at h4
      exact h4
    have h5 := condW_of h4 (w_not (w_lt w_lit (w_len_list (w_arg rfl))))
    rw [List.length_map] at h5
    refine Nat.le_of_not_lt fun q => ?_
    have q' : (n : Int) < ((ns.length : Nat) : Int) := by omega
    first
      | (rw [decide_eq_true q'] at h5; exact absurd h5 (by decide))
      | (simp at h5; omega)
  cases hwl with
  | cons w1 w2 =>
    cases w2
    cases w1 with
    | list ho hall => exact ⟨_, _, ns, rfl, rfl, ho, ints_of_wellAll ns _ hall, hlen⟩
theorem post_true (l : OpenLaw) (args : List WData) : l.row.toRowW.claim.post args (.bool true) args = true :=
  postW_of (r := l.row.toRowW) (X := (true == true))
    (show WShape.has [] (.bool true) .bool = true by first | rfl | decide | simp [WShape.has, WShape.arms, WShape.armsAll])
    (show (WTm.eq .res (.lit (.bool true))).value [] { args := args, res := some (.bool true), after := args } = some (.bool (true == true)) from w_eq_bool (w_res rfl) w_lit) rfl
theorem attach_call {l : OpenLaw} {n : Nat} {q : Program} {loose : List Str} {XP : (Str → Option Value) → Heap → Prop} {YP : World → Heap → Prop} {d : DefRec}
    (hn : l.most = some n) (hdf : d.params.defaults = [])
    (call : ∀ (w : World) (s₀ s₁ : Shared) (mg mb : Str → Option Value) (fa : Addr) (o : Obj) (pm cd doc : Value) (a : Addr) (vs : List Value) (ns : List Int),
      Ground q loose [] XP w s₀ mg mb s₁.heap → YP w s₁.heap →
      s₁.heap.get? fa = some o → o.data = .func (docDef d.name d.params d.body d.scope pm cd doc) → s₁.heap.CodeRec cd d.name → mg d.name = some (.ref fa) →
      s₁.heap.get? a = some { cls := .type "list", data := .seq vs.toArray } → IntsAre vs ns → ns.length ≤ n → s₁.gens = #[] →
      codeAny (model l.prog w) callerA (.call (.ref fa) ⟨[.ref a], []⟩) (fun r s' => r = .ok (.ret (.bool true)) ∧ OldK s₁.heap s'.heap ∧ s'.os = s₁.os ∧ AllBare s'.gens) s₁) :
    WalkO q loose XP YP l.row.toRowW d [] (fun f vs => PySem.call f vs) := by
  intro w s₀ s₁ mg mb G Y fa o pm cd doc dV kV ho hd hcd hD hmg hg args vals as hpre hlay hrd hwl hlo
  obtain rfl : dV = .none := Dflts.none hD hdf
  obtain rfl : kV = .none := Dflts.noKw hD
  obtain ⟨a, vs, ns, rfl, rfl, hobj, hints, hlen⟩ := script_of hn hpre hwl
  refine enter_call (codeAny_mono (call w s₀ s₁ mg mb fa o pm cd doc a vs ns G Y ho (fd_plain hd) hcd hmg hobj hints hlen hg) fun r s' hq => ?_)
  obtain ⟨rfl, h2, h3, h4⟩ := hq
  exact ⟨.inl ⟨.bool true, .bool true, [], rfl, fun _ => rfl, .bool true, post_true l _, fun _ => ⟨List.Pairwise.nil, fun _ hm => (nomatch hm)⟩⟩, h2, h3, h4⟩
section
variable {prog : Program} {w : World} {A : Around} {E : Value → Shared → Prop} {s : Shared} {K : Frag}
end
end Att
namespace L2
open PySem PySem.Spec PyProof.Rows
theorem vals_ints : ∀ {vs : List Value} {ns : List Int}, IntsAre vs ns → Vals (ns.map V.int) vs
  | _, _, .nil => .nil
  | _, _, .cons n t h => .cons ⟨t, rfl⟩ (vals_ints h)
end L2
namespace L2
open PySem PySem.Spec PyProof.Rows
end L2
namespace L2
open PySem PySem.Spec PyProof.Rows
def inClass (s : Stmt) (j : Nat) : Stmt := match s with
  | .ClassDef _ _ _ body _ _ _ _ _ _ _ => body.getD j (.Pass ⟨0, 0, 0, 0⟩)
  | _ => .Pass ⟨0, 0, 0, 0⟩
def defArgs (s : Stmt) : Arguments := match s with
  | .FunctionDef _ a _ _ _ _ _ _ _ _ => a
  | _ => { posonlyargs := [], args := [], vararg := none, kwonlyargs := [], kw_defaults := [], kwarg := none, defaults := [] }
def defBody (s : Stmt) : List Stmt := match s with
  | .FunctionDef _ _ b _ _ _ _ _ _ _ => b
  | _ => []
def defScope (s : Stmt) : Scope := match s with
  | .FunctionDef _ _ _ _ _ _ sc _ _ _ => sc
  | _ => { kind := .function, names := [], isGenerator := false, isCoroutine := false }
abbrev CX0 : CXT := fun _ _ _ _ _ _ => False
abbrev E0 : XK := fun _ _ _ => False
theorem pass0 {X : Cx} : Passes CX0 X E0 := fun _ _ _ _ _ _ _ h => h.elim
structure Fun (K : PySem.W.Frag) (x qual : Str) (st : Stmt) (f : Addr) (fd : FuncData) : Prop where
  ex : ∃ (oc : Value) (od : Option Addr) (kV doc pm : Value) (an : Option Addr) (cdv ct : Value) (osl : Array (Option Value)),
    fd = PySem.W.fnOf x qual (defArgs st) (defBody st) (defScope st) .none kV doc pm an cdv ct ∧ K.lookup f = some ⟨oc, od, .func fd, osl⟩ ∧ PySem.W.codeIn K cdv qual = true
  kp : PySem.W.keepIn K (.ref f) = true
section
variable {P : Program} {w : World} {K : PySem.W.Frag} {mg : Str → Option Value} {base : Heap}
theorem Fun.ok {x qual : Str} {st : Stmt} {f : Addr} {fd : FuncData} {N ps : List Str} {k : Nat} {sp : Sp} (F : Fun K x qual st f fd) (S : FnScope N ps (defScope st)) (len : ∀ vs H Q E, sp vs H Q E → vs.length = ps.length)
    (hbody : ∀ (cdv : Value) (A : Around) (outer : List Env) (s : Shared) (H : Hp) (vs : List V) (Q : VK) (E : XK), Room k (A.deeper (envOfC qual (defScope st) s.heap.objs.size f cdv)) → sp vs H Q E →
      ∃ t, PSs (cxOf CX0 P w K mg base N qual (defScope st) f cdv A outer s H E).nox (defBody st) t ∧ t { nx := fun _ H' => Q .non H', rt := Q } (start N vs) H) : FnOk P w K mg base CX0 (k + 1) f fd ps sp := by
  obtain ⟨oc, od, kV, doc, pm, an, cdv, ct, osl, rfl, lk, hcd⟩ := F.ex
  refine fn_of lk hcd S len fun A outer s H vs Q E hr hsp => ?_
  obtain ⟨t, h, q⟩ := hbody cdv A outer s H vs Q E hr hsp
  exact ⟨t, h.nox, q⟩
theorem Fun.binds {x qual : Str} {st : Stmt} {f : Addr} {fd : FuncData} {ps : List Str} (F : Fun K x qual st f fd)
    (h : ∀ (kV doc pm : Value) (an : Option Addr) (cdv ct : Value) (us : List Value), us.length = ps.length → bindArgs (PySem.W.fnOf x qual (defArgs st) (defBody st) (defScope st) .none kV doc pm an cdv ct) ⟨us, []⟩ = pure (ps.zip us)) : Binds K fd ps [] := by
  obtain ⟨oc, od, kV, doc, pm, an, cdv, ct, osl, rfl, lk, hcd⟩ := F.ex
  exact .all (h kV doc pm an cdv ct)
theorem fun_mk {x qual : Str} {st : Stmt} {f : Addr} {oc : Value} {od an : Option Addr} {osl : Array (Option Value)} {kV doc pm cdv ct : Value} (l : K.lookup f = some ⟨oc, od, .func (PySem.W.fnOf x qual (defArgs st) (defBody st) (defScope st) .none kV doc pm an cdv ct), osl⟩)
    (c : PySem.W.codeIn K cdv qual = true) (k : PySem.W.keepIn K (.ref f) = true) : Fun K x qual st f (PySem.W.fnOf x qual (defArgs st) (defBody st) (defScope st) .none kV doc pm an cdv ct) := ⟨⟨oc, od, kV, doc, pm, an, cdv, ct, osl, rfl, l, c⟩, k⟩
end
section
variable {X : Cx}
theorem pv (i : Nat) {x : Str} {pos : Pos} (hN : X.N[i]? = some x := by rfl) (hv : Vis X.env.scope x := by first | exact Or.inl rfl | exact Or.inr (Or.inl rfl) | exact Or.inr (Or.inr rfl)) (hd : (x == ("__debug__" : Str)) = false := by decide)
    (hcd : (x == ("__classdict__" : Str)) = false := by decide) : PE X (.Name x pos) (tVar i) := pe_var hN hv hd hcd
end
theorem iteF {A B : Prop} (h : B) : if false = true then A else B := by
  rw [if_neg Bool.false_ne_true]
  exact h
theorem iteT {A B : Prop} (h : A) : if true = true then A else B := by
  rw [if_pos rfl]
  exact h
theorem ite2 {c A B : Prop} [Decidable c] (h1 : c → A) (h2 : ¬ c → B) : if c then A else B := by
  by_cases h : c
  · rw [if_pos h]
    exact h1 h
  · rw [if_neg h]
    exact h2 h
theorem iteNS {c A B : Prop} [Decidable c] (hc : c) (h : B) : if (!decide c) = true then A else B := by
  rw [decide_eq_true hc]
  exact iteF h
def Same (H H' : Hp) : Prop := ∀ b o, H b = some o → H' b = some o
theorem Same.refl (H : Hp) : Same H H := fun _ _ h => h
theorem Same.trans {H H1 H2 : Hp} (a : Same H H1) (b : Same H1 H2) : Same H H2 := fun c o h => b c o (a c o h)
end L2
namespace L2
open PySem PySem.Spec PyProof.Rows
section
variable {X : Cx}
theorem call_isinst : CallR X (.builtin "isinstance") (fun xs H Q => ∃ x t n b, xs = [x, .ty n] ∧ TyOf X.K H x t ∧ PySem.W.kitOne X.K t (.type n) = some b ∧ Q (.bl b) H) := by
  intro pins s σ H xs us Q I r h
  obtain ⟨x, t, n, b, rfl, ty, e, q⟩ := h
  obtain ⟨u, u2, rfl, rx, r2⟩ := vals2 r
  cases (show u2 = Value.type n from r2)
  exact isinst_ok I rx ty e fun tk => ⟨.bl b, H, I.tok _, rfl, q⟩
end
end L2
namespace L2
open PySem PySem.Spec PyProof.Rows
def cloOf (env : Env) : List (Str × NameKind) → List (Str × Addr) → List (Str × Addr)
  | [], cs => cs
  | (n, k) :: r, cs => cloOf env r (if k == .free then match env.cells.lookup n with | some a => (n, a) :: cs | none => cs else cs)
theorem closureFor_free {scope : Scope} {env : Env} (h : ∀ y ∈ scope.names, y.2 = .free → ∃ c, env.cells.lookup y.1 = some c) : closureFor scope env = pure (cloOf env scope.names []) := by
  have key : ∀ (l : List (Str × NameKind)) (cs : List (Str × Addr)), (∀ y ∈ l, y.2 = .free → ∃ c, env.cells.lookup y.1 = some c) →
      (forIn l cs (fun (x : Str × NameKind) (r : List (Str × Addr)) => (if (x.2 == NameKind.free) = true then (do let a ← cellOf env x.1; pure (ForInStep.yield ((x.1, a) :: r))) else pure (ForInStep.yield r) : Sem (ForInStep (List (Str × Addr)))))) = (pure (cloOf env l cs) : Sem _) := by
    intro l
    induction l with
    | nil => intro cs _; rfl
    | cons y r ih =>
      intro cs hy
      obtain ⟨n, k⟩ := y
      have hr : ∀ z ∈ r, z.2 = .free → ∃ c, env.cells.lookup z.1 = some c := fun z hz => hy z (List.mem_cons_of_mem _ hz)
      rw [List.forIn_cons]
      by_cases hk : (k == NameKind.free) = true
      · obtain ⟨c, hc⟩ := hy (n, k) List.mem_cons_self (by simpa using hk)
        have e : cellOf env n = pure c := by unfold cellOf; rw [hc]
        simp only [hk, if_true, e, pure_bind, cloOf, hc]
        exact ih _ hr
      · have hk' : (k == NameKind.free) = false := by simpa using hk
        simp only [hk', Bool.false_eq_true, if_false, pure_bind, cloOf]
        exact ih _ hr
  have e : closureFor scope env = (forIn scope.names ([] : List (Str × Addr)) (fun (x : Str × NameKind) (r : List (Str × Addr)) => (if (x.2 == NameKind.free) = true then (do let a ← cellOf env x.1; pure (ForInStep.yield ((x.1, a) :: r))) else pure (ForInStep.yield r) : Sem (ForInStep (List (Str × Addr))))) >>= fun cs => pure cs) := by
    unfold closureFor
    rfl
  rw [e, key scope.names [] h]
  all_goals rfl
theorem cloOf_sub {env : Env} : ∀ (l : List (Str × NameKind)) (cs : List (Str × Addr)), (∀ p ∈ cs, env.cells.lookup p.1 = some p.2) → ∀ p ∈ cloOf env l cs, env.cells.lookup p.1 = some p.2
  | [], cs, h, p, hp => h p hp
  | (n, k) :: r, cs, h, p, hp => by
    unfold cloOf at hp
    refine cloOf_sub r _ ?_ p hp
    split
    · split
      · rename_i a ea
        intro q hq
        rcases List.mem_cons.mp hq with e | hq
        · rw [e]; exact ea
        · exact h q hq
      · exact h
    · exact h
theorem cloOf_keeps {env : Env} : ∀ (l : List (Str × NameKind)) (cs : List (Str × Addr)) {y : Str}, (∃ p ∈ cs, p.1 = y) → ∃ p ∈ cloOf env l cs, p.1 = y
  | [], cs, y, h => h
  | (n, k) :: r, cs, y, ⟨p, hp, e⟩ => by
    unfold cloOf
    refine cloOf_keeps r _ ?_
    split
    · split
      · exact ⟨p, List.mem_cons_of_mem _ hp, e⟩
      · exact ⟨p, hp, e⟩
    · exact ⟨p, hp, e⟩
theorem cloOf_has {env : Env} : ∀ (l : List (Str × NameKind)) (cs : List (Str × Addr)) {y : Str} {c : Addr}, (y, NameKind.free) ∈ l → env.cells.lookup y = some c → ∃ p ∈ cloOf env l cs, p.1 = y
  | (n, k) :: r, cs, y, c, hm, hc => by
    unfold cloOf
    rcases List.mem_cons.mp hm with e | hm
    · cases e
      refine cloOf_keeps r _ ?_
      rw [if_pos (by rfl), hc]
      exact ⟨_, List.mem_cons_self, rfl⟩
    · exact cloOf_has r _ hm hc
theorem lookup_of_mem {α : Type} : ∀ {l : List (Str × α)} {p : Str × α}, p ∈ l → ∃ c, l.lookup p.1 = some c
  | q :: l, p, h => by
    obtain ⟨n, a⟩ := q
    rw [List.lookup_cons]
    split
    · exact ⟨_, rfl⟩
    · rename_i hne
      rcases List.mem_cons.mp h with e | h
      · subst e; simp at hne
      · exact lookup_of_mem h
theorem cloOf_lookup {env : Env} {l : List (Str × NameKind)} {y : Str} {c : Addr} (hm : (y, NameKind.free) ∈ l) (hc : env.cells.lookup y = some c) : (cloOf env l []).lookup y = some c := by
  obtain ⟨p, hp, e⟩ := cloOf_has l [] hm hc
  obtain ⟨c', e'⟩ := lookup_of_mem hp
  rw [e] at e'
  have q := cloOf_sub l [] (fun _ z => nomatch z) _ (PySem.mem_of_lookup e')
  rw [hc] at q
  rw [e']
  exact q.symm
theorem cloOf_lookup_sub {env : Env} {l : List (Str × NameKind)} {y : Str} {c : Addr} (h : (cloOf env l []).lookup y = some c) : env.cells.lookup y = some c :=
  cloOf_sub l [] (fun _ z => nomatch z) _ (PySem.mem_of_lookup h)
theorem relabel_free {env : Env} : ∀ {names : List (Str × NameKind)} {x : Str} {k : NameKind}, (names.map fun (n, k) => if (k == NameKind.free && env.scope.kind == .function && env.kindOf n == some .cell) then (n, NameKind.cell) else (n, k)).lookup x = some k →
    ∃ k', names.lookup x = some k' ∧ (k' = k ∨ k' = .free)
  | [], _, _, h => by simp at h
  | (n, k0) :: r, x, k, h => by
    have ih := @relabel_free env r x k
    have h : List.lookup x ((if (k0 == NameKind.free && env.scope.kind == .function && env.kindOf n == some .cell) = true then (n, NameKind.cell) else (n, k0)) :: _) = some k := h
    cases hx : x == n with
    | true =>
      refine ⟨k0, by simp only [List.lookup_cons, hx], ?_⟩
      by_cases hc : (k0 == NameKind.free && env.scope.kind == .function && env.kindOf n == some .cell) = true
      · refine .inr ?_
        simp only [Bool.and_eq_true] at hc
        exact beq_iff_eq.mp hc.1.1
      · rw [if_neg hc] at h
        simp only [List.lookup_cons, hx] at h
        exact .inl (Option.some.inj h)
    | false =>
      have h2 : List.lookup x (r.map fun (n, k) => if (k == NameKind.free && env.scope.kind == .function && env.kindOf n == some .cell) then (n, NameKind.cell) else (n, k)) = some k := by
        by_cases hc : (k0 == NameKind.free && env.scope.kind == .function && env.kindOf n == some .cell) = true
        · rw [if_pos hc] at h; simp only [List.lookup_cons, hx] at h; exact h
        · rw [if_neg hc] at h; simp only [List.lookup_cons, hx] at h; exact h
      obtain ⟨k', e1, e2⟩ := ih h2
      exact ⟨k', by simp only [List.lookup_cons, hx]; exact e1, e2⟩
theorem relabel_of_free {env : Env} : ∀ {names : List (Str × NameKind)} {x : Str}, names.lookup x = some .free →
    (names.map fun (n, k) => if (k == NameKind.free && env.scope.kind == .function && env.kindOf n == some .cell) then (n, NameKind.cell) else (n, k)).lookup x = some .cell ∨
    (names.map fun (n, k) => if (k == NameKind.free && env.scope.kind == .function && env.kindOf n == some .cell) then (n, NameKind.cell) else (n, k)).lookup x = some .free
  | [], _, h => by simp at h
  | (n, k0) :: r, x, h => by
    have ih := @relabel_of_free env r x
    show List.lookup x ((if (k0 == NameKind.free && env.scope.kind == .function && env.kindOf n == some .cell) = true then (n, NameKind.cell) else (n, k0)) :: _) = some .cell ∨ List.lookup x ((if (k0 == NameKind.free && env.scope.kind == .function && env.kindOf n == some .cell) = true then (n, NameKind.cell) else (n, k0)) :: _) = some .free
    cases hx : x == n with
    | true =>
      simp only [List.lookup_cons, hx] at h
      by_cases hc : (k0 == NameKind.free && env.scope.kind == .function && env.kindOf n == some .cell) = true
      · rw [if_pos hc]; simp only [List.lookup_cons, hx]; simp
      · rw [if_neg hc]; simp only [List.lookup_cons, hx]; exact .inr (by rw [Option.some.inj h])
    | false =>
      simp only [List.lookup_cons, hx] at h
      by_cases hc : (k0 == NameKind.free && env.scope.kind == .function && env.kindOf n == some .cell) = true
      · rw [if_pos hc]; simp only [List.lookup_cons, hx]; exact ih h
      · rw [if_neg hc]; simp only [List.lookup_cons, hx]; exact ih h
def Cx.blk (X : Cx) (N' : List Str) (scope : Scope) (C : Addr) (fp : List Addr) (s : Shared) (H : Hp) : Cx :=
  { X with N := N', s₀ := s, H₀ := H, env := compEnvC scope (cloOf X.env scope.names []) C X.env, outer := X.stack, ex := fp, fn := fun _ => false, pn := [], xe := fun _ _ => False }
structure BlkScope (N : List Str) (sc scope : Scope) (x : Str) (N' : List Str) (fv : List Nat) : Prop where
  nocell : ∀ y ∈ scope.names, y.2 ≠ .cell
  kind : scope.kind = .function
  names : ∀ y ∈ scope.names, y.2 = .local → scope.names.lookup y.1 = some .local
  loc : scope.names.lookup x = some .local
  free : ∀ y ∈ scope.names, y.2 = .free → sc.names.lookup y.1 = some .cell ∨ sc.names.lookup y.1 = some .free
  nd : N'.Nodup
  hd : N'[0]? = some x
  len : N'.length = fv.length + 1
  at_ : ∀ j, j < fv.length → (N'[j + 1]?).isSome = true ∧ N'[j + 1]? = (fv[j]?).bind (fun i => N[i]?) ∧ (N'[j + 1]?).bind (fun y => scope.names.lookup y) = some .free
def blkVals (fv : List Nat) (σ : St) : St := fv.map fun k => (σ[k]?).join
abbrev testsOf (ifs : List Expr) (env : Env) : Sem Bool := forIn ifs true fun c r => if r = true then do let ok ← isTrue c env (eval c env); pure (ForInStep.yield ok) else pure (ForInStep.yield r)
def PTs (X : Cx) (ifs : List Expr) (t : TT) : Prop :=
  ∀ (pins : List (Addr × Obj)) (s : Shared) (σ : St) (H : Hp) (Q : Bool → Hp → Prop), Inv X pins σ H s → t σ H Q → wpAny (model X.prog X.w) X.A (testsOf ifs X.env) (TP X pins σ Q) X.xe s
def tAll : TT := fun _ H Q => Q true H
theorem pts_nil {X : Cx} : PTs X [] tAll := fun pins s σ H Q I h => wpAny_pure ⟨H, I, h⟩
def tLC (wi : TI) (fv : List Nat) (tt : TT) (te : TE) : TE := fun σ H Q => wi σ H fun J H1 => ∃ (W : Nat → List V → Hp → Prop) (n : Nat), W 0 [] H1 ∧ n ≤ sizeLine ∧ ∀ i ys H, W i ys H →
  (J.stop i H ∧ ∀ p, H p = none → Q (.ref p) (upd H p (.lst ys))) ∨
  (J.go i H ∧ i < n ∧ ∀ x H', J.yld i H x H' → tt (some x :: blkVals fv σ) H' fun c H2 => if c = true then te (some x :: blkVals fv σ) H2 fun y H3 => W (i + 1) (ys ++ [y]) H3 else W (i + 1) ys H2)
section
variable {X : Cx} {N' : List Str} {scope : Scope} {x : Str} {fv : List Nat}
theorem blk_inv {pins : List (Addr × Obj)} {σ : St} {H : Hp} {s : Shared} {fp : List Addr} {C : Addr} {h1 : Heap} {m : Str → Option Value} {tk : Nat} {pl : List (Addr × Obj)} (S : BlkScope X.N X.env.scope scope x N' fv) (I : Inv X pins σ H s)
    (hf : ∀ b ∈ fp, FpOk X pins H b) (hfo : ∀ b ∈ fp, b < s.heap.objs.size) (hC : s.heap.objs.size ≤ C) (kp : ∀ b o, s.heap.get? b = some o → h1.get? b = some o) (hn : h1.Ns C m)
    (hpl : ∀ p ∈ pl, h1.get? p.1 = some p.2 ∧ s.heap.objs.size ≤ p.1 ∧ p.1 ≠ C ∧ ∀ v, p.2.data ≠ .cell v) :
    Inv (X.blk N' scope C fp s H) pl (none :: blkVals fv σ) H { s with heap := h1, toks := tk } := by
  have clo : ∀ y c, (cloOf X.env scope.names []).lookup y = some c → X.env.cells.lookup y = some c := fun y c e => cloOf_lookup_sub e
  have cell : ∀ y c, (cloOf X.env scope.names []).lookup y = some c → ∃ v, s.heap.IsCell c v := fun y c e => I.cell y c (clo y c e)
  have lt : ∀ y c, (cloOf X.env scope.names []).lookup y = some c → c < s.heap.objs.size := fun y c e => by obtain ⟨v, q⟩ := cell y c e; exact q.lt
  have kc : ∀ c v, s.heap.IsCell c v → h1.IsCell c v := fun c v q => by obtain ⟨o, e, d⟩ := q; exact ⟨o, kp _ _ e, d⟩
  refine ⟨⟨I.ok.mod, S.kind, I.ok.glob, I.ok.blt, hC, fun y z c e1 e2 => I.ok.inj y z c (clo y c e1) (clo z c e2), fun y hy => ?_, fun y c e => ?_, I.ok.hd, I.ok.frames, .inl rfl, fun b hb => ⟨?_, fun y c e z => (hf b hb).2.2.2.2.1 y c (clo y c e) z⟩, fun b o e => I.bs b o e, Nat.le_trans I.ok.bsz I.sz, fun b o e hb => ?_, fun b hb hb2 => ?_, I.stack, I.stkFree⟩,
    rfl, I.bare, Un.kept kp, ⟨m, hn, fun i y v h1' h2 h3 => ?_⟩, fun y c e => ?_, I.hok.fresh hC, fun y c e => I.freeC y c (clo y c e), fun p hp => ?_, I.hok.kept kp, ?_⟩
  · have hy' : ∃ k, scope.names.lookup y = some k ∧ k = .free := by
      rcases hy with hy | hy
      · obtain ⟨k', e1, e2⟩ := relabel_free (env := X.env) (names := scope.names) (x := y) (k := .cell) hy
        rcases e2 with e2 | e2
        · exact absurd e2 (S.nocell _ (PySem.mem_of_lookup e1))
        · exact ⟨k', e1, e2⟩
      · obtain ⟨k', e1, e2⟩ := relabel_free (env := X.env) (names := scope.names) (x := y) (k := .free) hy
        rcases e2 with e2 | e2
        · exact ⟨k', e1, e2⟩
        · exact ⟨k', e1, e2⟩
    obtain ⟨k, e, rfl⟩ := hy'
    have hm := PySem.mem_of_lookup e
    obtain ⟨c, hc⟩ := I.ok.has y (S.free _ hm rfl)
    exact ⟨c, cloOf_lookup hm hc⟩
  · exact (Bool.false_ne_true (show false = true from e)).elim
  · exact Nat.ne_of_lt (Nat.lt_of_lt_of_le (hfo b hb) hC)
  · have e' := e
    rcases (hf b hb).2.2.2.1 with z | z
    · exact I.ok.noex b o e z
    · exact absurd (Nat.lt_of_lt_of_le (Heap.lt_size e) (Nat.le_trans I.ok.bsz z)) (Nat.lt_irrefl _)
  · have q := I.stkSub b hb2
    rcases List.mem_cons.mp q with z | z
    · exact (hf b hb).2.1 z
    · exact (hf b hb).2.2.1 z
  · cases i with
    | zero =>
      have z : (none : Option V) = some v := Option.some.inj h2
      cases z
    | succ j =>
      have h2' : (blkVals fv σ)[j]? = some (some v) := h2
      unfold blkVals at h2'
      rw [List.getElem?_map] at h2'
      cases ej : fv[j]? with
      | none => rw [ej] at h2'; cases h2'
      | some k =>
        rw [ej] at h2'
        have h4 : (σ[k]?).join = some v := Option.some.inj h2'
        have h5 : σ[k]? = some (some v) := by
          cases es : σ[k]? with
          | none => rw [es] at h4; cases h4
          | some w' => rw [es] at h4; rw [show w' = some v from h4]
        have hj : j < fv.length := (List.getElem?_eq_some_iff.mp ej).1
        obtain ⟨_, a1, a2⟩ := S.at_ j hj
        have h1'' : N'[j + 1]? = some y := h1'
        rw [h1''] at a1 a2
        rw [ej] at a1
        have a3 : X.N[k]? = some y := a1.symm
        have a4 : scope.names.lookup y = some .free := a2
        have hm := PySem.mem_of_lookup a4
        have kd : X.env.kindOf y = some .cell ∨ X.env.kindOf y = some .free := S.free _ hm rfl
        obtain ⟨mX, _, hlX⟩ := I.loc
        obtain ⟨u, ru, lk⟩ := hlX k y v a3 h5 (kd.elim (fun z => .inr (.inl z)) fun z => .inr (.inr z))
        refine ⟨u, ru, .inr ?_⟩
        rcases lk with ⟨z, _⟩ | ⟨_, c, hc, hcell⟩
        · rcases kd with z' | z' <;> rw [z'] at z <;> cases z
        · exact ⟨relabel_of_free (env := X.env) a4, c, cloOf_lookup hm hc, kc _ _ hcell⟩
  · obtain ⟨v, q⟩ := cell y c e
    exact ⟨v, kc _ _ q⟩
  · have hp' : p ∈ pl := hp
    obtain ⟨e, l1, l2, d⟩ := hpl p hp'
    exact ⟨e, I.hok.fresh l1, l2, fun z => absurd (I.stkSub _ z) (fun q => by
      rcases List.mem_cons.mp q with q | q
      · exact absurd I.lt (by rw [← q]; exact Nat.not_lt.mpr l1)
      · exact I.nofs l1 q), d⟩
  · show (none :: blkVals fv σ).length = N'.length
    rw [S.len]
    unfold blkVals
    simp
end
end L2
namespace L2
open PySem PySem.Spec PyProof.Rows
theorem nox {α : Type} {t : Sem α} {Q Q' : α → Shared → Prop} {M : Model} {A : Around} {E : Value → Shared → Prop} {s : Shared} (h : wpAny M A t Q (fun _ _ => False) s) (hQ : ∀ a s, Q a s → Q' a s) : wpAny M A t Q' E s := wpAny_mono h hQ fun _ _ f => f.elim
set_option maxHeartbeats 1600000 in
theorem pe_lc {X : Cx} {elt iter : Expr} {x : Str} {px : Pos} {ifs : List Expr} {scope : Scope} {pos : Pos} {N' : List Str} {fv : List Nat} {wi : TI} {tt : TT} {te : TE}
    (S : BlkScope X.N X.env.scope scope x N' fv) (hc : X.calm = true) (hi : PI X (.Name x px) iter wi)
    (ht : ∀ C fp s H, PTs (X.blk N' scope C fp s H) ifs tt) (he : ∀ C fp s H, PE (X.blk N' scope C fp s H) elt te)
    (hs : ∀ x, foldedSetIterable iter X.env x = pure x := by intro _; rfl) :
    PE X (.ListComp elt [⟨.Name x px, iter, ifs, 0⟩] scope pos) (tLC wi fv tt te) := by
  intro pins s σ H Q I h
  rw [eval_ListComp]
  refine wpAny_comprehension_free (use := none) rfl hs (closureFor_free fun y hy hk => I.ok.has y.1 (S.free y hy hk)) S.kind S.names
    (wpAny_mono (hi pins s σ H _ I h) (fun xv s1 h1 => wpAny_mono h1 (fun itv s2 h2 => ?_) fun _ _ e => e) fun _ _ e => e)
  obtain ⟨it, fp, tn, J, H2, rfl, I2, T, st2, f2, W, n, w0, hn, turn⟩ := h2
  refine wpAny_newObj_type (wpAny_newFunctionEnv S.nocell (by intro y hy; simp at hy) (fun h1 hns hsb => ?_) S.kind)
  dsimp only at hns hsb ⊢
  generalize hH : s2.heap.push { cls := .type "list", dict := none, data := .seq ([] : List Value).toArray } = G at hns hsb ⊢
  have hG : G.objs.size = s2.heap.objs.size + 1 := by rw [← hH, Heap.size_push]
  have kpG : ∀ b o, s2.heap.get? b = some o → G.get? b = some o := fun b o e => hH ▸ Heap.get?_push_of_some _ e
  have kp1 : ∀ b o, b < G.objs.size → G.get? b = some o → h1.get? b = some o := fun b o lt e => hsb.extBut b o (Nat.ne_of_lt lt) (Heap.get?_push_of_some _ e)
  have kp : ∀ b o, s2.heap.get? b = some o → h1.get? b = some o := fun b o e => kp1 b o (by rw [hG]; exact Nat.lt_succ_of_lt (Heap.lt_size e)) (kpG b o e)
  have hD : h1.PlainList s2.heap.objs.size #[] := ⟨_, kp1 _ _ (by rw [hG]; exact Nat.lt_succ_self _) (hH ▸ Heap.get?_push_size _ rfl)⟩
  have hDC : s2.heap.objs.size ≠ G.objs.size := by rw [hG]; exact Nat.ne_of_lt (Nat.lt_succ_self _)
  have hC : s2.heap.objs.size ≤ G.objs.size := by rw [hG]; exact Nat.le_succ _
  have hfo : ∀ b ∈ fp, b < s2.heap.objs.size := fun b hb => by obtain ⟨o, e, _⟩ := T.obj 0 _ st2 b hb; exact Heap.lt_size e
  have stat : ∀ {H' : Hp} {pl : List (Addr × Obj)}, (∀ b ∈ fp, H' b = none) → (∀ p ∈ pl, p.1 ∉ fp) → ∀ b ∈ fp, FpOk (X.blk N' scope G.objs.size fp s2 H2) pl H' b := fun {H' pl} hn hpl b hb => by
    obtain ⟨_, g1, g2, g3, g4, g5⟩ := f2 b hb
    refine ⟨hn b hb, Nat.ne_of_lt (Nat.lt_of_lt_of_le (hfo b hb) hC), fun z => ?_, .inl hb, fun y c e => g4 y c (cloOf_lookup_sub e), fun p hp e => ?_⟩
    · rcases List.mem_cons.mp (I2.stkSub b z) with q | q
      · exact g1 q
      · exact g2 q
    · exact hpl p hp (e ▸ hb)
  have hDf : s2.heap.objs.size ∉ fp := fun z => absurd (hfo _ z) (Nat.lt_irrefl _)
  have hlc : (X.blk N' scope G.objs.size fp s2 H2).env.scope.names.lookup x = some .local := lookup_relabel_local S.loc
  have hcl : ∀ y c, (X.blk N' scope G.objs.size fp s2 H2).env.cells.lookup y = some c → c ≠ s2.heap.objs.size := fun y c e z => by
    obtain ⟨v, q⟩ := I2.cell y c (cloOf_lookup_sub e)
    exact absurd q.lt (by rw [z]; exact Nat.lt_irrefl _)
  have pin1 : ∀ {s' : Shared} {H' : Hp} {ob : Obj} {i : Nat} {ys : List V}, Inv (X.blk N' scope G.objs.size fp s2 H2) [] (none :: blkVals fv σ) H' s' → s'.heap.get? s2.heap.objs.size = some ob → (∀ v, ob.data ≠ .cell v) → H' s2.heap.objs.size = none →
      Inv (X.blk N' scope G.objs.size fp s2 H2) [(s2.heap.objs.size, ob)] (none :: blkVals fv σ) H' s' := fun {s' H' ob i ys} J1 e d f => J1.pins_of fun p hp => by
    have z : p = (s2.heap.objs.size, ob) := by simpa using hp
    subst z
    refine ⟨e, f, hDC, fun z => ?_, d⟩
    rcases List.mem_cons.mp (I2.stkSub _ z) with q | q
    · exact absurd I2.lt (by rw [← q]; exact Nat.lt_irrefl _)
    · exact I2.nofs (Nat.le_refl _) q
  have loop : ∀ s3 : Shared, s3 = { s2 with heap := h1, toks := s2.toks + ([] : List (Str × Value)).length } →
      codeAny (model X.prog X.w) X.A (.compLoop (.ListComp elt [⟨.Name x px, iter, ifs, 0⟩] scope pos) 0 (.ref it) (.ref s2.heap.objs.size) (X.blk N' scope G.objs.size fp s2 H2).env)
        (compPost (model X.prog X.w) X.A X.xe none (EP X pins σ Q) (.ref s2.heap.objs.size) G.objs.size) s3 := by
    rintro s3 rfl
    refine codeAny_compLoop_tests (fun k s' => ∃ i ys H' its, k = n + 1 - i ∧ i ≤ n ∧ ys.length ≤ i ∧ Vals ys its ∧ s'.heap.PlainList s2.heap.objs.size its.toArray ∧
      Inv (X.blk N' scope G.objs.size fp s2 H2) [] (none :: blkVals fv σ) H' s' ∧ H' s2.heap.objs.size = none ∧ tn i s'.heap ∧ (∀ b ∈ fp, H' b = none) ∧ W i ys H') ?_ (n + 1)
      ⟨0, [], H2, [], rfl, Nat.zero_le _, Nat.le_refl _, .nil, hD, blk_inv S I2 f2 hfo hC kp hns (fun p hp => nomatch hp), I2.hok.fresh (Nat.le_refl _), T.keep _ _ _ st2 fun b _ o e => kp b o e, fun b hb => (f2 b hb).1, w0⟩
    rintro k s4 ⟨i, ys, H4, its, rfl, hin, hyi, rv, pl4, I4, fD4, st4, ff4, w4⟩
    obtain ⟨cnt, eD⟩ := id pl4
    have I4p := pin1 (i := i) (ys := ys) I4 eD (fun v z => by cases z) fD4
    have np : ∀ p ∈ [(s2.heap.objs.size, ({ cls := .type "list", data := .seq its.toArray cnt } : Obj))], p.1 ∉ fp := fun p hp => by
      have z : p = (s2.heap.objs.size, ({ cls := .type "list", data := .seq its.toArray cnt } : Obj)) := by simpa using hp
      subst z; exact hDf
    rcases turn i ys H4 w4 with ⟨stop, fin⟩ | ⟨go, hi2, step⟩
    · refine wpAny_mono (T.done (X.blk N' scope G.objs.size fp s2 H2) rfl rfl rfl hc i _ s4 _ H4 _ I4p (stat ff4 np) st4 stop) (fun r s5 ⟨hr, I5⟩ => ?_) fun _ _ e => e
      subst hr
      obtain ⟨m5, hm5, _⟩ := I5.loc
      have eD5 : s5.heap.get? s2.heap.objs.size = some { cls := .type "list", data := .seq its.toArray cnt } := (I5.pin _ (List.mem_append_right _ List.mem_cons_self)).1
      refine ⟨m5, hm5, fun h' sb => ⟨.ref s2.heap.objs.size, upd H4 s2.heap.objs.size (.lst ys), ?_, rfl, fin _ fD4⟩⟩
      have ltC : ∀ {b : Addr} {o : Obj}, s2.heap.get? b = some o → b ≠ G.objs.size := fun {b o} e => Nat.ne_of_lt (Nat.lt_of_lt_of_le (Heap.lt_size e) hC)
      have fD2 : H2 s2.heap.objs.size = none := I2.hok.fresh (Nat.le_refl _)
      have ltD : ∀ {b : Addr} {o : Obj}, s2.heap.get? b = some o → b ≠ s2.heap.objs.size := fun {b o} e => Nat.ne_of_lt (Heap.lt_size e)
      have B := I5.base
      refine I2.call' (s' := { s5 with heap := h' }) (ch := fp) I5.os ⟨fun b o e nb hb hx => ?_, fun b o e nb hb hx => ?_, fun b o e nb hx => ?_, fun b o e hx => ?_, fun b xs e => ?_, fun b o u e => ?_, fun b ps e => ?_⟩ ?_ I5.bare fun b hb => ?_
      · exact sb.extBut b o (ltC e) (B.keep b o e nb hb hx)
      · obtain ⟨sl, q⟩ := B.slot b o e nb hb hx
        exact ⟨sl, sb.extBut b _ (ltC e) q⟩
      · rw [upd_ne (ltD e)]; exact B.free b o e nb hx
      · obtain ⟨o', q⟩ := B.there b o e hx
        exact ⟨o', sb.extBut b o' (ltC e) q⟩
      · have e' : H2 b = some (.tup xs) := e
        rw [upd_ne (ne_of_none e' fD2)]; exact B.tups b xs e
      · have e' : H2 b = some (.frz o u) := e
        rw [upd_ne (ne_of_none e' fD2)]; exact B.frzs b o u e
      · have e' : H2 b = some (.tbl ps) := e
        rw [upd_ne (ne_of_none e' fD2)]; exact B.tbls b ps e
      · intro b u e
        by_cases hb : b = s2.heap.objs.size
        · subst hb
          rw [upd_same] at e
          cases e
          exact ⟨Nat.le_trans hyi (Nat.le_trans hin hn), its, cnt, rv, sb.extBut _ _ hDC eD5⟩
        · rw [upd_ne hb] at e
          have fC : H4 G.objs.size = none := I5.free
          refine (I5.hok b u e).stay (fun c v hc' q => sb.extBut c v ?_ q) (fun c q => by rw [upd_ne (ne_of_none q fD4)]; exact q) fun c xs q => by rw [upd_ne (ne_of_none q fD4)]; exact q
          rcases hc' with z | z
          · subst z; exact ne_of_none e fC
          · exact ne_of_none z fC
      · obtain ⟨_, g1, g2, g3, g4, g5⟩ := f2 b hb
        exact ⟨g3, g1, g4, g5⟩
    · refine wpAny_mono (T.item (X.blk N' scope G.objs.size fp s2 H2) rfl rfl rfl hc i _ s4 _ H4 _ I4p (stat ff4 np) st4 go) (fun r s5 ⟨u, hr, h5⟩ => ?_) fun _ _ e => e
      subst hr
      show wpAny _ _ (letOwnedTupleGo (.Name x px) (.ref it) u >>= fun _ => assign (.Name x px) (X.blk N' scope G.objs.size fp s2 H2).env u) _ _ s5
      refine wpAny_bind (wpAny_mono h5 (fun _ s6 ⟨xv, H6, I6, r6, y6, st6, ff6⟩ => ?_) fun _ _ e => e)
      have I6' := I6.pinned (stat ff6 np) (T.obj _ _ st6)
      have out : ∀ {σ' : St} {H' : Hp} {s' : Shared}, Inv (X.blk N' scope G.objs.size fp s2 H2) ([(s2.heap.objs.size, ({ cls := .type "list", data := .seq its.toArray cnt } : Obj))] ++ pinsAt fp s6.heap) σ' H' s' →
          s'.heap.PlainList s2.heap.objs.size its.toArray ∧ H' s2.heap.objs.size = none ∧ (∀ b ∈ fp, H' b = none) ∧ (∀ b ∈ fp, ∀ o, s6.heap.get? b = some o → s'.heap.get? b = some o) := fun {σ' H' s'} J1 => by
        have q := J1.pin (s2.heap.objs.size, ({ cls := .type "list", data := .seq its.toArray cnt } : Obj)) (List.mem_append_right _ (List.mem_append_left _ List.mem_cons_self))
        refine ⟨⟨cnt, q.1⟩, q.2.1, fun b hb => ?_, fun b hb o e => (J1.pin (b, o) (List.mem_append_right _ (List.mem_append_right _ (mem_pinsAt hb e)))).1⟩
        obtain ⟨o, e, d⟩ := T.obj _ _ st6 b hb
        exact (J1.pin (b, o) (List.mem_append_right _ (List.mem_append_right _ (mem_pinsAt hb e)))).2.1
      refine nox ((pg_name (X := X.blk N' scope G.objs.size fp s2 H2) (i := 0) S.nd S.hd (.inl hlc) (.inr hlc)) _ s6 _ H6 xv u (fun σ' H' => σ' = some xv :: blkVals fv σ ∧ H' = H6) I6' r6 ⟨rfl, rfl⟩) fun _ s7 ⟨σ7, H7, I7, e7, e7'⟩ => ?_
      subst e7 e7'
      refine nox (ht _ _ _ _ _ s7 _ H7 _ I7 (step xv H7 y6)) fun ok s8 ⟨H8, I8, q8⟩ => ?_
      cases ok with
      | false =>
        obtain ⟨o1, o2, o3, o4⟩ := out I8
        exact ⟨n + 1 - (i + 1), by omega, i + 1, ys, H8, its, rfl, hi2, Nat.le_succ_of_le hyi, rv, o1, (I8.pins_of (pins' := []) fun p hp => nomatch hp).weak (σ' := none :: blkVals fv σ) rfl (fun j v e => by
          cases j with
          | zero => cases (show (none : Option V) = some v from Option.some.inj e)
          | succ j => exact e), o2, T.keep _ _ _ st6 o4, o3, q8⟩
      | true =>
        refine nox (he _ _ _ _ _ s8 _ H8 _ I8 q8) fun yv s9 ⟨y, H9, I9, r9, q9⟩ => ?_
        obtain ⟨o1, o2, o3, o4⟩ := out I9
        have hlen := rv.length
        refine wpAny_list_append_plain (hsz := by rw [List.size_toArray, ← hlen]; exact Nat.le_trans hyi (Nat.le_trans hin hn)) o1 fun h' pl' sb' => ?_
        have I9' : Inv (X.blk N' scope G.objs.size fp s2 H2) [] (some xv :: blkVals fv σ) H9 { s9 with heap := h' } :=
          (I9.pins_of (pins' := []) fun p hp => nomatch hp).turned (t' := s9.toks) (it := s2.heap.objs.size) (fun b o hb e => sb'.extBut b o hb e) o2 hDC (.inr (Nat.le_refl _)) hcl (fun p hp => nomatch hp)
        refine ⟨n + 1 - (i + 1), by omega, i + 1, ys ++ [y], H9, its ++ [yv], rfl, hi2, by rw [List.length_append]; exact Nat.succ_le_succ hyi, rv.append (.cons r9 .nil), ?_, I9'.weak (σ' := none :: blkVals fv σ) rfl (fun j v e => by
          cases j with
          | zero => cases (show (none : Option V) = some v from Option.some.inj e)
          | succ j => exact e), o2, T.keep _ _ _ st6 fun b hb o e => sb'.extBut b o (fun z => hDf (z ▸ hb)) (o4 b hb o e), o3, q9⟩
        have e9 : (its ++ [yv]).toArray = its.toArray.push yv := by simp
        rw [e9]
        exact pl'
  exact codeAny_compStart_list (loop _ rfl) (T.self _ 0 _ _ _ (T.keep _ _ _ st2 fun b _ o e => kp b o e) (loop _ rfl))
end L2
namespace L2
open PySem PySem.Spec PyProof.Rows
end L2
namespace L2
open PySem PySem.Spec PyProof.Rows
end L2
namespace L2
open PySem PySem.Spec PyProof.Rows
open Builtin Builtin.Str
section
variable {X : Cx}
theorem call_sum_ints (hc : X.calm = true) : CallR X (.builtin "sum") (fun xs H Q => ∃ (p : Addr) (ns : List Int), xs = [.ref p] ∧ SqL X.K H p (ns.map V.int) ∧ Q (.int ns.sum) H) := by
  intro pins s σ H xs us Q I r h
  obtain ⟨p, ns, rfl, hq, q⟩ := h
  obtain ⟨u, rfl, rx⟩ := vals1 r
  cases (show u = Value.ref p from rx)
  obtain ⟨its, rv, pl, hz⟩ := I.list hq
  have ia : IntsAre its ns := intsAre_of rv
  obtain ⟨zs, ez⟩ := ia.allInts.items
  have hl : s.heap.IsList p (intItems zs) := ez ▸ pl.isList
  refine sum_intListG (I.ok.hd hc) hl fun h' tk t' hk => ⟨.int ns.sum, H, I.kept hk, ⟨t', ?_⟩, q⟩
  have en : ns = zs.toList.map (·.1) := (show numsOf its.toArray.toList = ns from ia.numsOf).symm.trans (by rw [ez, nums_intItems])
  rw [preSum_eq, List.take_of_length_le (by simp), en]
end
end L2
namespace L2
open PySem PySem.Spec PyProof.Rows
section
variable {X : Cx}
end
end L2
namespace L2
open PySem PySem.Spec PyProof.Rows
section
variable {X : Cx}
end
end L2
namespace L2
open PySem PySem.Spec PyProof.Rows
def Cov (l : List Env) (h0 : Heap) (H : Hp) (B h : Heap) : Prop := ∀ b o, h.get? b = some o → b ∉ frs l → (H b ≠ none ∨ ∃ o0, h0.get? b = some o0) → B.get? b = some o
def Fly (l : List Env) (h0 : Heap) (H : Hp) (ea C : Addr) (h : Heap) : Prop := ∃ B a0, Heap.FlyingW B l ea (.ref C) a0 h ∧ Cov l h0 H B h
def CXE (P : Program) (w : World) : CXT := fun outer H s E e s' => ∃ ea C H', e = .ref ea ∧ s'.os = s.os ∧ AllBare s'.gens ∧ Un (frs outer) [] H H' s.heap s'.heap ∧ HOk P w H' s'.heap ∧ Fly outer s.heap H' ea C s'.heap ∧ E e (some C) H'
theorem ObjOk.there {P : Program} {w : World} {H : Hp} {h : Heap} {a : Addr} {o : HO} (x : ObjOk P w H h a o) : ∃ ob, h.get? a = some ob := by
  cases o with
  | lst xs => obtain ⟨_, _, _, _, e⟩ := x; exact ⟨_, e⟩
  | tup xs => obtain ⟨_, _, _, o, e, _⟩ := x; exact ⟨_, e⟩
  | dK kvs => obtain ⟨_, _, _, _, o, _, _, e, _⟩ := x; exact ⟨_, e⟩
  | dT kvs => obtain ⟨_, _, _, _, o, _, _, e, _⟩ := x; exact ⟨_, e⟩
  | set S n => obtain ⟨o, _, _, _, e, _⟩ := x; exact ⟨_, e⟩
  | ins C dx fs => obtain ⟨_, _, _, e, _⟩ := x; exact ⟨_, e⟩
  | own y => obtain ⟨_, e⟩ := x; exact ⟨_, e⟩
  | xd fs => obtain ⟨_, ⟨_, _, _, e, _⟩, _⟩ := x; exact ⟨_, e⟩
  | rng lo hi => obtain ⟨_, _, _, e⟩ := x; exact ⟨_, e⟩
  | frz ob u => obtain ⟨e, _⟩ := x; exact ⟨_, e⟩
  | tbl ps => exact ⟨_, (show h.get? a = some _ from x)⟩
  | met f y => exact ⟨_, (show h.get? a = some _ from x)⟩
  | ext φ => obtain ⟨_, ⟨_, e⟩, _⟩ := x; exact ⟨_, e⟩
section
variable {l : List Env} {H : Hp} {B h h' hc : Heap} {P : Program} {w : World}
theorem Cov.stay (c : Cov l hc H B h) (st : B.StaysIn h') : ∀ b o, h.get? b = some o → b ∉ frs l → (H b ≠ none ∨ ∃ o0, hc.get? b = some o0) → h'.get? b = some o := fun b o e nb hb => st b o (c b o e nb hb)
theorem HOk.moved (x : HOk P w H h) (c : Cov l hc H B h) (st : B.StaysIn h') (fr : ∀ b ∈ frs l, H b = none) : HOk P w H h' := fun a o e => by
  refine (x a o e).stay (fun b u hb q => ?_) (fun b q => q) fun b xs q => q
  have tr : H b ≠ none := by
    rcases hb with rfl | hb
    · rw [e]; intro z; cases z
    · rw [hb]; intro z; cases z
  exact c.stay st b u q (fun z => tr (fr b z)) (.inl tr)
theorem Un.moved {fs : List Addr} {H0 : Hp} {h0 : Heap} (u : Un fs [] H0 H h0 h) (c : Cov l hc H B h) (st : B.StaysIn h') (sm : h.UpToSlots h') (ff : h.FunFrames B l) (hn : ∀ b o, h0.get? b = some o → ∃ o', hc.get? b = some o')
    (hf : ∀ b ∈ fs, b ∈ frs l) (hl : ∀ b o, h0.get? b = some o → b ∈ frs l → b ∈ fs) : Un fs [] H0 H h0 h' := by
  have kp : ∀ b o0 o, h0.get? b = some o0 → b ∉ fs → h.get? b = some o → h'.get? b = some o := fun b o0 o e0 nb e => c.stay st b o e (fun z => nb (hl b o0 e0 z)) (.inr (hn b o0 e0))
  have sl : ∀ b o, b ∈ fs → h.get? b = some o → ∃ sl, h'.get? b = some { o with slots := sl } := fun b o hb e => by
    obtain ⟨_, o', e', d⟩ := ff.mem (show b ∈ l.filterMap (·.frame) from hf b hb)
    rw [e] at e'
    cases e'
    exact sm b o e d
  refine ⟨fun b o e z nb hx => kp b o o e nb (u.keep b o e z nb hx), fun b o e z hb hx => ?_, u.free, fun b o e hx => ?_, u.tups, u.frzs, u.tbls⟩
  · obtain ⟨s1, q⟩ := u.slot b o e z hb hx
    obtain ⟨s2, q2⟩ := sl b _ hb q
    exact ⟨s2, q2⟩
  · obtain ⟨o1, q⟩ := u.there b o e hx
    by_cases hb : b ∈ fs
    · obtain ⟨s2, q2⟩ := sl b _ hb q
      exact ⟨_, q2⟩
    · exact ⟨o1, kp b o o1 e hb q⟩
theorem Cov.moved {h0 : Heap} {l' : List Env} {fs : List Addr} {H0 : Hp} (c : Cov l hc H B h) (st : B.StaysIn h') (x : HOk P w H h) (u : Un fs [] H0 H h0 h) (hn : ∀ b o, h0.get? b = some o → ∃ o', hc.get? b = some o')
    (hl : ∀ b, b ∉ frs l' → (H b ≠ none ∨ ∃ o0, h0.get? b = some o0) → b ∉ frs l) : Cov l' h0 H B h' := fun b o e nb hb => by
  have nl := hl b nb hb
  have hb' : H b ≠ none ∨ ∃ o0, hc.get? b = some o0 := hb.imp id fun ⟨o0, z⟩ => hn b o0 z
  have ex : ∃ o1, h.get? b = some o1 := by
    rcases hb with z | ⟨o0, z⟩
    · cases q : H b with
      | none => exact absurd q z
      | some u1 => exact (x b u1 q).there
    · exact u.there b o0 z (by simp)
  obtain ⟨o1, q⟩ := ex
  have q2 := c b o1 q nl hb'
  have q3 := st b o1 q2
  rw [e] at q3
  cases q3
  exact q2
end
structure Cx.Def (X : Cx) (E : XK) : Prop where
  stk : X.stack = X.env :: X.outer
  fr : X.env.frame = some X.env.locals
  ex : X.ex = []
  xe : X.xe = fun e s' => wpAny (model X.prog X.w) X.A (leaving X.env e) (fun _ s'' => CXE X.prog X.w X.outer X.H₀ X.s₀ E e s'') (fun e' s'' => CXE X.prog X.w X.outer X.H₀ X.s₀ E e' s'') s'
section
variable {X : Cx} {E : XK} {pins : List (Addr × Obj)} {σ : St} {H H' : Hp} {s s' : Shared}
theorem frs_cons (D : X.stack = X.env :: X.outer) (fr : X.env.frame = some X.env.locals) : frs X.stack = X.env.locals :: frs X.outer := by
  rw [D]
  show List.filterMap _ (X.env :: X.outer) = _
  rw [List.filterMap_cons, fr]
  rfl
theorem Inv.leaves {B h2 hc : Heap} {ea C : Addr} {a0 : Value} (D : X.Def E) (I : Inv X pins σ H s) (c : Cov X.stack hc H B s.heap) (hc0 : ∀ b o, X.s₀.heap.get? b = some o → ∃ o', hc.get? b = some o') (ff : s.heap.FunFrames B X.stack)
    (fl : Heap.FlyingW B X.outer ea (.ref C) a0 h2) (sm : s.heap.UpToSlots h2) (q : E (.ref ea) (some C) H) : CXE X.prog X.w X.outer X.H₀ X.s₀ E (.ref ea) { s with heap := h2 } := by
  have st := fl.1
  have fc := frs_cons D.stk D.fr
  have b0 : Un X.fs [] X.H₀ H X.s₀.heap s.heap := by have := I.base; rw [D.ex] at this; exact this
  have nL : ∀ b o, X.s₀.heap.get? b = some o → b ≠ X.env.locals := fun b o e z => absurd (Heap.lt_size e) (by rw [z]; exact Nat.not_lt.mpr I.ok.above)
  refine ⟨ea, C, H, rfl, I.os, I.bare, b0.moved c st sm ff hc0 (fun b hb => by rw [fc]; exact List.mem_cons_of_mem _ hb) (fun b o e hb => ?_), I.hok.moved c st I.stkFree, ⟨B, a0, fl, c.moved st I.hok b0 hc0 fun b nb hb => ?_⟩, q⟩
  · rw [fc] at hb
    rcases List.mem_cons.mp hb with z | z
    · exact absurd z (nL b o e)
    · exact z
  · rw [fc]
    intro z
    rcases List.mem_cons.mp z with z | z
    · subst z
      rcases hb with y | ⟨o0, y⟩
      · exact y I.free
      · exact nL _ o0 y rfl
    · exact nb z
theorem Inv.came {e : Value} {E' : XK} (I : Inv X pins σ H s) (h : CXE X.prog X.w X.stack H s E' e s') : ∃ ea C H', e = .ref ea ∧ Inv X pins σ H' s' ∧ Fly X.stack s.heap H' ea C s'.heap ∧ E' e (some C) H' := by
  obtain ⟨ea, C, H', rfl, os, bare, un, hok, fl, q⟩ := h
  obtain ⟨hh, g, d, t, os'⟩ := s'
  obtain rfl : os' = s.os := os
  exact ⟨ea, C, H', rfl, I.call (h' := hh) (g' := g) (d' := d) (t' := t) (ch := []) un hok bare (fun b z => absurd z (by simp)), fl, q⟩
theorem raiseE (D : X.Def E) {h1 : Heap} {ea C : Addr} {vs : List Value} (I : Inv X pins σ H s) (hx : Heap.MadeExcOf s.heap h1 ea (.ref C) vs) (q : E (.ref ea) (some C) H) : X.xe (.ref ea) { s with heap := h1 } := by
  rw [D.xe]
  have hfr : X.A.frames = some (X.env :: X.outer) := by rw [I.ok.frames, D.stk]
  have ff : s.heap.FunFrames (PySem.W.hideAll s.heap (frs X.stack)) (X.env :: X.outer) := by
    have := I.stack
    rw [D.stk] at this ⊢
    exact PySem.W.funFrames_hide this fun env he b hb => List.mem_filterMap.mpr ⟨env, he, hb⟩
  refine wpAny_leaves_madeW (s := { s with heap := h1 }) hfr D.fr (fun b o e => PySem.W.of_hideAll _ e) ff hx fun h2 t fl _ _ sm => ?_
  have c : Cov X.stack s.heap H (PySem.W.hideAll s.heap (frs X.stack)) s.heap := fun b o e nb _ => PySem.W.hideAll_get _ e nb
  have sub : ∀ b o, X.s₀.heap.get? b = some o → ∃ o', s.heap.get? b = some o' := fun b o e => I.base.there b o e (by rw [D.ex]; simp)
  have ff' : s.heap.FunFrames (PySem.W.hideAll s.heap (frs X.stack)) X.stack := by rw [D.stk] at ff ⊢; exact ff
  exact I.leaves (s := s) D c sub ff' fl ((Heap.UpToSlots.of_keeps hx.keeps).trans sm) q
end
theorem def_cx {P : Program} {w : World} {K : PySem.W.Frag} {mg : Str → Option Value} {base : Heap} {N : List Str} {qual : Str} {scope : Scope} {f : Addr} {cd : Value} {A : Around} {outer : List Env} {s : Shared} {H : Hp} {E : XK} :
    (cxOf (CXE P w) P w K mg base N qual scope f cd A outer s H E).Def E := ⟨rfl, rfl, rfl, rfl⟩
section
variable {P : Program} {w : World} {K : PySem.W.Frag} {mg : Str → Option Value} {base : Heap}
theorem Fun.okE {x qual : Str} {st : Stmt} {f : Addr} {fd : FuncData} {N ps : List Str} {k : Nat} {sp : Sp} (F : Fun K x qual st f fd) (S : FnScope N ps (defScope st)) (len : ∀ vs H Q E, sp vs H Q E → vs.length = ps.length)
    (hbody : ∀ (cdv : Value) (A : Around) (outer : List Env) (s : Shared) (H : Hp) (vs : List V) (Q : VK) (E : XK), Room k (A.deeper (envOfC qual (defScope st) s.heap.objs.size f cdv)) → sp vs H Q E →
      ∃ t, PSs (cxOf (CXE P w) P w K mg base N qual (defScope st) f cdv A outer s H E) (defBody st) t ∧ t { nx := fun _ H' => Q .non H', rt := Q } (start N vs) H) : FnOk P w K mg base (CXE P w) (k + 1) f fd ps sp := by
  obtain ⟨oc, od, kV, doc, pm, an, cdv, ct, osl, rfl, lk, hcd⟩ := F.ex
  exact fn_of lk hcd S len fun A outer s H vs Q E hr hsp => hbody cdv A outer s H vs Q E hr hsp
end
end L2
namespace L2
open PySem PySem.Spec PyProof.Rows
theorem own_in {K : PySem.W.Frag} {h : Heap} {mg : Str → Option Value} {x : Str} {C : Addr} {bm : List Value} {new : String} (kin : K.In h) (hm : mg x = some (.ref C)) (q : PySem.W.excIn K C bm new = true) : OwnCls x C bm new mg h := by
  have key : ∀ o, K.lookup C = some o → ∃ tl N nm qn bs hdct sn sub ab col dd k0 k1 k2 k3 k5 mN, h.get? C = some (excClassObj nm qn C N bs tl hdct sn sub ab col dd k0 k1 k2 k3 k5 new) ∧ h.Ns N mN ∧ mN "__init__" = none ∧ OwnTail h bm tl := fun o lk => by
    unfold PySem.W.excIn at q
    rw [lk] at q
    obtain ⟨oc, od, odt, osl⟩ := o
    split at q
    · rename_i dd cd sl e0
      cases (Option.some.inj e0)
      obtain ⟨nm, bs, mro, ns, qn, hd, sn, sub, ab, col, del⟩ := cd
      split at q
      · rename_i C2 tl k0 k1 k2 k3 n2 k5 em es
        dsimp only at em q
        simp only [Bool.and_eq_true, beq_iff_eq, Bool.not_eq_true'] at q
        obtain ⟨⟨⟨⟨⟨q1, q2⟩, q3⟩, q4⟩, q5⟩, q6⟩ := q
        subst q1 q2 q3 em
        have esl : osl = #[k0, k1, k2, k3, some (.builtin n2), k5] := Array.toList_inj.mp es
        subst esl
        exact ⟨tl, ns, nm, qn, bs, hd, sn, sub, ab, col, od, k0, k1, k2, k3, k5, _, kin _ _ lk, .of_isNs (PySem.W.isNs_of_in kin q5), PySem.W.nsMap_none_of_in kin q5 q6, PySem.W.tail_of_in kin q4⟩
      · cases q
    · cases q
  refine ⟨hm, ?_⟩
  cases lk : K.lookup C with
  | none => unfold PySem.W.excIn at q; rw [lk] at q; cases q
  | some o => exact key o lk
section
variable {X : Cx} {E : XK}
def tRaise (C : Addr) (E : XK) (ta : TA) : TS := fun _ σ H => ta σ H fun vs H1 => vs.length ≤ 1 ∧ ∀ ea, E (.ref ea) (some C) H1
theorem ps_raise {x : Str} {C : Addr} {bm : List Value} {B new init : String} {e : Expr} {ta : TA} {np cpos pos : Pos} (D : X.Def E) (hc : X.calm = true) (hg : Gl X x) (hm : X.mg x = some (.ref C))
    (q : PySem.W.excIn X.K C bm new = true) (FB : ExcBaseFacts B new init bm) (he : PA X [e] ta)
    (hst : starEach [e] X.env = [(false, eval e X.env)] := by rfl) (hd : (x == ("__debug__" : Str)) = false := by decide) :
    PS X (.Raise (some (.Call (.Name x np) [e] [] cpos)) none pos) (tRaise C E ta) := by
  intro pins s σ H D' I h
  obtain ⟨tl, N, nm, qn, bs, hdct, sn, sub, ab, col, dd, k0, k1, k2, k3, k5, mN, hC, hN, hni, T⟩ := (own_in I.ok.mod.kin hm q).obj
  refine wpAny_Raise_call_subT (C := C) (nm := nm) (q := qn) (N := N) (bs := bs) (bm := tl) (hdct := hdct) (sn := sn) (sub := sub) (ab := ab) (col := col) (dd := dd) (k0 := k0) (k1 := k1) (k2 := k2) (k3 := k3) (k5 := k5)
    FB (mN := mN) (T.hasType FB.hasBase) (I.ok.hd hc) (by rw [hst]; rfl) hni (ld_glob I hg hm ⟨rfl, ?_⟩ hd)
  have hsp := he cpos pins s σ H _ I h
  rw [hst] at hsp ⊢
  refine Calls.evalArgs_plain (wpAny_mono hsp (fun us s2 ⟨vs, H2, I2, r, hl, q2⟩ => ?_) fun _ _ y => y)
  have kb : ∀ b o, X.base.get? b = some o → s2.heap.get? b = some o := I2.bk
  refine ⟨rfl, ?_, kb _ _ hC, hN.keeps kb, T.keeps kb, fun h' e' hx => raiseE D I2 hx (q2 e')⟩
  have := r.length
  have h0 : (1 : Nat) ≤ sizeLine := by decide
  show us.length ≤ sizeLine
  omega
end
end L2
namespace L2
open PySem PySem.Spec PyProof.Rows
def ExcO (ea C : Addr) : HO := .ext fun h => ∃ o, h.get? ea = some o ∧ o.cls = .ref C
abbrev Cx.hnd (X : Cx) (ev : Value) : Cx := { X with A := X.A.mark (some ev), calm := false, xe := fun _ _ => False }
section
variable {X : Cx} {pins : List (Addr × Obj)} {σ : St} {H H1 : Hp} {s s1 : Shared} {ev : Value}
theorem Cx.Ok.hnd (ok : X.Ok) (ev : Value) : (X.hnd ev).Ok :=
  ⟨ok.mod, ok.kind, ok.glob, ok.blt, ok.above, ok.inj, ok.has, ok.cab, fun h => (by cases h), ok.frames, ok.stk, ok.exf, ok.bs, ok.bsz, ok.noex, ok.exfs, ok.funs, ok.frf⟩
theorem Inv.hnd (I : Inv X pins σ H s) (ev : Value) : Inv (X.hnd ev) pins σ H s := ⟨I.ok.hnd ev, I.os, I.bare, I.base, I.loc, I.cell, I.free, I.freeC, I.pin, I.hok, I.len⟩
theorem Inv.unhnd (ok : X.Ok) (I : Inv (X.hnd ev) pins σ H s) : Inv X pins σ H s := ⟨ok, I.os, I.bare, I.base, I.loc, I.cell, I.free, I.freeC, I.pin, I.hok, I.len⟩
theorem SP.unhnd {D : Ends} {f : Flow} {s' : Shared} (ok : X.Ok) (h : SP (X.hnd ev) pins D f s') : SP X pins D f s' := by
  cases f with
  | next => obtain ⟨σ', H', I', q⟩ := h; exact ⟨σ', H', I'.unhnd ok, q⟩
  | brk => obtain ⟨σ', H', I', q⟩ := h; exact ⟨σ', H', I'.unhnd ok, q⟩
  | cont => obtain ⟨σ', H', I', q⟩ := h; exact ⟨σ', H', I'.unhnd ok, q⟩
  | ret v => obtain ⟨x, σ', H', I', r, q⟩ := h; exact ⟨x, σ', H', I'.unhnd ok, r, q⟩
theorem UpToSlots.isCell {h h' : Heap} {c : Addr} {v : Option Value} (sm : h.UpToSlots h') (x : h.IsCell c v) : h'.IsCell c v := by
  obtain ⟨o, e, d⟩ := x
  obtain ⟨sl, e2⟩ := sm c o e fun vs q => by rw [d] at q; cases q
  exact ⟨_, e2, d⟩
theorem Inv.moved {B h2 : Heap} (I1 : Inv X pins σ H1 s1) (I : Inv X pins σ H s) (hst : X.stack = X.env :: X.outer) (fr : X.env.frame = some X.env.locals) (hex : X.ex = []) (c : Cov X.stack s1.heap H B s.heap) (st : B.StaysIn h2) (sm : s.heap.UpToSlots h2)
    (ff : s.heap.FunFrames B X.stack) : Inv X pins σ H { s with heap := h2 } := by
  have fc := frs_cons hst fr
  have b0 : Un X.fs [] X.H₀ H X.s₀.heap s.heap := by have := I.base; rw [hex] at this; exact this
  have sub : ∀ b o, X.s₀.heap.get? b = some o → ∃ o', s1.heap.get? b = some o' := fun b o e => I1.base.there b o e (by rw [hex]; simp)
  have nL : ∀ b o, X.s₀.heap.get? b = some o → b ≠ X.env.locals := fun b o e z => absurd (Heap.lt_size e) (by rw [z]; exact Nat.not_lt.mpr I.ok.above)
  refine ⟨I.ok, I.os, I.bare, ?_, ?_, fun x cc e => ?_, I.free, I.freeC, fun p hp => ?_, I.hok.moved c st I.stkFree, I.len⟩
  · rw [hex]
    refine b0.moved c st sm ff sub (fun b hb => by rw [fc]; exact List.mem_cons_of_mem _ hb) fun b o e hb => ?_
    rw [fc] at hb
    rcases List.mem_cons.mp hb with z | z
    · exact absurd z (nL b o e)
    · exact z
  · obtain ⟨m, hn, hl⟩ := I.loc
    refine ⟨m, sm.ns hn, fun i x v a b cc => ?_⟩
    obtain ⟨u, r, lk⟩ := hl i x v a b cc
    refine ⟨u, r, ?_⟩
    rcases lk with z | ⟨z, cl, e, ic⟩
    · exact .inl z
    · exact .inr ⟨z, cl, e, UpToSlots.isCell sm ic⟩
  · obtain ⟨v, q⟩ := I.cell x cc e
    exact ⟨v, UpToSlots.isCell sm q⟩
  · obtain ⟨e, f, nl, nf, d⟩ := I.pin p hp
    refine ⟨c.stay st p.1 p.2 e (fun z => ?_) (.inr ⟨_, (I1.pin p hp).1⟩), f, nl, nf, d⟩
    rw [fc] at z
    rcases List.mem_cons.mp z with z | z
    · exact nl z
    · exact nf z
theorem Inv.exc {ea C : Addr} {oe : Obj} (I : Inv X pins σ H s) (hx : H ea = none) (ho : s.heap.get? ea = some oe) (hc : oe.cls = .ref C) (h0 : X.s₀.heap.get? ea = none) (hL : ea ≠ X.env.locals) (hcl : ∀ y c, X.env.cells.lookup y = some c → c ≠ ea)
    (hp : ∀ p ∈ X.pn ++ pins, p.1 ≠ ea) : Inv X pins σ (upd H ea (ExcO ea C)) s := by
  refine ⟨I.ok, I.os, I.bare, ⟨I.base.keep, I.base.slot, fun b o e z nx => ?_, I.base.there, fun b xs e => ?_, fun b o u e => ?_, fun b ps e => ?_⟩, I.loc, I.cell, ?_, fun y c e => ?_, fun p hp' => ?_, fun b u e => ?_, I.len⟩
  · rw [upd_ne (fun z2 => by rw [z2, h0] at e; cases e)]; exact I.base.free b o e z nx
  · have q := I.base.tups b xs e
    rw [upd_ne (ne_of_none q hx)]; exact q
  · have q := I.base.frzs b o u e
    rw [upd_ne (ne_of_none q hx)]; exact q
  · obtain ⟨more, q⟩ := I.base.tbls b ps e
    exact ⟨more, by rw [upd_ne (ne_of_none q hx)]; exact q⟩
  · rw [upd_ne hL.symm]; exact I.free
  · rw [upd_ne (hcl y c e)]; exact I.freeC y c e
  · obtain ⟨e, f, r⟩ := I.pin p hp'
    exact ⟨e, by rw [upd_ne (hp p hp')]; exact f, r⟩
  · by_cases hb : b = ea
    · subst hb
      rw [upd_same] at e
      cases e
      exact ⟨⟨oe, ho, hc⟩, ⟨oe, ho⟩, fun h1 h2 ⟨o, e, c⟩ k => ⟨o, k o e, c⟩⟩
    · rw [upd_ne hb] at e
      exact (I.hok b u e).stay (fun c v _ q => q) (fun c q => by rw [upd_ne (ne_of_none q hx)]; exact q) fun c xs q => by rw [upd_ne (ne_of_none q hx)]; exact q
def Takes (X : Cx) (C CB : Addr) : Prop := ∀ (A : Around) (s : Shared) (ea : Addr) (ob : Obj) (Q : Bool → Shared → Prop) (E : Value → Shared → Prop), X.K.In s.heap → s.heap.get? ea = some ob → ob.cls = .ref C → Q true s → wpAny (model X.prog X.w) A (excMatches (.ref ea) (.ref CB)) Q E s
abbrev TX := St → Hp → VK → XK → Prop
def XP (X : Cx) (pins : List (Addr × Obj)) (σ : St) (E : XK) (ev : Value) (s' : Shared) : Prop := ∃ s1 H1 ea C H', Inv X pins σ H1 s1 ∧ ev = .ref ea ∧ Inv X pins σ H' s' ∧ Fly X.stack s1.heap H' ea C s'.heap ∧ E ev (some C) H'
def PEX (X : Cx) (e : Expr) (t : TX) : Prop :=
  ∀ (pins : List (Addr × Obj)) (s : Shared) (σ : St) (H : Hp) (Q : VK) (E : XK), Inv X pins σ H s → t σ H Q E → wpAny (model X.prog X.w) X.A (eval e X.env) (EP X pins σ Q) (XP X pins σ E) s
end
section
variable {X : Cx} {k : Nat} {f C : Addr} {fd : FuncData} {ps : List Str} {sp : Sp} {dvs : List V} {ds : List Value} {x : Str} {p pos : Pos} {e : Expr} {es : List Expr} {t : TA}
theorem run_fnX {pins : List (Addr × Obj)} {σ : St} {H : Hp} {s : Shared} {Q : VK} {E : XK} {us : List Value} {vs : List V} (F : FnOk X.prog X.w X.K X.mg X.base (CXE X.prog X.w) k f fd ps sp) (hr : Room k X.A) (hb : Binds X.K fd ps ds) (hd : Vals dvs ds)
    (I : Inv X pins σ H s) (r : Vals vs us) (h : sp (vs ++ dvs) H Q E) : wpAny (model X.prog X.w) X.A (call (.ref f) us) (EP X pins σ Q) (XP X pins σ E) s := by
  have r2 : Vals (vs ++ dvs) (us ++ ds) := r.append hd
  have hl : (us ++ ds).length = ps.length := by rw [← r2.length]; exact F.len _ _ _ _ h
  refine wpAny_call (codeAny_mono (F.run X.A X.stack s H ⟨us, []⟩ (us ++ ds) (vs ++ dvs) Q E hr I.env0 (hb s us I.kIn hl) r2 h) fun r s' hq => ?_)
  cases r with
  | error e =>
    obtain ⟨ea, C, H', e1, I', fl, q⟩ := I.came hq
    exact ⟨s, H, ea, C, H', I, e1, I', fl, q⟩
  | ok fl =>
    cases fl with
    | ret u => exact I.after hq
    | next => exact False.elim hq
    | brk => exact False.elim hq
    | cont => exact False.elim hq
end
section
variable {X : Cx} {e : Expr} {t : TX} {C CB : Addr} {cx y : Str} {np hpos pos py apos : Pos} {b₀ : Stmt} {suite : List Stmt} {th : TS} {j : Nat}
end
end L2
namespace L2
open PySem PySem.Spec PyProof.Rows PySem.Builtin PySem.Builtin.ObjectAttr PySem.Builtin.Getset_descriptor
section
variable {prog : Program} {w : World} {A : Around} {E : Value → Shared → Prop} {s : Shared} {K : PySem.W.Frag} {x D : Addr} {ox : Obj}
structure ExcK (K : PySem.W.Frag) (D : Addr) : Prop where
  ga : PySem.W.findIn K (.ref D) "__getattribute__" = some (some (.builtin "BaseException.__getattribute__"))
  gh : PySem.W.findIn K (.ref D) "__getattr__" = some none
  ha : PySem.W.findIn K (.ref D) "__class__" = some (some (.builtin "object.__class__"))
  hn : PySem.W.specialIn K (.builtin "object.__class__") "__get__" = some (some (.builtin "getset_descriptor.__get__"))
  htk : PySem.W.takesIn K (.builtin "object.__class__") = some true
  hm : PySem.W.mroIn K D (.type "object") = some true
  hb : PySem.W.mroIn K D (.type "BaseException") = some true
theorem find_data (Y : ExcK K D) (X : K.In s.heap) {M : Model} : PySem.W.Looks M s.heap (find (.ref x) (.ref D) "__class__") (.bind (.builtin "getset_descriptor.__get__") (.builtin "object.__class__")) := by
  have L1 := PySem.W.looks_findIn (M := M) X Y.ha
  have L2 : PySem.W.Looks M s.heap (getOf (some (.builtin "object.__class__"))) (some (.builtin "getset_descriptor.__get__")) := PySem.W.looks_specialIn X Y.hn
  refine L1.andThen (L2.andThen ?_)
  have L3 := PySem.W.looks_takesIn (M := M) X Y.htk
  exact (show PySem.W.Looks M s.heap (dataDescriptor? (some (.builtin "object.__class__")) (some (.builtin "getset_descriptor.__get__"))) (some (.builtin "getset_descriptor.__get__", .builtin "object.__class__")) from L3.andThen .now).andThen (PySem.W.Looks.tag .now)
theorem exc_type (hx : s.heap.get? x = some ox) (hc : ox.cls = .ref D) {M : Model} : PySem.W.Looks M s.heap (typeOf (.ref x)) (.ref D) := hc ▸ (PySem.W.Looks.ld hx).andThen .now
theorem exc_class_get (Y : ExcK K D) {R : Result → Shared → Prop} {tp : Value} (X : K.In s.heap) (hx : s.heap.get? x = some ox) (hc : ox.cls = .ref D)
    (h : R (.ok (.ret (.ref D))) s) : codeAny (model prog w) A (.call (.builtin "getset_descriptor.__get__") ⟨[.builtin "object.__class__", .ref x, tp], []⟩) R s := by
  have L0 := exc_type (M := model prog w) hx hc
  obtain ⟨hh, g, dr, t, os⟩ := s
  have L1 := PySem.W.looks_mroIn (M := model prog w) X Y.hm
  refine codeAny_call_builtin PySem.W.KF.slot_gs.plain PySem.W.KF.entry_gs (PySem.W.KF.slot_gs.check _ _ _ _ _ _ _ _ PySem.W.KF.type_class (PySem.W.KF.args_gs _ _ _) ?_)
  unfold Builtin.«getset_descriptor.__get__» descrGet
  rw [PySem.W.dga_obj]
  refine wpAny_bind (wpAny_pure ?_)
  unfold descrGetter descrCheckInstance descrNameAndClass isInstance
  simp only [PySem.W.KF.owner_class]
  repeat lk
  refine ⟨Code.quiet_builtin _ (by decide +kernel), codeAny_builtin PySem.W.KF.entry_class ?_⟩
  unfold Builtin.«object.__class__» shownTypeOf
  repeat lk
  exact h
theorem exc_ga_entry (Y : ExcK K D) {tk : Tok} {Q : Fin → Shared → Prop} (X : K.In s.heap) (hx : s.heap.get? x = some ox) (hc : ox.cls = .ref D)
    (h : Q (.done (.ret (.ref D))) s) :
    wpAny (model prog w) A (Builtin.«object.__getattribute__» ⟨[.ref x, .str "__class__" tk], []⟩) Q E s := by
  have L0 := exc_type (M := model prog w) hx hc
  have L1 := find_data (x := x) (M := model prog w) Y X
  obtain ⟨hh, g, dr, t, os⟩ := s
  unfold Builtin.«object.__getattribute__»
  repeat (first | with_reducible refine PySem.W.Looks.at (by assumption) ?_ | with_reducible refine wpAny_bind ?_ | with_reducible refine wpAny_holding ?_ | with_reducible refine wpAny_call ?_ | with_reducible refine wpAny_runValue ?_ | lk)
  refine exc_class_get (s := ⟨hh, g, dr, t, os⟩) Y X hx hc ?_
  repeat (any_goals (first | assumption | wp_step))
theorem exc_ga_check (Y : ExcK K D) {M : Model} {nameV : Value} {Q : Unit → Shared → Prop} (X : K.In s.heap) (hx : s.heap.get? x = some ox) (hc : ox.cls = .ref D) (hq : Q () s) : wpAny M A (checkBuiltinCall "BaseException.__getattribute__" ⟨[.ref x, nameV], []⟩) Q E s := by
  have hk : builtinKind "BaseException.__getattribute__" = some .slot := by decide +kernel
  have hsplit : splitId "BaseException.__getattribute__" = some ("BaseException", "__getattribute__") := by decide +kernel
  have ha := F.args_bexc_ga (.ref x) nameV
  have L0 := exc_type (M := M) hx hc
  have L1 := PySem.W.looks_mroIn (M := M) X Y.hb
  obtain ⟨hh, g, dr, t, os⟩ := s
  simp only [checkBuiltinCall, hk, hsplit]
  refine wpAny_bind ?_
  · unfold isInstance
    refine wpAny_bind (L0.at (L1.at ?_))
    repeat (first | exact hq | wp_step)
theorem exc_class (Y : ExcK K D) {Q : Option Value → Shared → Prop} (X : K.In s.heap) (hx : s.heap.get? x = some ox) (hc : ox.cls = .ref D) (h : Q (some (.ref D)) { s with toks := s.toks + 1 }) : wpAny (model prog w) A (getAttr? (.ref x) "__class__") Q E s := by
  have L0 := exc_type (M := model prog w) hx hc
  have L1 := PySem.W.looks_findIn (M := model prog w) X Y.ga
  have L2 := PySem.W.looks_findIn (M := model prog w) X Y.gh
  obtain ⟨hh, g, d, t, os⟩ := s
  have f3 := F.excAttr_ValueError.ga.bind (.ref x)
  have hx2 : (Value.builtin "BaseException.__getattribute__" == Value.builtin "object.__getattribute__") = false := by decide +kernel
  have hx1 : (onTheHeap (Value.ref D) && Value.builtin "BaseException.__getattribute__" == Value.builtin "object.__getattribute__") = false := by rw [hx2]; rfl
  unfold getAttr? getAttrBy? getAttrBy
  refine wpAny_bind (wpAny_mkText (wpAny_bind (wpAny_attempt (wpAny_holding (wpAny_bind (L0.at (wpAny_bind (L1.at ?_))))))))
  dsimp only
  rw [if_neg (by rw [hx1]; decide)]
  unfold getAttrByItsOwn hookBefore
  refine wpAny_bind ?_
  rw [if_pos (show onTheHeap (Value.ref D) = true from rfl)]
  refine L2.at (wpAny_bind (wpAny_attempt ?_))
  refine wpAny_holding ?_
  unfold callGetattribute boundAndCalled
  rw [if_neg (by decide), f3]
  refine wpAny_bind (wpAny_pure (wpAny_call (codeAny_call_builtin F.excAttr_ValueError.ga.plain F.entry_bexc_ga (exc_ga_check (s := ⟨hh, g, d, t + 1, os⟩) Y X hx hc (exc_ga_entry (s := ⟨hh, g, d, t + 1, os⟩) Y X hx hc ?_)))))
  repeat (any_goals (first | exact h | wp_step))
end
end L2
namespace L2
open PySem PySem.Spec PyProof.Rows
section
variable {K : PySem.W.Frag} {x D : Addr}
theorem kitx_exc (Y : ExcK K D) : PySem.W.KitX K (.ref x) (.ref D) (fun h => ∃ o, h.get? x = some o ∧ o.cls = .ref D) where
  ty := fun _ h _ ⟨o, h1, h2⟩ => h2 ▸ (PySem.W.Looks.ld h1).andThen .now
  it := fun _ _ X _ => by
    obtain ⟨cdD, hcD, _⟩ := Option.bind_eq_some_iff.mp Y.hm
    unfold PySem.W.clsIn at hcD
    split at hcD
    · rename_i c' d' cd' sl' ho
      intro A' Q' E' s' k q
      unfold isType loadHead
      exact wpAny_bind (wpAny_loadPart (k _ _ (X _ _ ho)) (wpAny_pure q))
    · cases hcD
  ne := fun h tp dd its n sl X htp => by
    obtain ⟨cdD, hcD, _⟩ := Option.bind_eq_some_iff.mp Y.hm
    refine Bool.eq_false_iff.mpr fun q => ?_
    have e : D = tp := Value.ref.inj (beq_iff_eq.mp q)
    subst e
    unfold PySem.W.clsIn at hcD
    split at hcD
    · rename_i c' d' cd' sl' ho
      have z := (X _ _ ho).symm.trans htp
      cases z
    · cases hcD
  ca := fun X ⟨o, h1, h2⟩ k => exc_class Y X h1 h2 k
end
section
variable {X : Cx}
theorem HOk.exc {P : Program} {w : World} {H : Hp} {h : Heap} {ea C : Addr} (x : HOk P w H h) (e : H ea = some (ExcO ea C)) : ∃ o, h.get? ea = some o ∧ o.cls = .ref C := by
  obtain ⟨q, _⟩ := x ea _ e
  exact q
theorem call_isinstEC {C : Addr} (Y : ExcK X.K C) : CallR X (.builtin "isinstance") (fun xs H Q => ∃ ea B b, xs = [.ref ea, .ref B] ∧ H ea = some (ExcO ea C) ∧ PySem.W.kitOne X.K (.ref C) (.ref B) = some b ∧ Q (.bl b) H) := by
  intro pins s σ H xs us Q I r h
  obtain ⟨ea, B, b, rfl, ty, e, q⟩ := h
  obtain ⟨u, u2, rfl, rx, r2⟩ := vals2 r
  cases (show u2 = Value.ref B from r2)
  cases (show u = Value.ref ea from rx)
  exact PySem.W.kia_one (kitx_exc Y) I.kIn (I.hok.exc ty) e (fun z => nomatch z) fun tk => ⟨.bl b, H, I.tok _, rfl, q⟩
end
section
variable {X : Cx} {pins : List (Addr × Obj)} {σ : St} {H H1 : Hp} {s s1 : Shared} {ev : Value}
theorem goes_ok {M : Model} {A : Around} {E : Value → Shared → Prop} {i : Nat} {x : Str} {pos : Pos} {Q : Unit → Shared → Prop} (I : Inv X pins σ H s) (hN : X.N.Nodup) (hi : X.N[i]? = some x) (hk : X.env.scope.names.lookup x = some .local)
    (h : ∀ s', Inv X pins (σ.set i none) H s' → Q () s') : wpAny M A (do bindName X.env x .none; unbindBehindTheSuite X.env x pos) Q E s := by
  obtain ⟨m, hn, hl⟩ := id I.loc
  have hcls : (X.env.scope.kind == .class || (X.env.scope.kind == .module && X.env.locals != X.env.globals)) = false := by rw [I.ok.kind]; rfl
  have hiσ : i < σ.length := by rw [I.len]; exact (List.getElem?_eq_some_iff.mp hi).1
  have cne := I.cne
  have tracked : ∀ {a : Addr} {h' : Heap}, (∃ o, s.heap.get? a = some o ∧ H a = none) → Heap.SameBut a s.heap h' → HOk X.prog X.w H h' := fun {a h'} ha hs b ob e => by
    obtain ⟨_, _, hfree⟩ := ha
    refine (I.hok b ob e).stay (fun c w' hc q => (hs.2 c ?_).trans q) (fun _ q => q) fun _ _ q => q
    rintro rfl
    rcases hc with rfl | hc
    · rw [hfree] at e; cases e
    · rw [hfree] at hc; cases hc
  refine wpAny_nameGoes_keeps hk hn hcls fun h' v0 hn' hs => ?_
  obtain ⟨oL, _, _, hoL, _⟩ := id hn
  refine h _ ⟨I.ok, I.os, I.bare, ⟨fun b o e n hb hx => ?_, fun b o e n hb hx => ?_, I.base.free, fun b o e hx => ?_, I.base.tups, I.base.frzs, I.base.tbls⟩, ⟨_, hn', fun j y v' e1 e2 e3 => ?_⟩, fun y c e => ?_, I.free, I.freeC, fun p hp => ?_, tracked ⟨oL, hoL, I.free⟩ hs, by simpa using I.len⟩
  · exact (hs.2 b (Nat.ne_of_lt (Nat.lt_of_lt_of_le (Heap.lt_size e) I.ok.above))).trans (I.base.keep b o e n hb hx)
  · obtain ⟨sl, e1⟩ := I.base.slot b o e n hb hx
    exact ⟨sl, (hs.2 b (Nat.ne_of_lt (Nat.lt_of_lt_of_le (Heap.lt_size e) I.ok.above))).trans e1⟩
  · obtain ⟨o', e1⟩ := I.base.there b o e hx
    exact ⟨o', (hs.2 b (Nat.ne_of_lt (Nat.lt_of_lt_of_le (Heap.lt_size e) I.ok.above))).trans e1⟩
  · by_cases hj : j = i
    · subst hj
      rw [List.getElem?_set_self hiσ] at e2
      cases e2
    · rw [List.getElem?_set_ne (Ne.symm hj)] at e2
      obtain ⟨u', r', q⟩ := hl j y v' e1 e2 e3
      refine ⟨u', r', ?_⟩
      rcases q with ⟨k, e⟩ | ⟨k, c, e, z⟩
      · refine .inl ⟨k, ?_⟩
        have : y ≠ x := fun e => hj (nodup_ix hN e1 (e ▸ hi))
        simp [this, e]
      · exact .inr ⟨k, c, e, z.sameBut hs (cne y c e)⟩
  · obtain ⟨w', z⟩ := I.cell y c e
    exact ⟨w', z.sameBut hs (cne y c e)⟩
  · obtain ⟨e, n, ne, nf, d⟩ := I.pin p hp
    exact ⟨(hs.2 p.1 ne).trans e, n, ne, nf, d⟩
theorem takes_sub {x y : Str} {C CB : Addr} {bm bm2 : List Value} {new new2 : String} (hm : X.mg x = some (.ref C)) (qx : PySem.W.excIn X.K C bm new = true) (hmB : X.mg y = some (.ref CB)) (qxB : PySem.W.excIn X.K CB bm2 new2 = true) (hb : bm2.contains (.type "BaseException") = true)
    (hs : PySem.W.mroIn X.K C (.ref CB) = some true) : Takes X C CB := by
  intro A s ea ob Q E k ho hc q
  obtain ⟨tl, N, nm, q', bs, hdct, sn, sub, ab, col, dd, k0, k1, k2, k3, k5, mN, hC, hN, hni, T⟩ := (own_in k hmB qxB).obj
  obtain ⟨h, g, d, t, os⟩ := s
  have he := ho
  have hcls := hc
  have hbase := T.hasType hb
  have hcB : (Value.ref CB :: tl).contains (.type "BaseException") = true := by rw [List.contains_cons, hbase, Bool.or_true]
  have f := tc_notTuple
  have L1 := PySem.W.looks_mroIn (M := model X.prog X.w) k hs
  unfold excMatches
  repeat (first | (with_reducible refine wpAny_loadPart_at he ?_; rw [hcls]) | with_reducible refine wpAny_loadPart_at hC ?_ | (with_reducible refine wpAny_isSubtype_exc hC ?_; rw [hcB]) | (with_reducible refine PySem.W.Looks.at (by assumption) ?_) | wp_step)
  exact q
def Ends.gone (D : Ends) (i : Nat) : Ends := ⟨fun σ H => D.nx (σ.set i none) H, D.rt, fun σ H => D.bk (σ.set i none) H, fun σ H => D.ct (σ.set i none) H⟩
theorem landsAs {n : Str} {i : Nat} {ea C CB : Addr} {cx : Str} {np hpos : Pos} {b₀ : Stmt} {suite : List Stmt} {rest : List ExceptHandler} {D : Ends} {th : TS} {E : Value → Shared → Prop} (I1 : Inv X pins σ H1 s1) (I : Inv X pins σ H s) (hst : X.stack = X.env :: X.outer) (fr : X.env.frame = some X.env.locals) (hex : X.ex = [])
    (fly : Fly X.stack s1.heap H ea C s.heap) (hg : Gl X cx) (hm : X.mg cx = some (.ref CB)) (tk : Takes X C CB) (hs : ∀ ev, PSs (X.hnd ev) (b₀ :: suite) th) (hN : X.N.Nodup) (hi : X.N[i]? = some n) (hk : X.env.scope.names.lookup n = some .local) (q : H ea = none → th (D.gone i) (σ.set i (some (.ref ea))) (upd H ea (ExcO ea C))) (hd : (cx == ("__debug__" : Str)) = false) :
    wpAny (model X.prog X.w) X.A (noteFrame (.ref ea) X.env) (fun _ s₂ => wpAny (model X.prog X.w) X.A (setFlight (.ref ea) none) (fun _ s₃ =>
      wpAny (model X.prog X.w) X.A (handleBy (.ref ea) X.env (.ExceptHandler (some (.Name cx np)) (some n) (b₀ :: suite) hpos :: rest)) (SP X pins D) E s₃) E s₂) E s := by
  obtain ⟨B, a0, fl, c⟩ := fly
  have hfr : X.A.frames = some (X.env :: X.outer) := by rw [I.ok.frames, hst]
  have ff := fl.2.2.1
  have fl' : Heap.FlyingW B (X.env :: X.outer) ea (.ref C) a0 s.heap := by rw [← hst]; exact fl
  refine wpAny_looks_onW hfr fr fl' fun h₄ held₄ sm₄ => ?_
  refine wpAny_landsW held₄ fun h₅ fl₅ sm₅ => ?_
  have I5 := Inv.moved I1 I hst fr hex c fl₅.1 (sm₄.trans sm₅) ff
  obtain ⟨ob, hob, hobc⟩ := fl₅.there
  refine wpAny_handleBy_cons (codeAny_handlers_test (ld_glob (X := X.hnd (.ref ea)) (I5.hnd (.ref ea)) hg hm ?_ hd)) (by intro z; cases z)
  refine tk _ _ ea ob _ _ I5.kIn hob hobc (codeAny_handlers_suite_as ?_)
  refine lands_againW (s := { s with heap := h₅ }) fl₅ fun h₆ fl₆ sm₆ => ?_
  have I6 := Inv.moved I1 I hst fr hex c fl₆.1 ((sm₄.trans sm₅).trans sm₆) ff
  obtain ⟨oe, ws, hoe, hoec, hoed, hoe0⟩ := fl₆.first
  have nfr : ea ∉ frs X.stack := fun z => by
    have ff6 := fl₆.2.2.1
    rw [← hst] at ff6
    obtain ⟨_, o', e', d'⟩ := ff6.mem (show ea ∈ X.stack.filterMap (·.frame) from z)
    rw [hoe] at e'
    cases e'
    exact d' ws hoed
  obtain ⟨o1, e1, _⟩ := fl.there
  have hB := fl.2.1
  have hHe : H ea = none := by
    cases z : H ea with
    | none => rfl
    | some u =>
      have := c ea o1 e1 nfr (.inl (by rw [z]; intro y; cases y))
      rw [hB] at this; cases this
  have h1e : s1.heap.get? ea = none := by
    cases z : s1.heap.get? ea with
    | none => rfl
    | some u =>
      have := c ea o1 e1 nfr (.inr ⟨u, z⟩)
      rw [hB] at this; cases this
  have h0e : X.s₀.heap.get? ea = none := by
    cases z : X.s₀.heap.get? ea with
    | none => rfl
    | some u =>
      obtain ⟨o', e'⟩ := I1.base.there ea u z (by rw [hex]; simp)
      rw [h1e] at e'; cases e'
  have I6x := I6.exc hHe hoe hoec h0e (fun z => nfr (by rw [frs_cons hst fr, z]; exact List.mem_cons_self)) (fun y cc e z => by
    obtain ⟨v, o, e', _⟩ := I1.cell y cc e
    rw [z, h1e] at e'; cases e') fun p hp z => by
      have := (I1.pin p hp).1
      rw [z, h1e] at this; cases this
  refine store_ok I6x hN hi (.inl hk) (v := .ref ea) rfl (fun s7 I7 => ?_) (.inr hk)
  refine wpAny_mono (hs (.ref ea) pins _ _ _ (D.gone i) (I7.hnd _) (q hHe)) (fun f s8 h8 => ?_) fun _ _ z => z.elim
  have h9 := SP.unhnd I.ok h8
  cases f with
  | next => obtain ⟨σ', H', I', q'⟩ := h9; exact goes_ok I' hN hi hk fun s9 I9 => ⟨_, H', I9, q'⟩
  | brk => obtain ⟨σ', H', I', q'⟩ := h9; exact goes_ok I' hN hi hk fun s9 I9 => ⟨_, H', I9, q'⟩
  | cont => obtain ⟨σ', H', I', q'⟩ := h9; exact goes_ok I' hN hi hk fun s9 I9 => ⟨_, H', I9, q'⟩
  | ret v => obtain ⟨x, σ', H', I', r, q'⟩ := h9; exact goes_ok I' hN hi hk fun s9 I9 => ⟨x, _, H', I9, r, q'⟩
end
section
variable {X : Cx} {e : Expr} {t : TX} {C CB : Addr} {cx n : Str} {np hpos pos epos : Pos} {b₀ : Stmt} {suite : List Stmt} {th : TS} {i : Nat}
def tTryAs (i : Nat) (C : Addr) (t : TX) (th : TS) : TS := fun D σ H => t σ H (fun _ H1 => D.nx σ H1) fun ev c H1 => ∃ ea, ev = .ref ea ∧ c = some C ∧ (H1 ea = none → th (D.gone i) (σ.set i (some (.ref ea))) (upd H1 ea (ExcO ea C)))
theorem ps_tryAs (hst : X.stack = X.env :: X.outer) (fr : X.env.frame = some X.env.locals) (hex : X.ex = []) (hN : X.N.Nodup) (hi : X.N[i]? = some n) (hk : X.env.scope.names.lookup n = some .local) (he : PEX X e t) (hg : Gl X cx) (hm : X.mg cx = some (.ref CB)) (tk : Takes X C CB)
    (hs : ∀ ev, PSs (X.hnd ev) (b₀ :: suite) th) (hd : (cx == ("__debug__" : Str)) = false := by decide) (hsw : swapsWith e none epos.line X.env = pure false := by rfl) :
    PS X (.Try [.Expr e epos] [.ExceptHandler (some (.Name cx np)) (some n) (b₀ :: suite) hpos] [] [] pos) (tTryAs i C t th) := by
  intro pins s σ H D I h
  refine wpAny_Try_except (wpAny_execs_cons (wpAny_mono (wpAny_Expr_any (Q := fun f s1 => f = .next ∧ SP X pins D .next s1) (wpAny_mono (he pins s σ H _ _ I h) (fun v s1 ⟨y1, H1, I1, r1, q1⟩ => ?_) fun ev s1 hx => ?_) I.quiet hsw) (fun f s1 hq => ?_) fun _ _ z => z))
  · exact ⟨rfl, _, H1, I1, q1⟩
  · obtain ⟨s0, H0, ea, C', H', I0, rfl, I', fl, ea2, e2, rfl', q⟩ := hx
    cases e2
    obtain rfl : C' = C := Option.some.inj rfl'
    exact landsAs I0 I' hst fr hex fl hg hm tk hs hN hi hk q hd
  · obtain ⟨rfl, hq⟩ := hq
    exact wpAny_execs_nil (wpAny_execs_nil hq)
end
end L2
namespace L2
open PySem PySem.Spec PyProof.Rows
section
variable {P : Program} {w : World} {K : PySem.W.Frag} {H : Hp} {h : Heap} {a b : Addr} {xs ys : List V}
theorem sqL_raw (hok : HOk P w H h) (kin : K.In h) (q : SqL K H a xs) : ∃ its : List Value, Vals xs its ∧ PlainL h a its.toArray ∧ xs.length ≤ sizeLine := by
  rcases q with q | ⟨o, its, n, hk, hc, hd, hs, hz, r⟩
  · obtain ⟨z, its, n, r, e⟩ := q.ok hok
    exact ⟨its, r, ⟨_, n, e, rfl, rfl, rfl⟩, z⟩
  · refine ⟨its.toList, r, ⟨o, n, kin a o hk, hc, hd, by simpa using hs⟩, ?_⟩
    have e := r.length
    simp only [Array.length_toList] at e
    omega
theorem sqT_raw (hok : HOk P w H h) (kin : K.In h) (q : SqT K H a xs) : ∃ its : List Value, Vals xs its ∧ IsTup h a its.toArray ∧ xs.length ≤ sizeLine := by
  rcases q with q | ⟨o, its, n, hk, hc, hs, hz, r⟩
  · obtain ⟨z, its, r, p⟩ := q.ok hok
    exact ⟨its, r, p, z⟩
  · refine ⟨its.toList, r, ⟨o, kin a o hk, hc, n, by simpa using hs⟩, ?_⟩
    have e := r.length
    simp only [Array.length_toList] at e
    omega
def TSame (H H' : Hp) : Prop := ∀ b xs, H b = some (.tup xs) → H' b = some (.tup xs)
end
def EqIs (K : PySem.W.Frag) (n : Nat) (H : Hp) (x y : V) (b : Bool) : Prop :=
  ∀ (P : Program) (w : World) (A : Around) (s : Shared) (u v : Value), A.units + n < cLine → HOk P w H s.heap → K.In s.heap → RelV x u → RelV y v → SeqAt.EqAt A s u v b
def RcIs (K : PySem.W.Frag) (n : Nat) (H : Hp) (x y : V) (b : Bool) : Prop :=
  ∀ (P : Program) (w : World) (A : Around) (s : Shared) (u v : Value), A.units + n < cLine → HOk P w H s.heap → K.In s.heap → RelV x u → RelV y v → SeqAt.RcAt A s u v b
def NeIs (K : PySem.W.Frag) (n : Nat) (H : Hp) (x y : V) (b : Bool) : Prop :=
  ∀ (P : Program) (w : World) (A : Around) (s : Shared) (u v : Value), A.units + n < cLine → HOk P w H s.heap → K.In s.heap → RelV x u → RelV y v → SeqAt.RcNeAt A s u v (!b)
section
variable {K : PySem.W.Frag} {H : Hp} {a b : Addr} {n m : Nat} {x y : V} {r : Bool}
theorem EqIs.mono (h : EqIs K n H x y r) (le : n ≤ m) : EqIs K m H x y r := fun P w A s u v hA => h P w A s u v (by omega)
theorem tupRc {us vs : List V} {e : Nat → Bool} (ha : SqT K H a us) (hb : SqT K H b vs) (hl : us.length = vs.length) (he : ∀ (j : Nat) x y, us[j]? = some x → vs[j]? = some y → EqIs K n H x y (e j)) :
    RcIs K (n + 1) H (.ref a) (.ref b) ((List.range us.length).all e) ∧ NeIs K (n + 1) H (.ref a) (.ref b) ((List.range us.length).all e) := by
  have main : ∀ (P : Program) (w : World) (A : Around) (s : Shared) (u v : Value), A.units + (n + 1) < cLine → HOk P w H s.heap → K.In s.heap → RelV (.ref a) u → RelV (.ref b) v →
      SeqAt.RcAt A s u v ((List.range us.length).all e) ∧ SeqAt.RcNeAt A s u v (!(List.range us.length).all e) := by
    intro P w A s u v hA hok kin r1 r2
    cases r1
    cases r2
    obtain ⟨i1, v1, p1, _⟩ := sqT_raw hok kin ha
    obtain ⟨i2, v2, p2, _⟩ := sqT_raw hok kin hb
    have l1 := v1.length
    have l2 := v2.length
    have items : ∀ j (h1 : j < i1.toArray.size) (h2 : j < i2.toArray.size), SeqAt.EqAt A.in1 s i1.toArray[j] i2.toArray[j] (e j) := fun j h1 h2 => by
      have h1' : j < i1.length := by simpa using h1
      have h2' : j < i2.length := by simpa using h2
      have e1 : us[j]? = some us[j] := List.getElem?_eq_getElem (by omega)
      have e2 : vs[j]? = some vs[j] := List.getElem?_eq_getElem (by omega)
      obtain ⟨u, eu, ru⟩ := v1.get e1
      obtain ⟨v, ev, rv⟩ := v2.get e2
      have q := he j _ _ e1 e2 P w A.in1 s u v (by show A.units + 1 + n < cLine; omega) hok kin ru rv
      have z1 : i1.toArray[j] = u := by
        rw [List.getElem?_eq_getElem h1'] at eu
        simpa using Option.some.inj eu
      have z2 : i2.toArray[j] = v := by
        rw [List.getElem?_eq_getElem h2'] at ev
        simpa using Option.some.inj ev
      rw [z1, z2]
      exact q
    have ez : ((List.range (min i1.toArray.size i2.toArray.size)).all e && i1.toArray.size == i2.toArray.size) = (List.range us.length).all e := by
      have s1 : i1.toArray.size = us.length := by simp [l1]
      have s2 : i2.toArray.size = us.length := by simp [← l2, hl]
      rw [s1, s2, Nat.min_self]
      simp
    constructor
    · have q := SeqAt.RcAt.tuples (A := A) (s := s) (e := e) p1 p2 (by omega) items
      rw [ez] at q
      exact q
    · have q := SeqAt.RcNeAt.tuples (A := A) (s := s) (e := e) p1 p2 (by omega) items
      rw [ez] at q
      exact q
  exact ⟨fun P w A s u v h1 h2 h3 h4 h5 => (main P w A s u v h1 h2 h3 h4 h5).1, fun P w A s u v h1 h2 h3 h4 h5 => (main P w A s u v h1 h2 h3 h4 h5).2⟩
theorem eqIs_ref (h : RcIs K n H (.ref a) (.ref b) r) (hs : ∀ (P : Program) (w : World) (h : Heap), HOk P w H h → K.In h → a = b → r = true) : EqIs K n H (.ref a) (.ref b) r := by
  intro P w A s u v hA hok kin r1 r2
  have q := h P w A s u v hA hok kin r1 r2
  cases r1
  cases r2
  by_cases e : a = b
  · rw [hs P w s.heap hok kin e, e]
    exact SeqAt.EqAt.same _
  · exact SeqAt.EqAt.of_refs e q
end
structure Cod (α : Type) [DecidableEq α] where
  n : Nat
  rp : PySem.W.Frag → Hp → α → V → Prop
  inj : ∀ {P : Program} {w : World} {K : PySem.W.Frag} {H : Hp} {h : Heap} {x y : α} {v : V}, HOk P w H h → K.In h → rp K H x v → rp K H y v → x = y
  eq : ∀ {K : PySem.W.Frag} {H : Hp} {x y : α} {u v : V}, rp K H x u → rp K H y v → EqIs K n H u v (decide (x = y))
  rc : ∀ {K : PySem.W.Frag} {H : Hp} {x y : α} {u v : V}, rp K H x u → rp K H y v → RcIs K n H u v (decide (x = y))
  ne : ∀ {K : PySem.W.Frag} {H : Hp} {x y : α} {u v : V}, rp K H x u → rp K H y v → NeIs K n H u v (decide (x = y))
  keep : ∀ {K : PySem.W.Frag} {H H' : Hp} {x : α} {v : V}, TSame H H' → rp K H x v → rp K H' x v
def cInt : Cod Int where
  n := 0
  rp _ _ i v := v = .int i
  inj _ _ h1 h2 := by
    rw [h1] at h2
    exact V.int.inj h2
  eq h1 h2 := by
    intro P w A s u v _ _ _ r1 r2
    subst h1 h2
    obtain ⟨t, rfl⟩ := r1
    obtain ⟨t', rfl⟩ := r2
    rw [← Bool.beq_eq_decide_eq]
    exact SeqAt.EqAt.int_int _ t _ t'
  rc h1 h2 := by
    intro P w A s u v _ _ _ r1 r2
    subst h1 h2
    obtain ⟨t, rfl⟩ := r1
    obtain ⟨t', rfl⟩ := r2
    rw [← Bool.beq_eq_decide_eq]
    exact SeqAt.RcAt.int_int _ t _ t'
  ne h1 h2 := by
    intro P w A s u v _ _ _ r1 r2
    subst h1 h2
    obtain ⟨t, rfl⟩ := r1
    obtain ⟨t', rfl⟩ := r2
    rw [← Bool.beq_eq_decide_eq]
    exact SeqAt.RcNeAt.int_int _ t _ t'
  keep _ h := h
section
variable {α β γ : Type} [DecidableEq α] [DecidableEq β] [DecidableEq γ]
end
section
variable {α : Type} [DecidableEq α] {K : PySem.W.Frag} {H : Hp}
theorem _root_.PySem.Paired.get {β γ : Type} {R : β → γ → Prop} : ∀ {xs : List β} {us : List γ}, Paired R xs us → ∀ {j : Nat} {u : γ}, us[j]? = some u → ∃ x, xs[j]? = some x ∧ R x u
  | _, _, .nil, j, u, e => by simp at e
  | _, _, .cons r t, 0, u, e => by simp at e; subst e; exact ⟨_, rfl, r⟩
  | _, _, .cons r t, j + 1, u, e => PySem.Paired.get t (j := j) (by simpa using e)
theorem _root_.PySem.Paired.get1 {β γ : Type} {R : β → γ → Prop} : ∀ {xs : List β} {us : List γ}, Paired R xs us → ∀ {j : Nat} {x : β}, xs[j]? = some x → ∃ u, us[j]? = some u ∧ R x u
  | _, _, .nil, j, u, e => by simp at e
  | _, _, .cons r t, 0, u, e => by simp at e; subst e; exact ⟨_, rfl, r⟩
  | _, _, .cons r t, j + 1, u, e => PySem.Paired.get1 t (j := j) (by simpa using e)
theorem _root_.PySem.Paired.len {β γ : Type} {R : β → γ → Prop} : ∀ {xs : List β} {us : List γ}, Paired R xs us → xs.length = us.length
  | _, _, .nil => rfl
  | _, _, .cons r t => by simp [PySem.Paired.len t]
theorem range_all_eq {xs ys : List α} {n : Nat} (h1 : xs.length = n) (h2 : ys.length = n) : ((List.range n).all fun j => decide (xs[j]? = ys[j]?)) = decide (xs = ys) := by
  rw [Bool.eq_iff_iff, List.all_eq_true, decide_eq_true_eq]
  constructor
  · intro h
    apply List.ext_getElem?
    intro i
    by_cases hi : i < n
    · exact of_decide_eq_true (h i (List.mem_range.mpr hi))
    · rw [List.getElem?_eq_none (by omega), List.getElem?_eq_none (by omega)]
  · intro h i _
    rw [h]
    exact decide_eq_true rfl
theorem listRc {c : Cod α} {a b : Addr} {us vs : List V} {xs ys : List α} (ha : SqL K H a us) (hb : SqL K H b vs) (px : Paired (c.rp K H) xs us) (py : Paired (c.rp K H) ys vs) :
    RcIs K (c.n + 1) H (.ref a) (.ref b) (decide (xs = ys)) ∧ NeIs K (c.n + 1) H (.ref a) (.ref b) (decide (xs = ys)) := by
  have main : ∀ (P : Program) (w : World) (A : Around) (s : Shared) (u v : Value), A.units + (c.n + 1) < cLine → HOk P w H s.heap → K.In s.heap → RelV (.ref a) u → RelV (.ref b) v →
      SeqAt.RcAt A s u v (decide (xs = ys)) ∧ SeqAt.RcNeAt A s u v (!decide (xs = ys)) := by
    intro P w A s u v hA hok kin r1 r2
    cases r1
    cases r2
    obtain ⟨i1, v1, p1, _⟩ := sqL_raw hok kin ha
    obtain ⟨i2, v2, p2, _⟩ := sqL_raw hok kin hb
    have l1 := v1.length
    have l2 := v2.length
    have m1 := px.len
    have m2 := py.len
    by_cases hl : i1.length = i2.length
    · have items : ∀ j (h1 : j < i1.toArray.size) (h2 : j < i2.toArray.size), SeqAt.EqAt A.in1 s i1.toArray[j] i2.toArray[j] (decide (xs[j]? = ys[j]?)) := fun j h1 h2 => by
        have h1' : j < i1.length := by simpa using h1
        have h2' : j < i2.length := by simpa using h2
        have e1 : us[j]? = some us[j] := List.getElem?_eq_getElem (by omega)
        have e2 : vs[j]? = some vs[j] := List.getElem?_eq_getElem (by omega)
        obtain ⟨u, eu, ru⟩ := v1.get e1
        obtain ⟨v, ev, rv⟩ := v2.get e2
        obtain ⟨x, ex, rx⟩ := px.get e1
        obtain ⟨y, ey, ry⟩ := py.get e2
        have q := c.eq rx ry P w A.in1 s u v (by show A.units + 1 + c.n < cLine; omega) hok kin ru rv
        have z1 : i1.toArray[j] = u := by
          rw [List.getElem?_eq_getElem h1'] at eu
          simpa using Option.some.inj eu
        have z2 : i2.toArray[j] = v := by
          rw [List.getElem?_eq_getElem h2'] at ev
          simpa using Option.some.inj ev
        rw [z1, z2, ex, ey]
        have e : decide ((some x : Option α) = some y) = decide (x = y) := decide_eq_decide.mpr ⟨fun z => Option.some.inj z, fun z => by rw [z]⟩
        rw [e]
        exact q
      have ez : (List.range i1.toArray.size).all (fun j => decide (xs[j]? = ys[j]?)) = decide (xs = ys) := range_all_eq (by rw [List.size_toArray]; omega) (by rw [List.size_toArray]; omega)
      constructor
      · have q := SeqAt.RcAt.lists (A := A) (s := s) p1.isList p2.isList (by simpa using hl) (by omega) items
        rw [ez] at q
        exact q
      · have q := SeqAt.RcNeAt.lists (A := A) (s := s) p1.isList p2.isList (by simpa using hl) (by omega) items
        rw [ez] at q
        exact q
    · have hsz : (i1.toArray.size != i2.toArray.size) = true := by simpa using hl
      have e : decide (xs = ys) = false := decide_eq_false fun z => hl (by rw [← l1, ← l2, ← m1, ← m2, z])
      rw [e]
      exact ⟨SeqAt.RcAt.lists_lengths p1.isList p2.isList hsz (by omega), SeqAt.RcNeAt.lists_lengths p1.isList p2.isList hsz (by omega)⟩
  exact ⟨fun P w A s u v h1 h2 h3 h4 h5 => (main P w A s u v h1 h2 h3 h4 h5).1, fun P w A s u v h1 h2 h3 h4 h5 => (main P w A s u v h1 h2 h3 h4 h5).2⟩
end
section
variable {X : Cx} {α : Type} [DecidableEq α]
theorem hun {c : Nat} {k : Nat} {A : Around} (hr : Room k A) (h : c ≤ 60 := by decide) : A.units + c + 1 < cLine := by
  have := hr.units
  omega
def LsOf (c : Cod α) (K : PySem.W.Frag) (H : Hp) (xs : List α) (v : V) : Prop := ∃ a us, v = .ref a ∧ SqL K H a us ∧ Paired (c.rp K H) xs us
theorem op_neL (c : Cod α) (hu : X.A.units + c.n + 1 < cLine) : OpR X (compareOp .NotEq) (fun x y H Q => ∃ xs ys, LsOf c X.K H xs x ∧ LsOf c X.K H ys y ∧ Q (.bl (!decide (xs = ys))) H) := by
  intro pins s σ H x y v u Q I rx ry h
  obtain ⟨xs, ys, ⟨a, us, rfl, ha, px⟩, ⟨b, vs, rfl, hb, py⟩, q⟩ := h
  exact (listRc ha hb px py).2 X.prog X.w X.A s v u (by omega) I.hok I.kIn rx ry X.prog X.w X.xe _ ⟨.bl _, H, I, rfl, q⟩
end
end L2
namespace L2
open PySem PySem.Spec PyProof.Rows
section
variable {prog : Program} {w : World} {A : Around} {R : Result → Shared → Prop} {s : Shared}
end
section
variable {X : Cx} {N' : List Str} {scope : Scope} {mm : Nat} {fv : List Nat}
end
end L2
namespace L2
open PySem PySem.Spec PyProof.Rows
section
variable {X : Cx}
end
section
variable {X : Cx} {α : Type} [DecidableEq α]
end
structure GF (P : Program) (w : World) (K : PySem.W.Frag) (mg : Str → Option Value) (base : Heap) (CX : CXT) (k : Nat) (x : Str) (ps : List Str) (sp : Sp) where
  f : Addr
  fd : FuncData
  ok : FnOk P w K mg base CX k f fd ps sp
  bd : Binds K fd ps []
  kp : PySem.W.keepIn K (.ref f) = true
  mgx : mg x = some (.ref f)
structure GM (P : Program) (w : World) (K : PySem.W.Frag) (mg : Str → Option Value) (base : Heap) (CX : CXT) (k : Nat) (C : Addr) (m : Str) (ps : List Str) (sp : Sp) where
  f : Addr
  fd : FuncData
  ok : FnOk P w K mg base CX k f fd ps sp
  bd : Binds K fd ps []
  me : Meth K C m f
section
variable {X : Cx} {CX : CXT} {j k : Nat} {x m : Str} {ps : List Str} {sp : Sp} {E : XK} {p pos apos : Pos} {e o : Expr} {es : List Expr} {t : TA} {ta : TE} {C : Addr}
theorem pc (G : GF X.prog X.w X.K X.mg X.base CX j x ps sp) (hr : Room k X.A) (ha : PA X (e :: es) t) (hx : Passes CX X E := by exact pass0) (hk : j ≤ k := by decide) (hg : Gl X x := by rfl)
    (hdb : (x == ("__debug__" : Str)) = false := by decide) (he : starEach (e :: es) X.env = (false, eval e X.env) :: starEach es X.env := by rfl) (hpl : (backTo pos (starEach es X.env)).any (·.1) = false := by rfl) :
    PE X (.Call (.Name x p) (e :: es) [] pos) (tCall sp [] E t) := pe_call G.ok (hr.mono hk) hg G.mgx G.kp G.bd .nil hx ha hdb he hpl
theorem pm0 {pl : Sem Bool} (G : GM X.prog X.w X.K X.mg X.base CX j C m ps sp) (ho : PE X o ta) (cl : Cls X.K C) (hr : Room k X.A) (hx : Passes CX X E := by exact pass0) (hk : j ≤ k := by decide)
    (ht : eval (.Call (.Attribute o m apos) [] [] pos) X.env = (do
      let ov ← eval o X.env
      standAt apos.atName
      let (f, first) ← holding [ov] (getMethod ov m pl)
      callWith pos f first (backTo pos (starEach [] X.env)) (backToKw pos (keywordEach [] X.env))) := by rfl) :
    PE X (.Call (.Attribute o m apos) [] [] pos) (tMeth C m sp [] E ta tNil) := pe_meth0 ho cl G.me G.ok (hr.mono hk) G.bd .nil hx ht
end
end L2
set_option maxHeartbeats 1000000
namespace L2
open PySem PySem.Spec PyProof.Rows
section
variable {K : PySem.W.Frag} {a : Addr} {xs : List V} {tt : TT} {te : TE} {bl : St} {Fin : List V → Hp → Prop} {H : Hp}
theorem tAllT {σ : St} {A B : Hp → Prop} (h : A H) : tAll σ H (fun c H2 => if c = true then A H2 else B H2) := by
  show if true = true then A H else B H
  exact @iteT (A H) (B H) h
end
end L2
namespace Lo
open PySem L2
inductive Kd where
  | read | mean | change
  deriving DecidableEq
def kdS : Kd → Str
  | .read => "read"
  | .mean => "mean"
  | .change => "change"
abbrev Lk := Kd × Int × Int
theorem same_new {H : Hp} {p : Addr} {o : HO} (h : H p = none) : Same H (upd H p o) := fun b u e => by
  rw [upd_ne (ne_of_none e h)]
  exact e
def Kp (p : Addr) (H H' : Hp) : Prop := ∀ b o, b ≠ p → H b = some o → H' b = some o
theorem Kp.of {p : Addr} {H H' : Hp} (h : Same H H') : Kp p H H' := fun b o _ e => h b o e
theorem kp_upd {p : Addr} {H : Hp} {o : HO} : Kp p H (upd H p o) := fun b u n e => by
  rw [upd_ne n]
  exact e
theorem fl : ¬ (("first" : Str) = "last") := by decide +kernel
def lf (f l : Int) : List (Str × V) := putF "last" (.int l) (putF "first" (.int f) [])
theorem lf_first (f l : Int) : (lf f l).lookup ("first" : Str) = some (.int f) := by
  unfold lf
  rw [lookup_putF, if_neg fl, lookup_putF, if_pos rfl]
theorem lf_last (f l : Int) : (lf f l).lookup ("last" : Str) = some (.int l) := by
  unfold lf
  rw [lookup_putF, if_pos rfl]
theorem lf_no (f l : Int) {m : Str} (h1 : ¬ m = "last") (h2 : ¬ m = "first") : (lf f l).lookup m = none := by
  unfold lf
  rw [lookup_putF, if_neg h1, lookup_putF, if_neg h2]
  rfl
def LkO (C : Kd → Addr) (H : Hp) (k : Lk) (v : V) : Prop := ∃ a dx, v = .ref a ∧ H a = some (.ins (C k.1) dx (lf k.2.1 k.2.2))
end Lo
set_option maxHeartbeats 1000000
namespace Lo
open PySem L2
structure TxB (mg : Str → Option Value) : Prop where
  isi : mg "isinstance" = none
  int : mg "int" = none
  bool : mg "bool" = none
  str : mg "str" = none
  len : mg "len" = none
  range : mg "range" = none
  tuple : mg "tuple" = none
  list : mg "list" = none
  any : mg "any" = none
  all : mg "all" = none
  max : mg "max" = none
  sorted : mg "sorted" = none
structure TxK (K : PySem.W.Frag) (C : Kd → Addr) : Prop where
  cl : ∀ k, Cls K (C k)
  nF : ∀ k, NoAttr K (C k) "first"
  nL : ∀ k, NoAttr K (C k) "last"
def kdN : Kd → Str
  | .read => "Read"
  | .mean => "Mean"
  | .change => "Change"
def spKind (k : Kd) : Sp := fun vs H Q _ => ∃ v, vs = [v] ∧ Q (.str (kdS k)) H
def spLInit (C : Kd → Addr) : Sp := fun vs H Q _ => ∃ a dx k f l, vs = [.ref a, .int f, .int l] ∧ H a = some (.ins (C k) dx []) ∧ Q .non (upd (upd H a (.ins (C k) dx (putF "first" (.int f) []))) a (.ins (C k) dx (lf f l)))
def spTold (C : Kd → Addr) : Sp := fun vs H Q _ => ∃ v k, vs = [v] ∧ LkO C H k v ∧ ∀ a, H a = none → Q (.ref a) (upd H a (.tup [.str (kdS k.1), .int k.2.1, .int k.2.2]))
theorem mk_same {H : Hp} {x dx : Addr} {o1 o2 o3 o4 : HO} (nx : H x = none) (nd : H dx = none) : Same H (upd (upd (upd (upd H dx o1) x o2) x o3) x o4) := fun b o e => by
  have n1 : b ≠ x := ne_of_none e nx
  have n2 : b ≠ dx := ne_of_none e nd
  rw [upd_ne n1, upd_ne n1, upd_ne n1, upd_ne n2]
  exact e
section
variable (C : Kd → Addr) (CL : Addr) (K : PySem.W.Frag)
end
def cellAt (ns : List Int) (k : Nat) : Int := (ns[k]?).getD 0
def spCell (K : PySem.W.Frag) : Sp := fun vs H Q _ => ∃ a ns k, vs = [.ref a, .int (k : Nat)] ∧ SqL K H a ((ns : List Int).map V.int) ∧ Q (.int (cellAt ns k)) H
end Lo
namespace Lo
open PySem L2
end Lo
namespace Lo
open PySem L2
section
variable {K : PySem.W.Frag}
theorem kit_ii : PySem.W.kitOne K (.type "int") (.type "int") = some true := rfl
theorem kit_tt : PySem.W.kitOne K (.type "tuple") (.type "tuple") = some true := rfl
theorem kit_ib : PySem.W.kitOne K (.type "int") (.type "bool") = some false := by kernel_rfl
end
def spWhole : Sp := fun vs H Q _ => ∃ i, vs = [.int i] ∧ Q (.bl true) H
end Lo
namespace Lo
open PySem L2
end Lo
set_option maxHeartbeats 1000000
namespace Lo
open PySem L2
section
variable {K : PySem.W.Frag} {a : Addr} {tt : TT} {te : TE} {bl : St} {Fin : List V → Hp → Prop} {H : Hp}
end
end Lo
namespace Lo
open PySem L2
end Lo
namespace Lo
open PySem L2
theorem cut_ints (ns : List Int) (lo hi : Option Int) : ∃ cs : List Int, cutV (ns.map V.int) lo hi = cs.map V.int ∧ cs.length ≤ ns.length := by
  refine ⟨(ns.drop (HT.sIx (ns.map V.int).length 0 lo)).take (HT.sIx (ns.map V.int).length (ns.map V.int).length hi - HT.sIx (ns.map V.int).length 0 lo), ?_, ?_⟩
  · unfold cutV
    rw [List.map_take, List.map_drop]
  · rw [List.length_take, List.length_drop]
    omega
end Lo
set_option maxHeartbeats 1000000
namespace Lo
open PySem L2
section
variable {X : Cx}
theorem call_isinstT : CallR X (.builtin "isinstance") (fun xs H Q => ∃ a ys, xs = [.ref a, .ty "tuple"] ∧ SqT X.K H a ys ∧ Q (.bl true) H) := by
  intro pins s σ H xs us Q I r h
  obtain ⟨a, ys, rfl, hq, q⟩ := h
  obtain ⟨u, w', rfl, r1, r2⟩ := vals2 r
  cases r1
  cases r2
  obtain ⟨its, rv, ⟨o, ho, hc, n, hd⟩, hz⟩ := I.tuple hq
  exact PySem.W.kia_one PySem.W.kitx_tuple I.kIn ⟨_, ho, hc⟩ (kit_tt (K := X.K)) (fun z => nomatch z) fun tk => ⟨.bl true, H, I.tok tk, rfl, q⟩
end
end Lo
set_option maxHeartbeats 1000000
namespace Lo
open PySem L2
section
variable {C : Kd → Addr} {CL : Addr} {K : PySem.W.Frag} {H H' : Hp} {l pl pl' d : Addr} {ps ps' : List Pr} {own : List (Addr × List V)} {xs ys : List V}
end
end Lo
set_option maxHeartbeats 1000000
namespace Lo
open PySem L2
section
variable {X : Cx}
end
end Lo
set_option maxHeartbeats 1000000
namespace Lo
open PySem L2
end Lo
set_option maxHeartbeats 1000000
namespace Lo
open PySem L2
section
variable {C : Kd → Addr} {CL : Addr} {K : PySem.W.Frag} {H H' : Hp} {l pl : Addr} {ps : List Pr} {own : List (Addr × List V)}
end
end Lo
set_option maxHeartbeats 1000000
namespace L2
open PySem PySem.Spec PyProof.Rows
section
variable {κ : Type} [DecidableEq κ]
end
section
variable {P : Program} {w : World} {H : Hp} {h : Heap} {a : Addr}
end
section
variable {X : Cx} {pins : List (Addr × Obj)} {σ : St} {H : Hp} {s : Shared} {a : Addr} {y v : V} {u r : Value} {o : Option V} {A : Around} {E : Value → Shared → Prop}
end
section
variable {X : Cx} {pins : List (Addr × Obj)} {σ : St} {H : Hp} {s : Shared} {a : Addr} {kvs : List (Key × V)} {k : Key} {u : Value} {A : Around} {E : Value → Shared → Prop}
end
section
variable {X : Cx} {o i e value : Expr} {pos pos' tpos : Pos} {td ty tv : TE}
end
section
variable {X : Cx} {pos : Pos}
end
section
variable {X : Cx} {pins : List (Addr × Obj)} {σ : St} {H : Hp} {s : Shared} {a : Addr} {y d : V} {u r : Value} {o : Option V} {A : Around} {E : Value → Shared → Prop}
end
section
variable {X : Cx} {o e f : Expr} {apos cpos : Pos} {td ty tx : TE}
end
end L2
set_option maxHeartbeats 1000000
namespace Lo
open PySem L2
section
variable {C : Kd → Addr} {CL : Addr} {K : PySem.W.Frag} {H H' : Hp}
variable {l0 pl0 q0 l1 pl1 q1 : Addr} {ps0 ps1 : List Pr} {us0 us1 : List V} {own : List (Addr × List V)}
end
section
variable {X : Cx}
end
end Lo
set_option maxHeartbeats 1000000
namespace L2
open PySem PySem.Spec PyProof.Rows PySem.W Lo
def BB (mg : Str → Option Value) (h : Heap) : Prop := ∃ bm ob, mg "__builtins__" = some (.ref bm) ∧ bm ≠ builtinsNs ∧ h.get? bm = some ob ∧ ob.cls = .type "module" ∧ ob.dict = some builtinsNs ∧ ob.data = .plain
def noT : HO → Prop
  | .tbl _ => False
  | _ => True
def SameX (H H' : Hp) : Prop := ∀ b o, noT o → H b = some o → H' b = some o
theorem Same.x {H H' : Hp} (e : Same H H') : SameX H H' := fun b o _ h => e b o h
theorem SameX.trans {H H1 H2 : Hp} (a : SameX H H1) (b : SameX H1 H2) : SameX H H2 := fun c o n h => b c o n (a c o n h)
theorem SameX.seq {K : Frag} {H H' : Hp} {a : Addr} {xs : List V} (e : SameX H H') (h : SqL K H a xs) : SqL K H' a xs := by
  rcases h with (h | ⟨o, h⟩) | h
  · exact .inl (.inl (e _ _ trivial h))
  · exact .inl (.inr ⟨o, e _ _ trivial h⟩)
  · exact .inr h
end L2
set_option maxHeartbeats 1000000
namespace HT
open PySem PyProof.Rows
section
open PySem.SeqAt
open PySem.AutoSeq1 (wpAny_loadPart')
open PySem.MeetsSeq PySem.MeetsSeq2 PySem.MeetsSeq3
end
section
variable {prog : Program} {w : World} {A : Around} {E : Value → Shared → Prop} {s : Shared}
end
end HT
namespace L2
open PySem PySem.Spec PyProof.Rows PySem.W Lo
section
variable {X : Cx} {pins : List (Addr × Obj)} {σ : St} {H : Hp} {E : Value → Shared → Prop} {Q : VK} {l f S It : Addr} {us : List V} {ns : List Pa} {B : Pa}
end
section
variable {X : Cx} {e a b : Expr} {te ta : TE} {pos p2 p3 p4 : Pos}
end
end L2
set_option maxHeartbeats 1000000
namespace L2
open PySem PySem.Spec PyProof.Rows PySem.W Lo
theorem law_callT {P : Program} {w : World} {K : Frag} {mg mb : Str → Option Value} {CX : CXT} {k : Nat} {fa a cc Pt : Addr} {fd : FuncData} {x : Str} {sp : Sp} {s₁ : Shared} {vs : List Value} {ns : List Int}
    (KX : K.In s₁.heap) (hns : s₁.heap.Ns mainGlobals mg) (hb : s₁.heap.Ns builtinsNs mb) (hbb : ∀ x : Str, x ≠ "__name__" → mb x = bootBuiltins x) (hlim : s₁.heap.NoLimit) (hg : s₁.gens = #[])
    (ha : s₁.heap.get? a = some { cls := .type "list", data := .seq vs.toArray }) (hi : IntsAre vs ns) (hl : ns.length ≤ sizeLine) (hr : Room k callerA)
    (hC : codeHdIn K cc Pt = true) (hT : s₁.heap.get? Pt = some (tabObj #[])) (hK : noTabs K = true) (hB : BB mg s₁.heap)
    (F : ∀ base : Heap, K.In base → BB mg base → FnOk P w K mg base CX k fa fd [x] sp) (hbind : ∀ (s : Shared) (u : Value), BindsTo s fd ⟨[u], []⟩ [(x, u)])
    (hsp : ∀ H : Hp, SqL K H a (ns.map V.int) → H Pt = some (.tbl #[]) → sp [.ref a] H (fun v _ => v = .bl true) fun _ _ _ => False)
    (hCX : ∀ H e s', CX [] H s₁ (fun _ _ _ => False) e s' → False) :
    codeAny (model P w) callerA (.call (.ref fa) ⟨[.ref a], []⟩) (fun r s' => r = .ok (.ret (.bool true)) ∧ OldK s₁.heap s'.heap ∧ s'.os = s₁.os ∧ AllBare s'.gens) s₁ := by
  have rv := vals_ints hi
  have lenV := hi.length
  have naP : a ≠ Pt := fun z => by
    rw [z, hT] at ha
    cases ha
  have kP : K.lookup Pt = none := by
    cases q : K.lookup Pt with
    | none => rfl
    | some o =>
      have h2 := List.all_eq_true.mp hK (Pt, o) (mem_of_lookupK q)
      have e := KX _ _ q
      rw [hT] at e
      cases e
      exact absurd (show false = true from h2) Bool.false_ne_true
  have tabC : s₁.heap.TableAt cc Pt #[] := (codeHd_of_K KX hC).tab hT
  have core : ∀ H : Hp, SqL K H a (ns.map V.int) → H Pt = some (.tbl #[]) → HOk P w H s₁.heap → (∀ b, H b ≠ none → b = a ∨ b = Pt) → (H a ≠ none → K.lookup a = none) → (∀ u, H a = some u → ∃ o xs, u = .frz o (.lst xs)) →
      codeAny (model P w) callerA (.call (.ref fa) ⟨[.ref a], []⟩) (fun r s' => r = .ok (.ret (.bool true)) ∧ OldK s₁.heap s'.heap ∧ s'.os = s₁.os ∧ AllBare s'.gens) s₁ := by
    intro H hS hP hok hA hKa hfz
    have base_of : ∀ {b : Addr} {o : Obj}, s₁.heap.get? b = some o → H b = none → (hidT s₁.heap H).get? b = some o := fun e n => hidT_get e n
    have noA : ∀ {b : Addr} {o : Obj}, s₁.heap.get? b = some o → (o.cls ≠ .type "list") → o.cls ≠ .none → H b = none := fun {b o} e d1 d2 => by
      cases q : H b with
      | none => rfl
      | some u =>
        rcases hA b (by rw [q]; simp) with e' | e'
        · subst e'
          rw [ha] at e
          cases e
          exact absurd rfl d1
        · subst e'
          rw [hT] at e
          cases e
          exact absurd rfl d2
    have noD : ∀ {b : Addr} {o : Obj} {es : Array DictEntry} {ep : Nat}, s₁.heap.get? b = some o → o.data = .dict es ep → H b = none := fun {b o es ep} e d => by
      cases q : H b with
      | none => rfl
      | some u =>
        rcases hA b (by rw [q]; simp) with e' | e'
        · subst e'
          rw [ha] at e
          cases e
          cases (show Data.seq vs.toArray _ = Data.dict es ep from d)
        · subst e'
          rw [hT] at e
          cases e
          cases (show Data.fields #[] = Data.dict es ep from d)
    have nsK : ∀ {b : Addr} {m : Str → Option Value}, s₁.heap.Ns b m → (hidT s₁.heap H).Ns b m := fun {b m} ⟨o, es, ep, e, d, r⟩ => ⟨o, es, ep, base_of e (noD e d), d, r⟩
    have hKb : K.In (hidT s₁.heap H) := fun b o e => base_of (KX b o e) (by
      cases q : H b with
      | none => rfl
      | some u =>
        rcases hA b (by rw [q]; simp) with e' | e'
        · subst e'
          rw [hKa (by rw [q]; simp)] at e
          cases e
        · subst e'
          rw [kP] at e
          cases e)
    have hM : Mod K mg (hidT s₁.heap H) := ⟨hKb, nsK hns, ⟨mb, nsK hb, hbb⟩, let ⟨mc, h1, h2⟩ := hlim; ⟨mc, nsK h1, h2⟩⟩
    have hBb : BB mg (hidT s₁.heap H) := by
      obtain ⟨bm, ob, b1, b2, b3, b4, b5, b6⟩ := hB
      exact ⟨bm, ob, b1, b2, base_of b3 (noA b3 (by rw [b4]; decide) (by rw [b4]; nofun)), b4, b5, b6⟩
    have e0 : Env0 P w K mg (hidT s₁.heap H) callerA [] s₁ H := ⟨rfl, hM, fun b o e => of_hidT e, Nat.le_of_eq (hidT_size _ _), trivial, fun b hb => absurd (show b ∈ ([] : List Addr) from hb) (by simp), hok, .of_eq hg⟩
    refine codeAny_mono ((F _ hKb hBb).run callerA [] s₁ H ⟨[.ref a], []⟩ [.ref a] [.ref a] _ _ hr e0 (hbind s₁ (.ref a)) (.cons rfl .nil) (hsp H hS hP)) fun r s' h => ?_
    cases r with
    | error e => exact (hCX H e s' h).elim
    | ok fl =>
      cases fl with
      | next => exact False.elim h
      | brk => exact False.elim h
      | cont => exact False.elim h
      | ret u =>
        obtain ⟨v, H', os, bare, un, hok', r', q⟩ := h
        have q' : v = .bl true := q
        subst q'
        obtain rfl : u = Value.bool true := r'
        have plain : ∀ b o, s₁.heap.get? b = some o → b ≠ Pt → s'.heap.get? b = some o := fun b o e nP => by
          cases q : H b with
          | none => exact un.keep b o e q (by intro z; exact absurd (show b ∈ ([] : List Addr) from z) (by simp)) (by simp)
          | some u =>
            rcases hA b (by rw [q]; simp) with e' | e'
            · subst e'
              obtain ⟨ob, xs, rfl⟩ := hfz u q
              have z2 := un.frzs b ob _ q
              obtain ⟨e1, _⟩ := hok b _ q
              obtain ⟨e2, _⟩ := hok' b _ z2
              rw [e] at e1
              cases e1
              exact e2
            · exact absurd e' nP
        obtain ⟨more, eP⟩ := un.tbls Pt #[] hP
        have tP : s'.heap.get? Pt = some { cls := .none, data := .fields (#[] ++ more) } := hok' Pt _ eP
        refine ⟨rfl, ⟨fun b o e => ?_, fun b o e => ?_⟩, os, bare⟩
        · by_cases z : b = Pt
          · subst z
            rw [hT] at e
            cases e
            exact .inr (.inl ⟨tabC.isCodeTable, rfl, #[], more, rfl, tP⟩)
          · exact .inl (plain b o e z)
        · by_cases z : b = Pt
          · subst z
            exact ⟨_, tP⟩
          · exact ⟨o, plain b o e z⟩
  cases hk : K.lookup a with
  | some o =>
    have e := KX a o hk
    rw [ha] at e
    cases e
    refine core (fun b => if b = Pt then some (.tbl #[]) else none) (.inr ⟨_, vs.toArray, _, hk, rfl, rfl, rfl, by rw [List.size_toArray, lenV]; exact hl, by simpa using rv⟩) (if_pos rfl) (fun b u z => ?_) (fun b z => ?_) (fun z => absurd (if_neg naP) z) fun u z => ?_
    · by_cases hb : b = Pt
      · have z' := (if_pos hb).symm.trans z
        cases z'
        subst hb
        exact hT
      · have z' := (if_neg hb).symm.trans z
        cases z'
    · by_cases hb : b = Pt
      · exact .inr hb
      · exact absurd (if_neg hb) z
    · have z' := (if_neg naP).symm.trans z
      cases z'
  | none =>
    refine core (fun b => if b = Pt then some (.tbl #[]) else if b = a then some (.frz { cls := .type "list", data := .seq vs.toArray } (.lst (ns.map V.int))) else none) (.inl (.inr ⟨{ cls := .type "list", data := .seq vs.toArray }, (if_neg naP).trans (if_pos rfl)⟩)) (if_pos rfl) (fun b u z => ?_) (fun b z => ?_) (fun _ => hk) fun u z => ?_
    · by_cases hb : b = Pt
      · have z' := (if_pos hb).symm.trans z
        cases z'
        subst hb
        exact hT
      · have z1 := (if_neg hb).symm.trans z
        by_cases hb : b = a
        · have z' := (if_pos hb).symm.trans z1
          cases z'
          subst hb
          exact ⟨ha, by rw [List.length_map]; exact hl, vs, _, rv, ha⟩
        · have z' := (if_neg hb).symm.trans z1
          cases z'
    · by_cases hb : b = Pt
      · exact .inr hb
      · by_cases hb' : b = a
        · exact .inl hb'
        · exact absurd ((if_neg hb).trans (if_neg hb')) z
    · have z1 := ((if_neg naP).trans (if_pos rfl)).symm.trans z
      cases z1
      exact ⟨_, _, rfl⟩
theorem walk_ofT {l : OpenLaw} {n k : Nat} {q : Program} {loose : List Str} {XP : (Str → Option Value) → Heap → Prop} {YP : World → Heap → Prop} {d : DefRec} {K : Params → Frag} {sp : World → Addr → Sp} {x : Str}
    (hn : l.most = some n) (hn2 : n ≤ sizeLine) (hdf : d.params.defaults = []) (hr : Room k callerA) (hY : ∀ (w : World) (h : Heap), YP w h → (K w.params).In h)
    (F : ∀ (w : World) (mg : Str → Option Value) (fa : Addr) (h : Heap), YP w h → (K w.params).In h → h.Ns mainGlobals mg → mg d.name = some (.ref fa) →
      ∃ (fd : FuncData) (cc Pt : Addr), (∀ (s : Shared) (u : Value), BindsTo s fd ⟨[u], []⟩ [(x, u)]) ∧ codeHdIn (K w.params) cc Pt = true ∧ h.get? Pt = some (tabObj #[]) ∧ noTabs (K w.params) = true ∧
        ∀ base : Heap, (K w.params).In base → BB mg base → FnOk l.prog w (K w.params) mg base CX0 k fa fd [x] (sp w Pt))
    (hsp : ∀ (w : World) (Pt : Addr) (H : Hp) (a : Addr) (ns : List Int), ns.length ≤ n → SqL (K w.params) H a (ns.map V.int) → H Pt = some (.tbl #[]) → sp w Pt [.ref a] H (fun v _ => v = .bl true) fun _ _ _ => False) :
    WalkO q loose XP YP l.row.toRowW d [] (fun f vs => PySem.call f vs) := by
  refine Att.attach_call hn hdf fun w s₀ s₁ mg mb fa o pm cd doc a vs ns G Y ho hd hcd hmg hobj hints hlen hg => ?_
  have KX := hY w _ Y
  obtain ⟨fd, cc, Pt, hb, hC, hT, hK, hF⟩ := F w mg fa _ Y KX G.T.g hmg
  exact law_callT KX G.T.g G.T.b G.T.builtins G.T.nolimit hg hobj hints (Nat.le_trans hlen hn2) hr hC hT hK G.T.bmain hF hb (fun H hS hP => hsp w Pt H a ns hlen hS hP) fun H e s' z => z
theorem Fun.okC {P : Program} {w : World} {K : Frag} {mg : Str → Option Value} {base : Heap} {x qual : Str} {st : Stmt} {f : Addr} {fd : FuncData} {N ps : List Str} {k : Nat} {sp : Sp} (F : Fun K x qual st f fd) (S : FnScope N ps (defScope st)) (len : ∀ vs H Q E, sp vs H Q E → vs.length = ps.length)
    (hbody : ∀ (A : Around) (outer : List Env) (s : Shared) (H : Hp) (vs : List V) (Q : VK) (E : XK), Room k (A.deeper (envOfC qual (defScope st) s.heap.objs.size f fd.code)) → sp vs H Q E →
      ∃ t, PSs (cxOf CX0 P w K mg base N qual (defScope st) f fd.code A outer s H E).nox (defBody st) t ∧ t { nx := fun _ H' => Q .non H', rt := Q } (start N vs) H) : FnOk P w K mg base CX0 (k + 1) f fd ps sp := by
  obtain ⟨oc, od, kV, doc, pm, an, cdv, ct, osl, rfl, lk, hcd⟩ := F.ex
  refine fn_of lk hcd S len fun A outer s H vs Q E hr hsp => ?_
  obtain ⟨t, h, q⟩ := hbody A outer s H vs Q E hr hsp
  exact ⟨t, h.nox, q⟩
end L2
set_option maxHeartbeats 1000000
namespace L2
open PySem PySem.Spec PyProof.Rows PySem.W Lo
theorem ff_base {h B B' : Heap} : ∀ {l : List Env}, h.FunFrames B l → (∀ b ∈ frs l, B'.get? b = none) → h.FunFrames B' l
  | [], _, _ => trivial
  | env :: r, ⟨k, ⟨L, o, fr, _, e, d⟩, t⟩, n => by
    have m : frs (env :: r) = L :: frs r := by
      show List.filterMap _ (env :: r) = _
      rw [List.filterMap_cons, fr]
      rfl
    rw [m] at n
    exact ⟨k, ⟨L, o, fr, n L List.mem_cons_self, e, d⟩, ff_base t fun b hb => n b (List.mem_cons_of_mem _ hb)⟩
def baseB (l : List Env) (H : Hp) (h : Heap) : Heap := hideAll h (trk h H ++ frs l)
theorem baseB_get {l : List Env} {H : Hp} {h : Heap} {b : Addr} {o : Obj} (e : h.get? b = some o) (n : H b = none) (nf : b ∉ frs l) : (baseB l H h).get? b = some o := hideAll_get _ e fun hm => by
  rcases List.mem_append.mp hm with z | z
  · have q : (H b).isSome = true := (List.mem_filter.mp z).2
    rw [n] at q
    simp at q
  · exact nf z
theorem of_baseB {l : List Env} {H : Hp} {h : Heap} {b : Addr} {o : Obj} (e : (baseB l H h).get? b = some o) : h.get? b = some o ∧ H b = none ∧ b ∉ frs l := by
  have e' : h.get? b = some o := of_hideAll _ e
  refine ⟨e', ?_, fun z => ?_⟩
  · cases q : H b with
    | none => rfl
    | some x =>
      have hm : b ∈ trk h H ++ frs l := List.mem_append_left _ (List.mem_filter.mpr ⟨List.mem_range.mpr (Heap.lt_size e'), by simp [q]⟩)
      have z : (baseB l H h).get? b = none := hideAll_none _ hm
      rw [z] at e
      cases e
  · have z : (baseB l H h).get? b = none := hideAll_none _ (List.mem_append_right _ z)
    rw [z] at e
    cases e
def PinB (pp : List (Addr × Obj)) (cs : List (Addr × V)) (h : Heap) : Prop := (∀ p ∈ pp, h.get? p.1 = some p.2) ∧ ∀ c ∈ cs, ∃ u, RelV c.2 u ∧ h.IsCell c.1 (some u)
def CellsS (X : Cx) (cs : List (Addr × V)) (σ : St) : Prop := ∀ c ∈ cs, ∃ (i : Nat) (x : Str), X.N[i]? = some x ∧ σ[i]? = some (some c.2) ∧ X.env.kindOf x = some .cell ∧ X.env.cells.lookup x = some c.1 ∧ X.fn x = true
section
variable {X : Cx} {pins : List (Addr × Obj)} {σ : St} {H : Hp} {s : Shared}
theorem Inv.nfr2 (I : Inv X pins σ H s) {b : Addr} {o : Obj} (e : X.base.get? b = some o) : b ∉ frs X.stack := fun z => by
  rcases List.mem_cons.mp (I.stkSub b z) with z | z
  · have := Heap.lt_size (I.ok.bs b o e).1
    rw [z] at this
    exact absurd this (Nat.not_lt.mpr I.ok.above)
  · exact I.ok.nofr e z
theorem Inv.baseK (I : Inv X pins σ H s) : ∀ b o, X.base.get? b = some o → (baseB X.stack H s.heap).get? b = some o := fun b o e => baseB_get (I.bs b o e).1 (I.bs b o e).2 (I.nfr2 e)
theorem Inv.modB (I : Inv X pins σ H s) : Mod X.K X.mg (baseB X.stack H s.heap) := by
  obtain ⟨k1, k2, ⟨mb, k3, k4⟩, k5⟩ := I.ok.mod
  have kb := I.baseK
  exact ⟨k1.keeps kb, k2.keeps kb, ⟨mb, k3.keeps kb, k4⟩, k5.keeps kb⟩
theorem Inv.env0B (I : Inv X pins σ H s) : Env0 X.prog X.w X.K X.mg (baseB X.stack H s.heap) X.A X.stack s H := by
  refine ⟨I.ok.frames, I.modB, fun b o e => ⟨(of_baseB e).1, (of_baseB e).2.1⟩, Nat.le_of_eq (hideAll_size _ _), ff_base I.stack fun b hb => ?_, I.stkFree, I.hok, I.bare⟩
  cases z : (baseB X.stack H s.heap).get? b with
  | none => rfl
  | some o => exact absurd hb (of_baseB z).2.2
theorem Inv.pinB {pp : List (Addr × Obj)} {cs : List (Addr × V)} (I : Inv X pins σ H s) (hp : ∀ p ∈ pp, p ∈ X.pn) (hc : CellsS X cs σ) : PinB pp cs (baseB X.stack H s.heap) := by
  refine ⟨fun p hm => ?_, fun c hm => ?_⟩
  · obtain ⟨e, n, nl, nf, _⟩ := I.pin p (List.mem_append_left _ (hp p hm))
    exact baseB_get e n fun z => (List.mem_cons.mp (I.stkSub _ z)).elim nl nf
  · obtain ⟨i, x, h1, h2, h3, h4, h5⟩ := hc c hm
    obtain ⟨m, hn, hl⟩ := I.loc
    obtain ⟨u, r, lk⟩ := hl i x c.2 h1 h2 (.inr (.inl h3))
    rcases lk with ⟨z, _⟩ | ⟨_, c', e, o, ho, hd⟩
    · rw [h3] at z
      cases z
    · rw [h4] at e
      cases e
      refine ⟨u, r, o, baseB_get ho (I.freeC x _ h4) fun z => ?_, hd⟩
      rcases List.mem_cons.mp (I.stkSub _ z) with z | z
      · exact I.cne x _ h4 z
      · obtain ⟨_, o', ho', _⟩ := I.ok.funs.mem z
        exact absurd (Heap.lt_size ho') (Nat.not_lt.mpr (I.ok.cab x _ h5 h4))
end
section
variable {X : Cx} {CX : CXT} {k : Nat} {f C : Addr} {fd : FuncData} {ps : List Str} {sp : Sp} {E : XK} {x m : Str} {p pos apos : Pos} {e o : Expr} {es : List Expr} {ta : TE} {t : TA} {pp : List (Addr × Obj)} {cs : List (Addr × V)}
theorem run_fnB {pins : List (Addr × Obj)} {σ : St} {H : Hp} {s : Shared} {Q : VK} {us : List Value} {vs : List V} (F : ∀ B : Heap, X.K.In B → PinB pp cs B → FnOk X.prog X.w X.K X.mg B CX k f fd ps sp) (hr : Room k X.A) (hb : Binds X.K fd ps []) (hx : Passes CX X E)
    (hp : ∀ p ∈ pp, p ∈ X.pn) (I : Inv X pins σ H s) (hc : CellsS X cs σ) (r : Vals vs us) (h : sp vs H Q E) : wpAny (model X.prog X.w) X.A (call (.ref f) us) (EP X pins σ Q) X.xe s := by
  have FF := F _ I.modB.kin (I.pinB hp hc)
  have hl : (us ++ []).length = ps.length := by rw [List.append_nil, ← r.length]; exact FF.len _ _ _ _ h
  have hbb := hb s us I.kIn hl
  rw [List.append_nil] at hbb
  refine wpAny_call (codeAny_mono (FF.run X.A X.stack s H ⟨us, []⟩ us vs Q E hr I.env0B hbb r h) fun r s' hq => ?_)
  cases r with
  | error e => exact hx pins σ H s e s' I hq
  | ok fl =>
    cases fl with
    | ret u => exact I.after hq
    | next => exact False.elim hq
    | brk => exact False.elim hq
    | cont => exact False.elim hq
def tCallV (X : Cx) (cs : List (Addr × V)) (sp : Sp) (E : XK) (t : TA) : TE := fun σ H Q => CellsS X cs σ ∧ t σ H fun vs H1 => sp vs H1 Q E
theorem pe_callV (F : ∀ B : Heap, X.K.In B → PinB pp cs B → FnOk X.prog X.w X.K X.mg B CX k f fd ps sp) (hr : Room k X.A) (hg : Gl X x) (hm : X.mg x = some (.ref f)) (hk : PySem.W.keepIn X.K (.ref f) = true) (hb : Binds X.K fd ps []) (hx : Passes CX X E) (hp : ∀ p ∈ pp, p ∈ X.pn)
    (ha : PA X (e :: es) t) (hdb : (x == ("__debug__" : Str)) = false := by decide) (he : starEach (e :: es) X.env = (false, eval e X.env) :: starEach es X.env := by rfl) (hpl : (backTo pos (starEach es X.env)).any (·.1) = false := by rfl) :
    PE X (.Call (.Name x p) (e :: es) [] pos) (tCallV X cs sp E t) := by
  intro pins s σ H Q I ⟨hc, h⟩
  refine wpAny_Call_Name_kw (ld_glob I hg hm ?_ hdb)
  refine PySem.W.callWith_K (h₀ := X.base) I.ok.mod.kin hk (thn (ha pos pins s σ H _ I h) fun us s1 ⟨vs, H1, I1, r, q⟩ => ⟨I1.kIn, ?_⟩) he hpl
  exact run_fnB F hr hb hx hp I1 hc r q
def tMethV (X : Cx) (cs : List (Addr × V)) (C : Addr) (m : Str) (sp : Sp) (E : XK) (ta : TE) (t : TA) : TE := fun σ H Q => CellsS X cs σ ∧ ta σ H fun x H1 => ∃ a dx fs, x = .ref a ∧ H1 a = some (.ins C dx fs) ∧ fs.lookup m = none ∧
  t σ H1 fun vs H2 => sp (x :: vs) H2 Q E
theorem pe_methV {pl : Sem Bool} (he : PE X o ta) (c : Cls X.K C) (hm : Meth X.K C m f) (F : ∀ B : Heap, X.K.In B → PinB pp cs B → FnOk X.prog X.w X.K X.mg B CX k f fd ps sp) (hr : Room k X.A) (hb : Binds X.K fd ps []) (hx : Passes CX X E) (hp : ∀ p ∈ pp, p ∈ X.pn) (ha : PA X (e :: es) t)
    (hst : starEach (e :: es) X.env = (false, eval e X.env) :: starEach es X.env := by rfl) (hpl : (backTo pos (starEach es X.env)).any (·.1) = false := by rfl)
    (ht : eval (.Call (.Attribute o m apos) (e :: es) [] pos) X.env = (do
      let ov ← eval o X.env
      standAt apos.atName
      let (f, first) ← holding [ov] (getMethod ov m pl)
      callWith pos f first (backTo pos (starEach (e :: es) X.env)) (backToKw pos (keywordEach [] X.env))) := by rfl) :
    PE X (.Call (.Attribute o m apos) (e :: es) [] pos) (tMethV X cs C m sp E ta t) := by
  intro pins s σ H Q I ⟨hc, h⟩
  refine PySem.W.methodCall_KW (pl := pl) (thn (he pins s σ H _ I h) fun u s1 ⟨x, H1, I1, rx, a, dx, fs, ex, ea, l, q⟩ => ?_) ht
  subst ex
  obtain rfl : u = Value.ref a := rx
  refine getmeth_ok I1 ea c hm l ?_
  refine PySem.W.callWith_K (first := [.ref a]) (h₀ := X.base) I.ok.mod.kin hm.kp (thn (ha pos pins s1 σ H1 _ I1 q) fun us s2 ⟨vs, H2, I2, r, q2⟩ => ⟨I2.kIn, ?_⟩) hst hpl
  exact run_fnB (us := .ref a :: us) (vs := .ref a :: vs) F hr hb hx hp I2 hc (.cons rfl r) q2
def tCallP (i : Nat) (f : Addr) (sp : Sp) (E : XK) (t : TA) : TE := fun σ H Q => σ[i]? = some (some (.ref f)) ∧ t σ H fun vs H1 => sp vs H1 Q E
theorem pe_callP {i : Nat} {of : Obj} {fd0 : FuncData} (hN : X.N[i]? = some x) (hv : Vis X.env.scope x) (hf : X.base.get? f = some of) (hfd : of.data = .func fd0) (F : FnOk X.prog X.w X.K X.mg X.base CX k f fd ps sp) (hr : Room k X.A) (hb : Binds X.K fd ps []) (hx : Passes CX X E) (ha : PA X (e :: es) t)
    (hdb : (x == ("__debug__" : Str)) = false := by decide) (hcd : (x == ("__classdict__" : Str)) = false := by decide) (he : starEach (e :: es) X.env = (false, eval e X.env) :: starEach es X.env := by rfl) (hpl : (backTo pos (starEach es X.env)).any (·.1) = false := by rfl) :
    PE X (.Call (.Name x p) (e :: es) [] pos) (tCallP i f sp E t) := by
  intro pins s σ H Q I ⟨hσ, h⟩
  have at' : ∀ {σ' : St} {H' : Hp} {s' : Shared}, Inv X pins σ' H' s' → FnAt f s'.heap := fun J => by
    obtain ⟨oc, od, dd, sl⟩ := of
    cases (show dd = _ from hfd)
    exact ⟨oc, od, _, sl, J.bk _ _ hf⟩
  refine wpAny_Call_Name_kw (thn ((pe_var (pos := p) hN hv hdb hcd) pins s σ H (fun v H' => v = .ref f ∧ H' = H) I ⟨_, hσ, rfl, rfl⟩) fun u s1 ⟨v, H1, I1, r, e1, e2⟩ => ?_)
  subst e1
  subst e2
  cases r
  refine callWith_F (first := []) (at' I1) (thn (ha pos pins s1 σ H1 _ I1 h) fun us s2 ⟨vs, H2, I2, r, q⟩ => ⟨at' I2, ?_⟩) he hpl
  exact run_fn F hr hb .nil hx I2 r (by rw [List.append_nil]; exact q)
end
end L2
set_option maxHeartbeats 1000000
namespace L2
open PySem PySem.Spec PyProof.Rows PySem.W Lo
abbrev Cx.pinned (X : Cx) (q : List (Addr × Obj)) : Cx := { X with pn := q ++ X.pn }
section
variable {X : Cx} {pins q : List (Addr × Obj)} {σ : St} {H : Hp} {s : Shared}
theorem Inv.unpinX (I : Inv (X.pinned q) pins σ H s) : Inv X pins σ H s :=
  ⟨⟨I.ok.mod, I.ok.kind, I.ok.glob, I.ok.blt, I.ok.above, I.ok.inj, I.ok.has, I.ok.cab, I.ok.hd, I.ok.frames, I.ok.stk, I.ok.exf, I.ok.bs, I.ok.bsz, I.ok.noex, I.ok.exfs, I.ok.funs, I.ok.frf⟩, I.os, I.bare, I.base, I.loc, I.cell, I.free, I.freeC,
    fun p hp => I.pin p (by
      rcases List.mem_append.mp hp with z | z
      · exact List.mem_append_left _ (List.mem_append_right _ z)
      · exact List.mem_append_right _ z), I.hok, I.len⟩
theorem Inv.pinX (I : Inv X pins σ H s) (hq : ∀ p ∈ q, s.heap.get? p.1 = some p.2 ∧ H p.1 = none ∧ p.1 ≠ X.env.locals ∧ p.1 ∉ X.fs ∧ ∀ v, p.2.data ≠ .cell v) : Inv (X.pinned q) pins σ H s :=
  ⟨⟨I.ok.mod, I.ok.kind, I.ok.glob, I.ok.blt, I.ok.above, I.ok.inj, I.ok.has, I.ok.cab, I.ok.hd, I.ok.frames, I.ok.stk, I.ok.exf, I.ok.bs, I.ok.bsz, I.ok.noex, I.ok.exfs, I.ok.funs, I.ok.frf⟩, I.os, I.bare, I.base, I.loc, I.cell, I.free, I.freeC,
    fun p hp => by
      rcases List.mem_append.mp hp with z | z
      · rcases List.mem_append.mp z with z | z
        · exact hq p z
        · exact I.pin p (List.mem_append_left _ z)
      · exact I.pin p (List.mem_append_right _ z), I.hok, I.len⟩
theorem SP.unpinX {D : Ends} {fl : Flow} (h : SP (X.pinned q) pins D fl s) : SP X pins D fl s := by
  cases fl with
  | next => obtain ⟨a, b, J, r⟩ := h; exact ⟨a, b, J.unpinX, r⟩
  | brk => obtain ⟨a, b, J, r⟩ := h; exact ⟨a, b, J.unpinX, r⟩
  | cont => obtain ⟨a, b, J, r⟩ := h; exact ⟨a, b, J.unpinX, r⟩
  | ret u => obtain ⟨v, a, b, J, r⟩ := h; exact ⟨v, a, b, J.unpinX, r⟩
end
def MadeAt (q name : Str) (params : Arguments) (body : List Stmt) (scope : Scope) (clos : List (Str × Addr)) (f c : Addr) (fo oc : Obj) : Prop :=
  (∃ doc pm ct, fo = fnMade name q params body scope clos doc pm c ct) ∧ ∃ vs t, oc.data = .fields vs ∧ vs[1]? = some (.str q t)
def tDef (P : Addr) (pos : Pos) (i : Nat) (mk : Addr → Addr → Obj → Obj → Prop) (u : Addr → Addr → Obj → Obj → TS) : TS := fun D σ H =>
  ∃ ps, H P = some (.tbl ps) ∧ TriplesOk ps.toList ∧ codeAmong pos ps.toList = none ∧ ∀ f c fo oc, mk f c fo oc → u f c fo oc D (σ.set i (some (.ref f))) (upd H P (.tbl (ps ++ #[rawInt pos.line, rawInt pos.col, .ref c])))
theorem pss_def {X : Cx} {name : Str} {params : Arguments} {body : List Stmt} {scope : Scope} {pos : Pos} {rest : List Stmt} {cc P : Addr} {q : Str} {i : Nat} {clos : List (Str × Addr)} {u : Addr → Addr → Obj → Obj → TS}
    (hcode : X.env.code = .ref cc) (hC : codeHdIn X.K cc P = true) (hB : BB X.mg X.base) (hq : qualnameIn X.env name name = q) (hcl : closureFor scope X.env = pure clos) (hd0 : params.defaults = []) (hk0 : params.kw_defaults = []) (ha : annTrees params none X.env = [])
    (hN : X.N.Nodup) (hi : X.N[i]? = some name) (hx : X.env.scope.names.lookup name = some .local)
    (hrest : ∀ f c fo oc, MadeAt q name params body scope clos f c fo oc → PSs (X.pinned [(f, fo), (c, oc)]) rest (u f c fo oc)) :
    PSs X (.FunctionDef name params body [] none [] scope none name pos :: rest) (tDef P pos i (MadeAt q name params body scope clos) u) := by
  intro pins s σ H D I h
  obtain ⟨ps, e, htr, hnf, hQ⟩ := h
  subst hq
  refine wpAny_execs_cons (nestDef_K hd0 hk0 ha ?_)
  have hg : s.heap.Ns mainGlobals X.mg := I.ok.mod.glob.keeps I.bk
  have C : CodeHd s.heap cc P := codeHd_of_K I.kIn hC
  obtain ⟨bm, ob, b1, b2, b3, b4, b5, b6⟩ := hB
  have b3' := I.bk _ _ b3
  have hbG : bm ≠ mainGlobals := fun z => by
    obtain ⟨o, es, ep, e, hd, _⟩ := hg
    rw [z, e] at b3'
    cases b3'
    rw [hd] at b6
    cases b6
  have hP : s.heap.get? P = some (tabObj ps) := I.hok P _ e
  have n1 : mainGlobals ≠ P := fun z => by
    obtain ⟨o, es, ep, e', hd, _⟩ := hg
    rw [z, hP] at e'
    cases e'
    cases hd
  have n2 : bm ≠ P := fun z => by
    rw [z, hP] at b3'
    cases b3'
    cases b4
  refine makeFunction_K (mg := X.mg) hcl I.ok.glob hg hcode C hP htr hnf n1 ⟨bm, ob, b1, b2, hbG, n2, b3', b4, b5, b6⟩ fun c ct doc h' tk hxx hge hlt hrec htb => ?_
  obtain ⟨c₂, oc, vs, t, e2, hoc, hd, hv⟩ := hrec
  cases e2
  have ltP : P < s.heap.objs.size := Heap.lt_size hP
  have Pc : P ≠ c := Nat.ne_of_lt (Nat.lt_of_lt_of_le ltP hge)
  have Pf : P ≠ h'.objs.size := Nat.ne_of_lt (Nat.lt_trans (Nat.lt_of_lt_of_le ltP hge) hlt)
  have hc0 : H c = none := I.hok.fresh hge
  have hf0 : H h'.objs.size = none := I.hok.fresh (Nat.le_of_lt (Nat.lt_of_le_of_lt hge hlt))
  generalize hfo : fnMade name (qualnameIn X.env name name) params body scope clos doc ((X.mg "__name__").getD .none) c ct = fo
  have kp : ∀ d o, d ≠ P → s.heap.get? d = some o → (h'.push fo).get? d = some o := fun d o n z => Heap.get?_push_of_some _ (hxx d o n z)
  have noP : ∀ d, H d = none → d ≠ P := fun d z y => by
    rw [y, e] at z
    cases z
  have noTP : ∀ d o, noT o → H d = some o → d ≠ P := fun d o n z y => by
    rw [y, e] at z
    cases z
    exact n
  have I3 : Inv X pins σ (upd H P (.tbl (ps ++ #[rawInt pos.line, rawInt pos.col, .ref c]))) { s with heap := h'.push fo, toks := tk } := by
    refine I.step (g' := s.gens) (d' := s.drawn) (t' := tk) (ch := []) (fun _ z => nomatch z) (fun d o _ _ _ z n => kp d o (noP d n) z) (fun d o _ _ _ z n => ⟨o.slots, kp d o (noP d n) z⟩) (fun d o _ z n => ?_) (fun d o _ z => ?_)
      (fun d xs z => ?_) (fun d o u z => ?_) (fun d qs z => ?_) (fun m hm => ?_) (fun d u z => ?_) I.bare
    · exact (upd_ne (noP d n)).trans n
    · by_cases y : d = P
      · rw [y]
        exact ⟨_, Heap.get?_push_of_some _ htb⟩
      · exact ⟨o, kp d o y z⟩
    · exact (upd_ne (noTP d (.tup xs) trivial z)).trans z
    · exact (upd_ne (noTP d (.frz o u) trivial z)).trans z
    · by_cases y : d = P
      · subst y
        rw [e] at z
        cases z
        exact ⟨#[rawInt pos.line, rawInt pos.col, .ref c], upd_same⟩
      · exact ⟨#[], by rw [upd_ne y, z]; simp⟩
    · obtain ⟨o, es, ep, ho, r⟩ := hm
      exact ⟨o, es, ep, kp _ o (noP _ I.free) ho, r⟩
    · by_cases y3 : d = P
      · subst y3
        rw [upd_same] at z
        cases z
        exact Heap.get?_push_of_some _ htb
      · rw [upd_ne y3] at z
        refine (I.hok d u z).stay (fun a v ha q => kp a v ?_ q) (fun a q => (upd_ne (noTP a (.own d) trivial q)).trans q) fun a xs q => (upd_ne (noTP a (.tup xs) trivial q)).trans q
        rcases ha with ha | ha
        · rw [ha]
          exact y3
        · exact noTP a (.own d) trivial ha
  have fd : ∀ v, fo.data ≠ .cell v := fun v => by
    subst hfo
    exact fun z => by cases z
  have ltL := I.lt
  have I4 : Inv (X.pinned [(h'.objs.size, fo), (c, oc)]) pins σ (upd H P (.tbl (ps ++ #[rawInt pos.line, rawInt pos.col, .ref c]))) { s with heap := h'.push fo, toks := tk } := I3.pinX fun p hp => by
    rcases List.mem_cons.mp hp with rfl | hp
    · exact ⟨Heap.get?_push_size _ (by rw [← hfo]; rfl), (upd_ne (Ne.symm Pf)).trans hf0, Nat.ne_of_gt (Nat.lt_trans (Nat.lt_of_lt_of_le ltL hge) hlt), I.nofs (Nat.le_of_lt (Nat.lt_of_le_of_lt hge hlt)), fd⟩
    · obtain rfl := List.mem_singleton.mp hp
      exact ⟨Heap.get?_push_of_some _ hoc, (upd_ne (Ne.symm Pc)).trans hc0, Nat.ne_of_gt (Nat.lt_of_lt_of_le ltL hge), I.nofs hge, fun v z => by
        rw [show oc.data = _ from hd] at z
        cases z⟩
  have mk : MadeAt (qualnameIn X.env name name) name params body scope clos h'.objs.size c fo oc := ⟨⟨doc, _, ct, hfo.symm⟩, vs, t, hd, hv⟩
  refine store_ok (X := X.pinned [(h'.objs.size, fo), (c, oc)]) (v := .ref h'.objs.size) I4 hN hi (.inl hx) rfl (fun s' I5 => ?_) (.inr hx)
  exact thn (hrest _ _ _ _ mk pins s' _ _ D I5 (hQ _ _ _ _ mk)) fun fl s2 q => q.unpinX
structure CloScope (N : List Str) (x : Str) (sc : Scope) (cl : List (Str × Addr)) : Prop where
  kind : sc.kind = .function
  co : sc.isCoroutine = false
  gen : sc.isGenerator = false
  nd : N.Nodup
  pre : N[0]? = some x
  par : sc.names.lookup x = some .local
  nocell : ∀ y ∈ sc.names, y.2 ≠ .cell
  free : ∀ y, sc.names.lookup y = some .free → ∃ c, cl.lookup y = some c
  inj : ∀ y z c, cl.lookup y = some c → cl.lookup z = some c → y = z
def cxClo (CX : CXT) (P : Program) (w : World) (K : PySem.W.Frag) (mg : Str → Option Value) (base : Heap) (N : List Str) (qual : Str) (scope : Scope) (f : Addr) (cd : Value) (cl : List (Str × Addr)) (A : Around) (outer : List Env) (s : Shared) (H : Hp) (E : XK) : Cx where
  prog := P
  w := w
  K := K
  mg := mg
  base := base
  A := A.deeper (envX qual scope s.heap.objs.size f cd cl)
  N := N
  s₀ := s
  H₀ := H
  env := envX qual scope s.heap.objs.size f cd cl
  outer := outer
  stack := envX qual scope s.heap.objs.size f cd cl :: outer
  ex := []
  calm := true
  fn := fun _ => false
  pn := []
  xe := fun e s' => wpAny (model P w) (A.deeper (envX qual scope s.heap.objs.size f cd cl)) (leaving (envX qual scope s.heap.objs.size f cd cl) e) (fun _ s'' => CX outer H s E e s'') (fun e' s'' => CX outer H s E e' s'') s'
theorem fn_clo {CX : CXT} {P : Program} {w : World} {K : PySem.W.Frag} {mg : Str → Option Value} {base : Heap} {k : Nat} {f c : Addr} {fo oc : Obj} {name qual : Str} {params : Arguments} {body : List Stmt} {scope : Scope} {doc pm ct : Value} {cl : List (Str × Addr)}
    {N : List Str} {x : Str} {fvs : List V} {sp : Sp} {cs : List (Addr × V)} (hfo : fo = fnMade name qual params body scope cl doc pm c ct) (hoc : ∃ vs t, oc.data = .fields vs ∧ vs[1]? = some (.str qual t)) (hB : PinB [(f, fo), (c, oc)] cs base) (S : CloScope N x scope cl) (hlen : N.length = fvs.length + 1)
    (hcl : ∀ y a, cl.lookup y = some a → ∃ v, (a, v) ∈ cs) (hfv : ∀ (j : Nat) (y : Str) (v : V), N[j + 1]? = some y → fvs[j]? = some v → scope.names.lookup y = some .free ∧ ∃ a, cl.lookup y = some a ∧ ∀ v', (a, v') ∈ cs → v' = v)
    (len : ∀ vs H Q E, sp vs H Q E → vs.length = 1)
    (hbody : ∀ (A : Around) (outer : List Env) (s : Shared) (H : Hp) (v : V) (Q : VK) (E : XK), Room k (A.deeper (envX qual scope s.heap.objs.size f (.ref c) cl)) → sp [v] H Q E →
      ∃ t, PSs (cxClo CX P w K mg base N qual scope f (.ref c) cl A outer s H E) body t ∧ t { nx := fun _ H' => Q .non H', rt := Q } ((v :: fvs).map some) H) :
    FnOk P w K mg base CX (k + 1) f (fnX name qual params body scope cl .none .none doc pm none (.ref c) ct) [x] sp := by
  refine ⟨len, fun A outer s H args us vs Q E hr e0 hb r hsp => ?_⟩
  have lim : s.heap.NoLimit := e0.mod.nolimit.keeps fun b o e => (e0.bs b o e).1
  have hl := len _ _ _ _ hsp
  obtain ⟨v, rfl⟩ : ∃ v, vs = [v] := by
    match vs, hl with
    | [v], _ => exact ⟨v, rfl⟩
  obtain ⟨u, rfl, ru⟩ : ∃ u, us = [u] ∧ RelV v u := by
    cases r with
    | cons p q =>
      cases q
      exact ⟨_, rfl, p⟩
  obtain ⟨hp, hc⟩ := hB
  have gf := (e0.bs _ _ (hp (f, fo) List.mem_cons_self)).1
  have gc := (e0.bs _ _ (hp (c, oc) (List.mem_cons_of_mem _ List.mem_cons_self))).1
  obtain ⟨ws, tq, hd, hv⟩ := hoc
  refine codeAny_call_def (fd := fnX name qual params body scope cl .none .none doc pm none (.ref c) ct) (body := body) (binds := [(x, u)]) hr.depth gf (by rw [hfo]) lim ⟨c, oc, ws, tq, rfl, gc, hd, hv⟩ rfl hb S.nocell (fun y hy => ?_) (fun h₁ hns hk₁ => ?_) S.co S.gen S.kind
  · obtain rfl := List.mem_singleton.mp hy
    exact S.par
  obtain ⟨t, ht, hq⟩ := hbody A outer s H v Q E (hr.deeper _) hsp
  have cellAt : ∀ y a, cl.lookup y = some a → ∃ v, (a, v) ∈ cs ∧ ∃ u, RelV v u ∧ s.heap.IsCell a (some u) ∧ H a = none := fun y a e => by
    obtain ⟨v, hm⟩ := hcl y a e
    obtain ⟨u, r, o, ho, hd⟩ := hc _ hm
    exact ⟨v, hm, u, r, ⟨o, (e0.bs _ _ ho).1, hd⟩, (e0.bs _ _ ho).2⟩
  have noA : ∀ b : Addr, b ∉ (cxClo CX P w K mg base N qual scope f (.ref c) cl A outer s H E).ex := fun b z => absurd (show b ∈ ([] : List Addr) from z) (by simp)
  have I : Inv (cxClo CX P w K mg base N qual scope f (.ref c) cl A outer s H E) [] ((v :: fvs).map some) H { s with heap := h₁, toks := s.toks + [(x, u)].length } := by
    refine ⟨⟨e0.mod, S.kind, rfl, rfl, Nat.le_refl _, S.inj, fun y hy => ?_, fun y c h _ => absurd h (by show ¬ (false = true); decide), fun _ => hr.hd, Around.frames_deeper e0.frames, .inr ⟨rfl, rfl⟩, fun b z => absurd z (noA b), e0.bs, e0.bsz, fun b _ _ => noA b, fun b z => absurd z (noA b), e0.funs, e0.frf⟩,
      rfl, e0.bare, Un.kept hk₁, ⟨_, hns, fun i y v' h1 h2 h3 => ?_⟩, fun y a e => ?_, e0.hok.fresh (Nat.le_refl _), fun y a e => ?_, fun p hp => absurd (show p ∈ ([] : List (Addr × Obj)) from hp) (by simp), e0.hok.kept hk₁, ?_⟩
    · have hy : scope.names.lookup y = some .cell ∨ scope.names.lookup y = some .free := hy
      rcases hy with hy | hy
      · exact absurd rfl (S.nocell _ (PySem.mem_of_lookup hy))
      · exact S.free y hy
    · cases i with
      | zero =>
        have e1 : some x = some y := S.pre.symm.trans h1
        cases e1
        have e2 : some (some v) = some (some v') := h2
        cases e2
        exact ⟨u, ru, .inl ⟨S.par, by simp⟩⟩
      | succ j =>
        have e2 : (fvs.map some)[j]? = some (some v') := h2
        rw [List.getElem?_map] at e2
        cases e3 : fvs[j]? with
        | none =>
          rw [e3] at e2
          cases e2
        | some v2 =>
          rw [e3] at e2
          cases e2
          obtain ⟨hf, a, ea, hu⟩ := hfv j y _ h1 e3
          obtain ⟨v3, hm, u3, r3, ⟨o, ho, hd3⟩, _⟩ := cellAt y a ea
          obtain rfl := hu _ hm
          exact ⟨u3, r3, .inr ⟨.inr hf, a, ea, o, hk₁ _ _ ho, hd3⟩⟩
    · obtain ⟨v3, hm, u3, r3, ⟨o, ho, hd3⟩, _⟩ := cellAt y a e
      exact ⟨_, o, hk₁ _ _ ho, hd3⟩
    · obtain ⟨v3, hm, u3, r3, _, n⟩ := cellAt y a e
      exact n
    · show _ = N.length
      rw [hlen]
      simp
  refine wpAny_mono (ht [] _ _ H _ I hq) (fun fl s' hs => ?_) fun e s' hs => hs
  have fin : ∀ {σ' : St} {H' : Hp} {v : V} {u : Value}, Inv (cxClo CX P w K mg base N qual scope f (.ref c) cl A outer s H E) [] σ' H' s' → RelV v u → Q v H' → CE outer P w H s Q u s' :=
    fun {σ' H' v u} J rv q => ⟨v, H', J.os, J.bare, J.base, J.hok, rv, q⟩
  cases fl with
  | ret u =>
    obtain ⟨v, σ', H', J, rv, q⟩ := hs
    exact fin J rv q
  | next =>
    obtain ⟨σ', H', J, q⟩ := hs
    exact fin (v := V.non) (u := Value.none) J rfl q
  | brk =>
    obtain ⟨_, _, _, q⟩ := hs
    exact False.elim q
  | cont =>
    obtain ⟨_, _, _, q⟩ := hs
    exact False.elim q
end L2
set_option maxHeartbeats 1000000
namespace L2
open PySem PySem.Spec PyProof.Rows Lo
theorem turn_long {P : Program} {w : World} {K : PySem.W.Frag} {tg : Expr} (it : Addr) (lo : Int) (n : Nat) : Turn P w K tg (Itr lo n) [it] it (fun i h => IsLongIter h it (lo + (i : Nat) * 1) ((n : Int) - (i : Nat)) 1) where
  mem := by simp
  obj := fun i h st b hb => by
    have e : b = it := by simpa using hb
    subst e
    exact ⟨_, st, fun v z => by
      have z' : Data.fields _ = Data.cell v := z
      cases z'⟩
  keep := fun i h h' st k => k it (by simp) _ st
  item := by
    intro X hP hw hK hc i pins s σ H E I hf st hg
    subst hP hw hK
    obtain ⟨f0, f1, f2, f3, f4, f5⟩ := hf it (by simp)
    have W := Walks.longrange (prog := X.prog) (w := X.w) (I.ok.hd hc) it lo 1 n
    refine W.item i s _ _ hg st fun v h' tk hv st' kk => ?_
    obtain ⟨t, rfl⟩ := hv
    have I1 : Inv X pins σ H { s with heap := h', toks := tk } := I.turned (fun b o hb e => kk b o (by simpa using hb) e) f0 f1 f3 f4 f5
    refine ⟨_, rfl, go_of (s := { s with heap := h', toks := tk }) (n := "longrange_iterator") st' rfl rfl (by decide) ⟨.int (lo + i), H, I1, ⟨t, ?_⟩, ⟨rfl, rfl⟩, st', fun b hb => (hf b hb).1⟩⟩
    rw [Int.mul_one]
  done := by
    intro X hP hw hK hc i pins s σ H E I hf st hg
    subst hP hw hK
    obtain ⟨f0, f1, f2, f3, f4, f5⟩ := hf it (by simp)
    exact wpAny_pyNext_long_end (I.ok.hd hc) st (by have : n ≤ i := hg; omega) fun h' eb => ⟨rfl, I.turned (t' := s.toks) (fun b o hb e => eb b o hb e) f0 f1 f3 f4 f5⟩
  self := fun _ _ _ _ _ st h => wpAny_pyIter_longiter st h
section
variable {X : Cx} {tg : Expr}
theorem range_itL {pins : List (Addr × Obj)} {σ : St} {H : Hp} {s : Shared} {R : It → Hp → Prop} {E : Value → Shared → Prop} {lo hi : Int} {t u v : Tok} {tk : Nat} (I : Inv X pins σ H s)
    (q : R (Itr lo (hi - lo).toNat) H) : wpAny (model X.prog X.w) X.A (pyIter (.ref s.heap.objs.size)) (PIE X pins σ tg R) E { s with heap := s.heap.push { cls := .type "range", data := .fields #[.int lo t, .int hi u, .int 1 v] }, toks := tk } := by
  have I1 : Inv X pins σ H { s with heap := s.heap.push { cls := .type "range", data := .fields #[.int lo t, .int hi u, .int 1 v] }, toks := tk } := I.kept fun b o e => Heap.get?_push_of_some _ e
  have e1 : lo + ((0 : Nat) : Int) * 1 = lo := by simp
  have e2 : (((hi - lo).toNat : Nat) : Int) - ((0 : Nat) : Int) = Builtin.Range.rangeSize lo hi 1 := by rw [rangeSize_one]; split <;> omega
  have fp : ∀ b, b ∈ [(s.heap.push { cls := .type "range", data := .fields #[.int lo t, .int hi u, .int 1 v] }).objs.size] → b = (s.heap.push { cls := .type "range", data := .fields #[.int lo t, .int hi u, .int 1 v] }).objs.size := fun b hb => by simpa using hb
  cases hs : Builtin.Range.small lo hi 1 with
  | true =>
    refine wpAny_pyIter_range (IsRange.new ..) hs ?_
    refine ⟨(s.heap.push { cls := .type "range", data := .fields #[.int lo t, .int hi u, .int 1 v] }).objs.size, [(s.heap.push { cls := .type "range", data := .fields #[.int lo t, .int hi u, .int 1 v] }).objs.size], _, _, H, rfl,
      I1.kept (t' := tk) fun b o e => Heap.get?_push_of_some _ e, turn_range _ lo (hi - lo).toNat, ?_, fun b hb => ?_, q⟩
    · show IsRangeIter _ _ (lo + ((0 : Nat) : Int) * 1) ((((hi - lo).toNat : Nat) : Int) - ((0 : Nat) : Int)) 1
      rw [e1, e2]
      exact Heap.get?_push_size _ rfl
    · obtain rfl := fp b hb
      exact I1.fpOk (Nat.le_refl _) (I1.hok.fresh (Nat.le_refl _))
  | false =>
    refine wpAny_pyIter_longrange (IsRange.new ..) hs ?_
    refine ⟨(s.heap.push { cls := .type "range", data := .fields #[.int lo t, .int hi u, .int 1 v] }).objs.size, [(s.heap.push { cls := .type "range", data := .fields #[.int lo t, .int hi u, .int 1 v] }).objs.size], _, _, H, rfl,
      I1.kept (t' := tk) fun b o e => Heap.get?_push_of_some _ e, turn_long _ lo (hi - lo).toNat, ?_, fun b hb => ?_, q⟩
    · show IsLongIter _ _ (lo + ((0 : Nat) : Int) * 1) ((((hi - lo).toNat : Nat) : Int) - ((0 : Nat) : Int)) 1
      rw [e1, e2]
      exact Heap.get?_push_size _ rfl
    · obtain rfl := fp b hb
      exact I1.fpOk (Nat.le_refl _) (I1.hok.fresh (Nat.le_refl _))
def iRngL (ta : TA) : TI := fun σ H R => ta σ H fun vs H1 => ∃ i j : Int, vs = [.int i, .int j] ∧ R (Itr i (j - i).toNat) H1
theorem pi_rangeL {a b : Expr} {ta : TA} {p pos : Pos} (hg : Gl X "range") (hm : X.mg "range" = none) (ha : PA X [a, b] ta) (hs : starEach [a, b] X.env = [(false, eval a X.env), (false, eval b X.env)] := by rfl) (hs2 : starEach [b] X.env = [(false, eval b X.env)] := by rfl) :
    PI X tg (.Call (.Name "range" p) [a, b] [] pos) (iRngL ta) := by
  intro pins s σ H R I h
  refine Call_ (ld_blt I hg hm boot_range (PyProof.Rows.callWith_type1 (thn (ha pos pins s σ H _ I h) fun us s1 ⟨vs, H1, I1, r1, q1⟩ => ?_) (by rw [hs, hs2]) (by rw [hs2]; rfl)))
  obtain ⟨i, j, e, q⟩ := q1
  subst e
  cases r1 with
  | cons r rr =>
    cases rr with
    | cons r' rr =>
      cases rr
      obtain ⟨t, rfl⟩ := r
      obtain ⟨t', rfl⟩ := r'
      exact call_range_2 (range_itL I1 q)
end
section
variable {H : Hp} {bl : St} {tt : TT} {te : TE} {Fin : List V → Hp → Prop}
theorem lc_rangeL {lo : Int} {n : Nat} (Pv : Nat → List V → Hp → Prop) (h0 : Pv 0 [] H) (hn : n ≤ sizeLine)
    (hs : ∀ (i : Nat) ys H, i < n → Pv i ys H → tt (some (.int (lo + i)) :: bl) H fun c H2 => if c = true then te (some (.int (lo + i)) :: bl) H2 fun y H3 => Pv (i + 1) (ys ++ [y]) H3 else Pv (i + 1) ys H2)
    (hd : ∀ ys H, Pv n ys H → Fin ys H) :
    ∃ (W : Nat → List V → Hp → Prop) (m : Nat), W 0 [] H ∧ m ≤ sizeLine ∧ ∀ i ys H, W i ys H → ((Itr lo n).stop i H ∧ Fin ys H) ∨
      ((Itr lo n).go i H ∧ i < m ∧ ∀ x H', (Itr lo n).yld i H x H' → tt (some x :: bl) H' fun c H2 => if c = true then te (some x :: bl) H2 fun y H3 => W (i + 1) (ys ++ [y]) H3 else W (i + 1) ys H2) := by
  refine ⟨fun i ys H => i ≤ n ∧ Pv i ys H, n, ⟨Nat.zero_le _, h0⟩, hn, ?_⟩
  rintro i ys H ⟨hi, p⟩
  by_cases hlt : i < n
  · refine .inr ⟨hlt, hlt, fun x H' y => ?_⟩
    obtain ⟨e, y⟩ := y
    subst e
    subst y
    have z := hs i ys _ hlt p
    have e1 : (fun (c : Bool) (H2 : Hp) => if c = true then te (some (.int (lo + i)) :: bl) H2 fun y H3 => i + 1 ≤ n ∧ Pv (i + 1) (ys ++ [y]) H3 else i + 1 ≤ n ∧ Pv (i + 1) ys H2) = fun c H2 => if c = true then te (some (.int (lo + i)) :: bl) H2 fun y H3 => Pv (i + 1) (ys ++ [y]) H3 else Pv (i + 1) ys H2 := by
      have e2 : (i + 1 ≤ n) = True := eq_true hlt
      funext c H2
      simp only [e2, true_and]
    show tt _ _ _
    rw [e1]
    exact z
  · have e : i = n := by omega
    subst e
    exact .inl ⟨Nat.le_refl _, hd ys H p⟩
end
end L2
set_option maxHeartbeats 1000000
namespace L2
open PySem PySem.Spec PyProof.Rows Lo
section
variable {X : Cx} {k : Nat} {f C : Addr} {fd : FuncData} {ps : List Str} {sp : Sp} {m : Str} {o e : Expr} {es : List Expr} {ta : TE} {t : TA} {pos apos : Pos}
def xMeth (C : Addr) (m : Str) (sp : Sp) (ta : TE) (t : TA) : TX := fun σ H Q E => ta σ H fun x H1 => ∃ a dx fs, x = .ref a ∧ H1 a = some (.ins C dx fs) ∧ fs.lookup m = none ∧ t σ H1 fun vs H2 => sp (x :: vs) H2 Q E
theorem pex_meth {pl : Sem Bool} (ho : PE X.nox o ta) (c : Cls X.K C) (hm : Meth X.K C m f) (F : FnOk X.prog X.w X.K X.mg X.base (CXE X.prog X.w) k f fd ps sp) (hr : Room k X.A) (hb : Binds X.K fd ps []) (ha : PA X.nox (e :: es) t)
    (hst : starEach (e :: es) X.env = (false, eval e X.env) :: starEach es X.env := by rfl) (hpl : (backTo pos (starEach es X.env)).any (·.1) = false := by rfl)
    (ht : eval (.Call (.Attribute o m apos) (e :: es) [] pos) X.env = (do
      let ov ← eval o X.env
      standAt apos.atName
      let (f, first) ← holding [ov] (getMethod ov m pl)
      callWith pos f first (backTo pos (starEach (e :: es) X.env)) (backToKw pos (keywordEach [] X.env))) := by rfl) :
    PEX X (.Call (.Attribute o m apos) (e :: es) [] pos) (xMeth C m sp ta t) := by
  intro pins s σ H Q E I h
  refine PySem.W.methodCall_KW (pl := pl) (nox (ho pins s σ H _ (I.wish _) h) fun u s1 ⟨x, H1, I1, rx, a, dx, fs, ex, ea, l, q⟩ => ?_) ht
  subst ex
  obtain rfl : u = Value.ref a := rx
  refine getmeth_ok I1.unwish ea c hm l ?_
  refine PySem.W.callWith_K (first := [.ref a]) (h₀ := X.base) I.ok.mod.kin hm.kp (nox (ha pos pins s1 σ H1 _ I1 q) fun us s2 ⟨vs, H2, I2, r, q2⟩ => ⟨I2.unwish.kIn, ?_⟩) hst hpl
  exact run_fnX (us := .ref a :: us) (vs := .ref a :: vs) (dvs := []) (ds := []) F hr hb .nil I2.unwish (.cons rfl r) (by rw [List.append_nil]; exact q2)
theorem refs_vals : ∀ {Bs : List Addr} {its : List Value}, Vals (Bs.map V.ref) its → its = Bs.map Value.ref
  | [], _, .nil => rfl
  | B :: Bs, _, .cons r1 r2 => by
    rw [List.map_cons, ← refs_vals r2]
    exact congrArg (· :: _) r1
theorem call_isinstET {C : Addr} (Y : ExcK X.K C) : CallR X (.builtin "isinstance") (fun xs H Q => ∃ ea t Bs b, xs = [.ref ea, .ref t] ∧ H ea = some (ExcO ea C) ∧ H t = some (.tup ((Bs : List Addr).map V.ref)) ∧ PySem.W.kitAny X.K (.ref C) (Bs.map Value.ref) = some b ∧ Q (.bl b) H) := by
  intro pins s σ H xs us Q I r h
  obtain ⟨ea, t, Bs, b, rfl, ty, tt, e, q⟩ := h
  obtain ⟨u, u2, rfl, rx, r2⟩ := vals2 r
  cases (show u2 = Value.ref t from r2)
  cases (show u = Value.ref ea from rx)
  obtain ⟨_, its, rv, ht⟩ := I.hok t _ tt
  have ei : its = Bs.map Value.ref := refs_vals rv
  subst ei
  obtain ⟨ot, et, ct, n, dt⟩ := ht
  obtain ⟨oc, od, odt, osl⟩ := ot
  cases ct
  cases dt
  exact PySem.W.kia_tup (kitx_exc Y) I.kIn (I.hok.exc ty) et e (fun z => nomatch z) fun tk => ⟨.bl b, H, I.tok _, rfl, q⟩
end
end L2
set_option maxHeartbeats 1000000
namespace L2
open PySem PySem.Spec PyProof.Rows Lo
theorem eq_intC {K : PySem.W.Frag} {H : Hp} (n : Nat) (i : Int) : EqIs K n H (.int i) (.int i) true := by
  have z := (cInt.eq (K := K) (H := H) (x := i) (y := i) rfl rfl).mono (Nat.zero_le n)
  rwa [decide_eq_true rfl] at z
theorem rc_tup {K : PySem.W.Frag} {H : Hp} {a b : Addr} {n : Nat} {us vs : List V} (ha : SqT K H a us) (hb : SqT K H b vs) (h : Paired (fun x y => EqIs K n H x y true) us vs) : RcIs K (n + 1) H (.ref a) (.ref b) true ∧ EqIs K (n + 1) H (.ref a) (.ref b) true := by
  obtain ⟨z1, z2⟩ := tupRc (e := fun _ => true) ha hb h.len fun j x y e1 e2 => by
    obtain ⟨v, ev, rv⟩ := h.get1 e1
    rw [e2] at ev
    cases ev
    exact rv
  have e : ((List.range us.length).all fun _ => true) = true := by simp
  rw [e] at z1
  exact ⟨z1, eqIs_ref z1 fun _ _ _ _ _ _ => rfl⟩
theorem op_eqV {X : Cx} (n : Nat) (hu : X.A.units + n < cLine) : OpR X (compareOp .Eq) (fun x y H Q => RcIs X.K n H x y true ∧ Q (.bl true) H) := by
  intro pins s σ H x y v u Q I rx ry h
  exact h.1 X.prog X.w X.A s v u hu I.hok I.kIn rx ry X.prog X.w X.xe _ ⟨.bl true, H, I, rfl, h.2⟩
end L2
namespace Km
open PySem PySem.NumText PyProof.Rows
end Km
namespace Km
open PySem PySem.NumText L2
end Km
namespace Km
open PySem PySem.NumText L2 PyProof.Rows
end Km
set_option maxHeartbeats 1000000
namespace St
open PySem L2 Lo Km PySem.NumText
inductive Wd where
  | take | mean | sum | give | add | plus | need
  deriving DecidableEq
def wS : Wd → Str
  | .take => "take" | .mean => "mean" | .sum => "sum" | .give => "give" | .add => "add" | .plus => "plus" | .need => "need"
def wN : Wd → Str
  | .take => "TakeStep" | .mean => "MeanStep" | .sum => "SumStep" | .give => "GiveStep" | .add => "AddStep" | .plus => "PlusStep" | .need => "NeedStep"
def inN (i : Int) : Prop := 0 ≤ i ∧ i < 10 ^ 40
def inV (i : Int) : Prop := i.natAbs < 10 ^ 40
theorem inN.v {i : Int} (h : inN i) : inV i := by
  unfold inN at h
  unfold inV
  omega
def Ar : Wd → List Int → Prop
  | .take, [h, c] => inN h ∧ inN c
  | .mean, [h, c] => inN h ∧ inN c
  | .give, [h, c] => inN h ∧ inN c
  | .sum, [h, a, b] => inN h ∧ inN a ∧ inN b ∧ a ≤ b
  | .add, [h, c, v] => inN h ∧ inN c ∧ inV v
  | .plus, [v] => inV v
  | .need, [v] => inV v
  | _, _ => False
def fsOf : Wd → List Int → List (Str × V)
  | .take, [h, c] => putF "cell" (.int c) (putF "where" (.int h) [])
  | .mean, [h, c] => putF "cell" (.int c) (putF "where" (.int h) [])
  | .give, [h, c] => putF "cell" (.int c) (putF "where" (.int h) [])
  | .sum, [h, a, b] => putF "high" (.int b) (putF "low" (.int a) (putF "where" (.int h) []))
  | .add, [h, c, v] => putF "amount" (.int v) (putF "cell" (.int c) (putF "where" (.int h) []))
  | .plus, [v] => putF "amount" (.int v) []
  | .need, [v] => putF "amount" (.int v) []
  | _, _ => []
def StO (C : Wd → Addr) (H : Hp) (w : Wd) (ns : List Int) (v : V) : Prop := ∃ a dx, v = .ref a ∧ H a = some (.ins (C w) dx (fsOf w ns))
def tSt (H : Hp) (w : Wd) (ns : List Int) (v : V) : Prop := ∃ a, v = .ref a ∧ H a = some (.tup (.str (wS w) :: ns.map V.int))
def lockO : Wd → List Int → Option Lk
  | .take, [_, c] => some (.read, c, c)
  | .mean, [_, c] => some (.mean, c, c)
  | .give, [_, c] => some (.change, c, c)
  | .sum, [_, a, b] => some (.read, a, b)
  | .add, [_, c, _] => some (.change, c, c)
  | _, _ => none
def orl (K : PySem.W.Frag) (H : Hp) : Option Lk → V → Prop
  | none, v => v = .non
  | some k, v => ∃ a, v = .ref a ∧ H a = some (.tup [.str (kdS k.1), .int k.2.1, .int k.2.2])
end St
set_option maxHeartbeats 1000000
namespace L2
open PySem PySem.Spec PyProof.Rows
section
variable {X : Cx} {CX : CXT} {E : XK} {k : Nat} {C f : Addr} {fd : FuncData} {ps : List Str} {sp : Sp} {m : Str} {o e : Expr} {es : List Expr} {t : TA} {ty : TE} {pos apos cpos p : Pos} {mc : Value}
structure ClsFn (K : PySem.W.Frag) (C : Addr) (m : Str) (f : Addr) : Prop where
  ga : PySem.W.specialIn K (.ref C) "__getattribute__" = some (some (.builtin "type.__getattribute__"))
  rd : PySem.W.readsIn K C (.type "type") = true
  fc : PySem.W.findCls K (.ref C) (.type "type") m = some (.val (.ref f))
  hi : PySem.W.handedIn (.ref f) = true
  kp : PySem.W.keepIn K (.ref f) = true
theorem pe_clsm {pl : Sem Bool} (ho : PE X o (tC (.ref C))) (c : ClsFn X.K C m f) (F : FnOk X.prog X.w X.K X.mg X.base CX k f fd ps sp) (hr : Room k X.A) (hb : Binds X.K fd ps []) (hx : Passes CX X E) (ha : PA X (e :: es) t)
    (hst : starEach (e :: es) X.env = (false, eval e X.env) :: starEach es X.env := by rfl) (hpl : (backTo pos (starEach es X.env)).any (·.1) = false := by rfl)
    (ht : eval (.Call (.Attribute o m apos) (e :: es) [] pos) X.env = (do
      let ov ← eval o X.env
      standAt apos.atName
      let (f, first) ← holding [ov] (getMethod ov m pl)
      callWith pos f first (backTo pos (starEach (e :: es) X.env)) (backToKw pos (keywordEach [] X.env))) := by rfl) :
    PE X (.Call (.Attribute o m apos) (e :: es) [] pos) (tCall sp [] E t) := by
  intro pins s σ H Q I h
  refine PySem.W.methodCall_KW (pl := pl) (thn (ho pins s σ H (fun x H1 => x = .ref C ∧ t σ H1 fun vs H2 => sp (vs ++ []) H2 Q E) I ⟨rfl, h⟩) fun u s1 ⟨x, H1, I1, rx, ex, q⟩ => ?_) ht
  subst ex
  obtain rfl : u = Value.ref C := rx
  refine PySem.W.method_cls I1.kIn c.ga (PySem.W.cls_value I1.kIn c.rd c.fc c.hi ?_)
  have I2 : Inv X pins σ H1 { s1 with toks := s1.toks + 1 } := I1.tok _
  refine PySem.W.callWith_K (first := []) (h₀ := X.base) I.ok.mod.kin c.kp (thn (ha pos pins _ σ H1 _ I2 q) fun us s2 ⟨vs, H2, I3, r, q2⟩ => ⟨I3.kIn, ?_⟩) hst hpl
  exact run_fn (us := us) (vs := vs) F hr hb .nil hx I3 r q2
end
end L2
set_option maxHeartbeats 1000000
namespace St
open PySem L2 Lo Km PySem.NumText
structure TxW (K : PySem.W.Frag) (CW : Wd → Addr) : Prop where
  cl : ∀ w, Cls K (CW w)
  nW : ∀ w, NoAttr K (CW w) "where"
  nC : ∀ w, NoAttr K (CW w) "cell"
  nL : ∀ w, NoAttr K (CW w) "low"
  nH : ∀ w, NoAttr K (CW w) "high"
  nA : ∀ w, NoAttr K (CW w) "amount"
def isC : Wd → Bool
  | .take => true | .mean => true | .give => true | _ => false
theorem lk_hit {f : Str} {v : V} {fs : List (Str × V)} : (putF f v fs).lookup f = some v := by rw [lookup_putF, if_pos rfl]
theorem lk_miss {f g : Str} {v : V} {fs : List (Str × V)} (h : ¬ g = f) : (putF f v fs).lookup g = fs.lookup g := by rw [lookup_putF, if_neg h]
section
variable (CW : Wd → Addr)
def spWInit (w : Wd) : Sp := fun vs H Q _ => ∃ a dx ns, vs = .ref a :: (ns : List Int).map V.int ∧ Ar w ns ∧ H a = some (.ins (CW w) dx []) ∧ ∀ H', H' a = some (.ins (CW w) dx (fsOf w ns)) → Kp a H H' → Q .non H'
def spCInit : Sp := fun vs H Q _ => ∃ a dx w h c, vs = [.ref a, .int h, .int c] ∧ H a = some (.ins (CW w) dx []) ∧ ∀ H', H' a = some (.ins (CW w) dx (putF "cell" (.int c) (putF "where" (.int h) []))) → Kp a H H' → Q .non H'
def spSLock (K : PySem.W.Frag) (w : Wd) : Sp := fun vs H Q _ => ∃ v ns, vs = [v] ∧ Ar w ns ∧ StO CW H w ns v ∧ ∀ u H', Same H H' → orl K H' (lockO w ns) u → Q u H'
end
theorem Ar.c {w : Wd} {ns : List Int} (hw : isC w = true) (h : Ar w ns) : ∃ a b, ns = [a, b] ∧ inN a ∧ inN b ∧ fsOf w ns = putF "cell" (.int b) (putF "where" (.int a) []) := by
  cases w <;> first | cases hw | skip
  all_goals
    match ns, h with
    | [a, b], h => exact ⟨a, b, rfl, h.1, h.2, rfl⟩
theorem Ar.s {ns : List Int} (h : Ar .sum ns) : ∃ a b c, ns = [a, b, c] ∧ inN a ∧ inN b ∧ inN c ∧ b ≤ c := by
  match ns, h with
  | [a, b, c], h => exact ⟨a, b, c, rfl, h⟩
theorem Ar.a {ns : List Int} (h : Ar .add ns) : ∃ a b c, ns = [a, b, c] ∧ inN a ∧ inN b ∧ inV c := by
  match ns, h with
  | [a, b, c], h => exact ⟨a, b, c, rfl, h⟩
theorem Ar.p {ns : List Int} (h : Ar .plus ns) : ∃ a, ns = [a] ∧ inV a := by
  match ns, h with
  | [a], h => exact ⟨a, rfl, h⟩
theorem Ar.n {ns : List Int} (h : Ar .need ns) : ∃ a, ns = [a] ∧ inV a := by
  match ns, h with
  | [a], h => exact ⟨a, rfl, h⟩
end St
set_option maxHeartbeats 1000000
namespace St
open PySem PySem.Spec PyProof.Rows L2 Lo Km PySem.NumText
section
variable {K : PySem.W.Frag} {H : Hp} {a : Addr} {bl : L2.St} {te : TE} {Fin : List V → Hp → Prop}
end
theorem at0 {x : V} {xs : List V} : atI (x :: xs) 0 = some x := atI_nat (j := 0) rfl
theorem wS_inj {a b : Wd} (h : wS a = wS b) : a = b := by
  cases a <;> cases b <;> first | rfl | exact absurd h (by decide +kernel)
theorem w_hit {a b : Wd} (c : decide (V.str (wS a) = V.str (wS b)) = true) : a = b := wS_inj (V.str.inj (of_decide_eq_true c))
theorem w_miss {a b : Wd} (c : ¬ decide (V.str (wS a) = V.str (wS b)) = true) : a ≠ b := fun e => c (by rw [e]; exact decide_eq_true rfl)
theorem w_need {a : Wd} (h1 : a ≠ .take) (h2 : a ≠ .mean) (h3 : a ≠ .sum) (h4 : a ≠ .give) (h5 : a ≠ .add) (h6 : a ≠ .plus) : a = .need := by
  cases a <;> first | rfl | contradiction
theorem w_of (i : Int) (h0 : 0 ≤ i) (h7 : i < 7) : ∃ w, atI ([.str "take", .str "mean", .str "sum", .str "give", .str "add", .str "plus", .str "need"] : List V) i = some (.str (wS w)) := by
  have : i = 0 ∨ i = 1 ∨ i = 2 ∨ i = 3 ∨ i = 4 ∨ i = 5 ∨ i = 6 := by omega
  rcases this with rfl | rfl | rfl | rfl | rfl | rfl | rfl
  · exact ⟨.take, rfl⟩
  · exact ⟨.mean, rfl⟩
  · exact ⟨.sum, rfl⟩
  · exact ⟨.give, rfl⟩
  · exact ⟨.add, rfl⟩
  · exact ⟨.plus, rfl⟩
  · exact ⟨.need, rfl⟩
theorem fs_no {m : Str} (h1 : ¬ m = "where") (h2 : ¬ m = "cell") (h3 : ¬ m = "low") (h4 : ¬ m = "high") (h5 : ¬ m = "amount") (w : Wd) (ns : List Int) : (fsOf w ns).lookup m = none := by
  unfold fsOf
  split <;> simp only [lk_miss h1, lk_miss h2, lk_miss h3, lk_miss h4, lk_miss h5, List.lookup_nil]
theorem mk_kp {H H' : Hp} {x dx : Addr} {o1 o2 : HO} (nx : H x = none) (nd : H dx = none) (k : Kp x (upd (upd H dx o1) x o2) H') : Same H H' := fun b o e => by
  have hx : b ≠ x := fun z => by rw [z, nx] at e; cases e
  have hd : b ≠ dx := fun z => by rw [z, nd] at e; cases e
  exact k b o hx (by rw [upd_ne hx, upd_ne hd]; exact e)
structure WI (P : Program) (w : World) (K : PySem.W.Frag) (mg : Str → Option Value) (base : Heap) (CW : Wd → Addr) (wd : Wd) where
  fI : Addr
  dI : FuncData
  ps : List Str
  M : Mk K (CW wd) fI
  ok : FnOk P w K mg base CX0 2 fI dI ps (spWInit CW wd)
  b : Binds K dI ps []
  m : mg (wN wd) = some (.ref (CW wd))
section
variable (CW : Wd → Addr)
def spLMade : Sp := fun vs H Q _ => ∃ wd ns v, vs = [v] ∧ tSt H wd ns v ∧ Ar wd ns ∧ ∀ u H', Same H H' → StO CW H' wd ns u → Q u H'
end
def spNumber : Sp := fun vs H Q _ => ∃ c k, vs = [.int c, .int k] ∧ ∀ r, inN r → Q (.int r) H
def spEither : Sp := fun vs H Q _ => ∃ c k, vs = [.int c, .int k] ∧ ∀ r, inV r → Q (.int r) H
def spLStep : Sp := fun vs H Q _ => ∃ c, vs = [.int c] ∧ ∀ wd ns v H', Ar wd ns → Same H H' → tSt H' wd ns v → Q v H'
end St
set_option maxHeartbeats 4000000
namespace K22
open PySem L2 Lo
def top (i : Nat) : Stmt := PySem.Challenge.pw_pactroom_k22_a_step_done.main.body.getD i (.Pass ⟨0, 0, 0, 0⟩)
abbrev m_Lock_init : Stmt := inClass (top 9) 0
abbrev m_Lock_told : Stmt := inClass (top 9) 4
abbrev m_Read_kind : Stmt := inClass (top 10) 0
abbrev m_Mean_kind : Stmt := inClass (top 11) 0
abbrev m_Change_kind : Stmt := inClass (top 12) 0
abbrev m_Step_lock : Stmt := inClass (top 14) 1
abbrev m_CellStep_init : Stmt := inClass (top 15) 0
abbrev m_TakeStep_lock : Stmt := inClass (top 16) 0
abbrev m_TakeStep_step_done : Stmt := inClass (top 16) 1
abbrev m_MeanStep_lock : Stmt := inClass (top 17) 0
abbrev m_MeanStep_step_done : Stmt := inClass (top 17) 1
abbrev m_SumStep_init : Stmt := inClass (top 18) 0
abbrev m_SumStep_lock : Stmt := inClass (top 18) 2
abbrev m_SumStep_step_done : Stmt := inClass (top 18) 3
abbrev m_GiveStep_lock : Stmt := inClass (top 19) 0
abbrev m_GiveStep_step_done : Stmt := inClass (top 19) 1
abbrev m_AddStep_init : Stmt := inClass (top 20) 0
abbrev m_AddStep_lock : Stmt := inClass (top 20) 1
abbrev m_AddStep_step_done : Stmt := inClass (top 20) 2
abbrev m_PlusStep_init : Stmt := inClass (top 21) 0
abbrev m_PlusStep_step_done : Stmt := inClass (top 21) 1
abbrev m_NeedStep_init : Stmt := inClass (top 22) 0
abbrev m_NeedStep_step_done : Stmt := inClass (top 22) 1
abbrev s__law_cell : Stmt := top 24
abbrev s__law_whole : Stmt := top 25
abbrev s__law_mixed : Stmt := top 26
abbrev s__law_number : Stmt := top 27
abbrev s__law_either : Stmt := top 28
abbrev s__law_step : Stmt := top 29
abbrev s__law_made : Stmt := top 31
abbrev s__law_near : Stmt := top 32
abbrev s__law_due : Stmt := top 33
abbrev s__law_alike : Stmt := top 34
abbrev s__law_refused : Stmt := top 35
abbrev s_law : Stmt := top 36
theorem sc_Lock_init : FnScope ["self", "first", "last"] ["self", "first", "last"] (defScope m_Lock_init) := ⟨rfl, rfl, rfl, by decide +kernel, rfl, by decide +kernel, by decide +kernel⟩
theorem sc_Lock_told : FnScope ["self"] ["self"] (defScope m_Lock_told) := ⟨rfl, rfl, rfl, by decide +kernel, rfl, by decide +kernel, by decide +kernel⟩
theorem sc_Read_kind : FnScope ["self"] ["self"] (defScope m_Read_kind) := ⟨rfl, rfl, rfl, by decide +kernel, rfl, by decide +kernel, by decide +kernel⟩
theorem sc_Mean_kind : FnScope ["self"] ["self"] (defScope m_Mean_kind) := ⟨rfl, rfl, rfl, by decide +kernel, rfl, by decide +kernel, by decide +kernel⟩
theorem sc_Change_kind : FnScope ["self"] ["self"] (defScope m_Change_kind) := ⟨rfl, rfl, rfl, by decide +kernel, rfl, by decide +kernel, by decide +kernel⟩
theorem sc_Step_lock : FnScope ["self"] ["self"] (defScope m_Step_lock) := ⟨rfl, rfl, rfl, by decide +kernel, rfl, by decide +kernel, by decide +kernel⟩
theorem sc_CellStep_init : FnScope ["self", "where", "cell"] ["self", "where", "cell"] (defScope m_CellStep_init) := ⟨rfl, rfl, rfl, by decide +kernel, rfl, by decide +kernel, by decide +kernel⟩
theorem sc_TakeStep_lock : FnScope ["self"] ["self"] (defScope m_TakeStep_lock) := ⟨rfl, rfl, rfl, by decide +kernel, rfl, by decide +kernel, by decide +kernel⟩
theorem sc_TakeStep_step_done : FnScope ["self", "hand", "value_of"] ["self", "hand", "value_of"] (defScope m_TakeStep_step_done) := ⟨rfl, rfl, rfl, by decide +kernel, rfl, by decide +kernel, by decide +kernel⟩
theorem sc_MeanStep_lock : FnScope ["self"] ["self"] (defScope m_MeanStep_lock) := ⟨rfl, rfl, rfl, by decide +kernel, rfl, by decide +kernel, by decide +kernel⟩
theorem sc_MeanStep_step_done : FnScope ["self", "hand", "value_of"] ["self", "hand", "value_of"] (defScope m_MeanStep_step_done) := ⟨rfl, rfl, rfl, by decide +kernel, rfl, by decide +kernel, by decide +kernel⟩
theorem sc_SumStep_init : FnScope ["self", "where", "low", "high"] ["self", "where", "low", "high"] (defScope m_SumStep_init) := ⟨rfl, rfl, rfl, by decide +kernel, rfl, by decide +kernel, by decide +kernel⟩
theorem sc_SumStep_lock : FnScope ["self"] ["self"] (defScope m_SumStep_lock) := ⟨rfl, rfl, rfl, by decide +kernel, rfl, by decide +kernel, by decide +kernel⟩
theorem sc_SumStep_step_done : FnScope ["self", "hand", "value_of"] ["self", "hand", "value_of"] (defScope m_SumStep_step_done) := ⟨rfl, rfl, rfl, by decide +kernel, rfl, by decide +kernel, by decide +kernel⟩
def cm_SumStep_step_done_0 : Scope := match defBody m_SumStep_step_done with
  | .Return (some (.Tuple [(.Call _ [.ListComp _ _ sc _] _ _), _] _ _)) _ :: _ => sc
  | _ => default
theorem sb_SumStep_step_done_0 : BlkScope ["self", "hand", "value_of"] (defScope m_SumStep_step_done) cm_SumStep_step_done_0 "cell" ["cell", "value_of"] [2] := ⟨by decide +kernel, rfl, by decide +kernel, rfl, by decide +kernel, by decide +kernel, rfl, rfl, by decide +kernel⟩
theorem sc_GiveStep_lock : FnScope ["self"] ["self"] (defScope m_GiveStep_lock) := ⟨rfl, rfl, rfl, by decide +kernel, rfl, by decide +kernel, by decide +kernel⟩
theorem sc_GiveStep_step_done : FnScope ["self", "hand", "value_of"] ["self", "hand", "value_of"] (defScope m_GiveStep_step_done) := ⟨rfl, rfl, rfl, by decide +kernel, rfl, by decide +kernel, by decide +kernel⟩
theorem sc_AddStep_init : FnScope ["self", "where", "cell", "amount"] ["self", "where", "cell", "amount"] (defScope m_AddStep_init) := ⟨rfl, rfl, rfl, by decide +kernel, rfl, by decide +kernel, by decide +kernel⟩
theorem sc_AddStep_lock : FnScope ["self"] ["self"] (defScope m_AddStep_lock) := ⟨rfl, rfl, rfl, by decide +kernel, rfl, by decide +kernel, by decide +kernel⟩
theorem sc_AddStep_step_done : FnScope ["self", "hand", "value_of"] ["self", "hand", "value_of"] (defScope m_AddStep_step_done) := ⟨rfl, rfl, rfl, by decide +kernel, rfl, by decide +kernel, by decide +kernel⟩
theorem sc_PlusStep_init : FnScope ["self", "amount"] ["self", "amount"] (defScope m_PlusStep_init) := ⟨rfl, rfl, rfl, by decide +kernel, rfl, by decide +kernel, by decide +kernel⟩
theorem sc_PlusStep_step_done : FnScope ["self", "hand", "value_of"] ["self", "hand", "value_of"] (defScope m_PlusStep_step_done) := ⟨rfl, rfl, rfl, by decide +kernel, rfl, by decide +kernel, by decide +kernel⟩
theorem sc_NeedStep_init : FnScope ["self", "amount"] ["self", "amount"] (defScope m_NeedStep_init) := ⟨rfl, rfl, rfl, by decide +kernel, rfl, by decide +kernel, by decide +kernel⟩
theorem sc_NeedStep_step_done : FnScope ["self", "hand", "value_of"] ["self", "hand", "value_of"] (defScope m_NeedStep_step_done) := ⟨rfl, rfl, rfl, by decide +kernel, rfl, by decide +kernel, by decide +kernel⟩
theorem sc__law_cell : FnScope ["_law_script", "_law_k"] ["_law_script", "_law_k"] (defScope s__law_cell) := ⟨rfl, rfl, rfl, by decide +kernel, rfl, by decide +kernel, by decide +kernel⟩
theorem sc__law_whole : FnScope ["_law_found"] ["_law_found"] (defScope s__law_whole) := ⟨rfl, rfl, rfl, by decide +kernel, rfl, by decide +kernel, by decide +kernel⟩
theorem sc__law_mixed : FnScope ["_law_cell_here", "_law_k", "_law_number_here"] ["_law_cell_here", "_law_k"] (defScope s__law_mixed) := ⟨rfl, rfl, rfl, by decide +kernel, rfl, by decide +kernel, by decide +kernel⟩
theorem sc__law_number : FnScope ["_law_cell_here", "_law_k", "_law_number_here", "_law_j"] ["_law_cell_here", "_law_k"] (defScope s__law_number) := ⟨rfl, rfl, rfl, by decide +kernel, rfl, by decide +kernel, by decide +kernel⟩
theorem sc__law_either : FnScope ["_law_cell_here", "_law_k"] ["_law_cell_here", "_law_k"] (defScope s__law_either) := ⟨rfl, rfl, rfl, by decide +kernel, rfl, by decide +kernel, by decide +kernel⟩
theorem sc__law_step : FnScope ["_law_cell_here", "_law_word", "_law_where", "_law_one", "_law_other"] ["_law_cell_here"] (defScope s__law_step) := ⟨rfl, rfl, rfl, by decide +kernel, rfl, by decide +kernel, by decide +kernel⟩
theorem sc__law_made : FnScope ["_law_step_here"] ["_law_step_here"] (defScope s__law_made) := ⟨rfl, rfl, rfl, by decide +kernel, rfl, by decide +kernel, by decide +kernel⟩
theorem sc__law_near : FnScope ["_law_step_here", "_law_cell_here", "_law_hand", "_law_low"] ["_law_step_here", "_law_cell_here", "_law_hand"] (defScope s__law_near) := ⟨rfl, rfl, rfl, by decide +kernel, rfl, by decide +kernel, by decide +kernel⟩
theorem sc__law_due : FnScope ["_law_step_here", "_law_hand", "_law_value_of"] ["_law_step_here", "_law_hand", "_law_value_of"] (defScope s__law_due) := ⟨rfl, rfl, rfl, by decide +kernel, rfl, by decide +kernel, by decide +kernel⟩
def cm__law_due_0 : Scope := match defBody s__law_due with
  | _ :: .If _ (.Return (some (.Tuple [(.Call _ [.ListComp _ _ sc _] _ _), _] _ _)) _ :: _) _ _ :: _ => sc
  | _ => default
theorem sb__law_due_0 : BlkScope ["_law_step_here", "_law_hand", "_law_value_of"] (defScope s__law_due) cm__law_due_0 "_law_cell_here" ["_law_cell_here", "_law_value_of"] [2] := ⟨by decide +kernel, rfl, by decide +kernel, rfl, by decide +kernel, by decide +kernel, rfl, rfl, by decide +kernel⟩
theorem sc__law_alike : FnScope ["_law_found", "_law_due_here", "_law_pair"] ["_law_found", "_law_due_here"] (defScope s__law_alike) := ⟨rfl, rfl, rfl, by decide +kernel, rfl, by decide +kernel, by decide +kernel⟩
theorem sc__law_refused : FnScope ["_law_made_here", "_law_hand", "_law_value_of", "e"] ["_law_made_here", "_law_hand", "_law_value_of"] (defScope s__law_refused) := ⟨rfl, rfl, rfl, by decide +kernel, rfl, by decide +kernel, by decide +kernel⟩
theorem sc_law : FnScope ["_law_script", "_law_salt", "_law_hand", "_law_asked_here", "_law_value", "_law_asked", "_law_cell_here", "_law_step_here", "_law_made_here", "_law_due_here", "_law_one"] ["_law_script"] (defScope s_law) := ⟨rfl, rfl, rfl, by decide +kernel, rfl, by decide +kernel, by decide +kernel⟩
end K22
set_option maxHeartbeats 4000000
namespace K22
open PySem L2 Lo St
section
variable {P : Program} {w : World} {K : PySem.W.Frag} {mg : Str → Option Value} {base : Heap} {f CL : Addr} {fd : FuncData} {C : Kd → Addr} {CW : Wd → Addr}
theorem ok_rk (F : Fun K "kind" "Read.kind" m_Read_kind f fd) : FnOk P w K mg base CX0 1 f fd ["self"] (spKind .read) := by
  refine F.ok sc_Read_kind (fun vs H Q E h => ?_) (fun cdv A outer s H vs Q E hr h => ?_)
  · obtain ⟨v, rfl, _⟩ := h
    rfl
  obtain ⟨v, rfl, q⟩ := h
  exact ⟨_, pss_one (ps_ret pe_str), q⟩
theorem ok_mk (F : Fun K "kind" "Mean.kind" m_Mean_kind f fd) : FnOk P w K mg base CX0 1 f fd ["self"] (spKind .mean) := by
  refine F.ok sc_Mean_kind (fun vs H Q E h => ?_) (fun cdv A outer s H vs Q E hr h => ?_)
  · obtain ⟨v, rfl, _⟩ := h
    rfl
  obtain ⟨v, rfl, q⟩ := h
  exact ⟨_, pss_one (ps_ret pe_str), q⟩
theorem ok_ck (F : Fun K "kind" "Change.kind" m_Change_kind f fd) : FnOk P w K mg base CX0 1 f fd ["self"] (spKind .change) := by
  refine F.ok sc_Change_kind (fun vs H Q E h => ?_) (fun cdv A outer s H vs Q E hr h => ?_)
  · obtain ⟨v, rfl, _⟩ := h
    rfl
  obtain ⟨v, rfl, q⟩ := h
  exact ⟨_, pss_one (ps_ret pe_str), q⟩
theorem ok_linit (F : Fun K "__init__" "Lock.__init__" m_Lock_init f fd) (T : TxK K C) : FnOk P w K mg base CX0 1 f fd ["self", "first", "last"] (spLInit C) := by
  refine F.ok sc_Lock_init (fun vs H Q E h => ?_) (fun cdv A outer s H vs Q E hr h => ?_)
  · obtain ⟨a, dx, k, x, y, rfl, _⟩ := h
    rfl
  obtain ⟨a, dx, k, x, y, rfl, ha, q⟩ := h
  refine ⟨_, pss_cons (ps_fld (pv 0) (pv 1) rfl) (pss_one (ps_fld (pv 0) (pv 2) rfl)), ?_⟩
  exact ⟨_, rfl, _, rfl, a, C k, dx, [], rfl, ha, T.cl k, T.nF k, (by show 0 < 1000; decide), _, rfl, _, rfl, a, C k, dx, _, rfl, upd_same, T.cl k, T.nL k, (by show 1 < 1000; decide), q⟩
theorem ok_told (F : Fun K "told" "Lock.told" m_Lock_told f fd) (T : TxK K C) (GK : ∀ k, GM P w K mg base CX0 1 (C k) "kind" ["self"] (spKind k)) : FnOk P w K mg base CX0 2 f fd ["self"] (spTold C) := by
  refine F.ok sc_Lock_told (fun vs H Q E h => ?_) (fun cdv A outer s H vs Q E hr h => ?_)
  · obtain ⟨v, k, rfl, _⟩ := h
    rfl
  obtain ⟨v, k, rfl, ⟨a, dx, rfl, ha⟩, q⟩ := h
  refine ⟨_, pss_one (ps_ret (pe_tup (pa_cons (pm0 (GK k.1) (pv 0) (T.cl k.1) hr) (pa_cons (pe_fld (pv 0) rfl) (pa_cons (pe_fld (pv 0) rfl) pa_nil))))), ?_⟩
  refine ⟨_, rfl, a, dx, _, rfl, ha, lf_no _ _ (by decide +kernel) (by decide +kernel), _, rfl, ?_⟩
  exact ⟨_, rfl, a, _, dx, _, _, rfl, ha, T.cl _, T.nF _, lf_first _ _, _, rfl, a, _, dx, _, _, rfl, ha, T.cl _, T.nL _, lf_last _ _, (by show 3 ≤ sizeLine; decide), fun t ht => q t ht⟩
theorem kp2 {a : Addr} {H : Hp} {o1 o2 : HO} : Kp a H (upd (upd H a o1) a o2) := fun b o n e => by rw [upd_ne n, upd_ne n]; exact e
theorem ok_cinit (F : Fun K "__init__" "CellStep.__init__" m_CellStep_init f fd) (T : TxW K CW) : FnOk P w K mg base CX0 1 f fd ["self", "where", "cell"] (spCInit CW) := by
  refine F.ok sc_CellStep_init (fun vs H Q E h => ?_) (fun cdv A outer s H vs Q E hr h => ?_)
  · obtain ⟨a, dx, wd, x, y, rfl, _⟩ := h
    rfl
  obtain ⟨a, dx, wd, x, y, rfl, ha, q⟩ := h
  refine ⟨_, pss_cons (ps_fld (pv 0) (pv 1) rfl) (pss_one (ps_fld (pv 0) (pv 2) rfl)), ?_⟩
  exact ⟨_, rfl, _, rfl, a, CW wd, dx, [], rfl, ha, T.cl wd, T.nW wd, (by show 0 < 1000; decide), _, rfl, _, rfl, a, CW wd, dx, _, rfl, upd_same, T.cl wd, T.nC wd, (by show 1 < 1000; decide), q _ upd_same kp2⟩
theorem cinit_w {wd : Wd} (hw : isC wd = true) {vs : List V} {H : Hp} {Q : VK} {E : XK} (h : spWInit CW wd vs H Q E) : spCInit CW vs H Q E := by
  obtain ⟨a, dx, ns, rfl, ar, ha, q⟩ := h
  obtain ⟨x, y, rfl, _, _, e⟩ := ar.c hw
  exact ⟨a, dx, wd, x, y, rfl, ha, fun H' h1 h2 => q H' (by rw [e]; exact h1) h2⟩
theorem ok_sinit (F : Fun K "__init__" "SumStep.__init__" m_SumStep_init f fd) (T : TxW K CW) : FnOk P w K mg base CX0 1 f fd ["self", "where", "low", "high"] (spWInit CW .sum) := by
  refine F.ok sc_SumStep_init (fun vs H Q E h => ?_) (fun cdv A outer s H vs Q E hr h => ?_)
  · obtain ⟨a, dx, ns, rfl, ar, _⟩ := h
    obtain ⟨x, y, z, rfl, _⟩ := ar.s
    rfl
  obtain ⟨a, dx, ns, rfl, ar, ha, q⟩ := h
  obtain ⟨x, y, z, rfl, _⟩ := ar.s
  refine ⟨_, pss_cons (ps_fld (pv 0) (pv 1) rfl) (pss_cons (ps_fld (pv 0) (pv 2) rfl) (pss_one (ps_fld (pv 0) (pv 3) rfl))), ?_⟩
  exact ⟨_, rfl, _, rfl, a, CW .sum, dx, [], rfl, ha, T.cl _, T.nW _, (by show 0 < 1000; decide), _, rfl, _, rfl, a, CW .sum, dx, _, rfl, upd_same, T.cl _, T.nL _, (by show 1 < 1000; decide), _, rfl, _, rfl, a, CW .sum, dx, _, rfl, upd_same, T.cl _, T.nH _, Nat.lt_of_le_of_lt (length_putF _ _ _) (by show 1 + 1 < 1000; decide), q _ upd_same fun b o n e => by rw [upd_ne n, upd_ne n, upd_ne n]; exact e⟩
theorem ok_ainit {CC fC : Addr} {dC : FuncData} (F : Fun K "__init__" "AddStep.__init__" m_AddStep_init f fd) (T : TxW K CW) (mgC : mg "CellStep" = some (.ref CC)) (cf : ClsFn K CC "__init__" fC) (GC : FnOk P w K mg base CX0 1 fC dC ["self", "where", "cell"] (spCInit CW)) (bC : Binds K dC ["self", "where", "cell"] []) :
    FnOk P w K mg base CX0 2 f fd ["self", "where", "cell", "amount"] (spWInit CW .add) := by
  refine F.ok sc_AddStep_init (fun vs H Q E h => ?_) (fun cdv A outer s H vs Q E hr h => ?_)
  · obtain ⟨a, dx, ns, rfl, ar, _⟩ := h
    obtain ⟨x, y, z, rfl, _⟩ := ar.a
    rfl
  obtain ⟨a, dx, ns, rfl, ar, ha, q⟩ := h
  obtain ⟨x, y, z, rfl, _⟩ := ar.a
  refine ⟨_, pss_cons (ps_expr (pe_clsm (pe_glob (v := .ref CC) rfl mgC rfl) cf GC hr bC pass0 (pa_cons (pv 0) (pa_cons (pv 1) (pa_cons (pv 2) pa_nil))))) (pss_one (ps_fld (pv 0) (pv 3) rfl)), ?_⟩
  refine ⟨_, rfl, _, rfl, _, rfl, a, dx, .add, x, y, rfl, ha, fun H' h1 h2 => ?_⟩
  exact ⟨_, rfl, _, rfl, a, CW .add, dx, _, rfl, h1, T.cl _, T.nA _, Nat.lt_of_le_of_lt (length_putF _ _ _) (by show 1 + 1 < 1000; decide), q _ upd_same fun b o n e => by rw [upd_ne n]; exact h2 b o n e⟩
theorem ok_pinit (F : Fun K "__init__" "PlusStep.__init__" m_PlusStep_init f fd) (T : TxW K CW) : FnOk P w K mg base CX0 1 f fd ["self", "amount"] (spWInit CW .plus) := by
  refine F.ok sc_PlusStep_init (fun vs H Q E h => ?_) (fun cdv A outer s H vs Q E hr h => ?_)
  · obtain ⟨a, dx, ns, rfl, ar, _⟩ := h
    obtain ⟨x, rfl, _⟩ := ar.p
    rfl
  obtain ⟨a, dx, ns, rfl, ar, ha, q⟩ := h
  obtain ⟨x, rfl, _⟩ := ar.p
  refine ⟨_, pss_one (ps_fld (pv 0) (pv 1) rfl), ?_⟩
  exact ⟨_, rfl, _, rfl, a, CW .plus, dx, [], rfl, ha, T.cl _, T.nA _, (by show 0 < 1000; decide), q _ upd_same kp_upd⟩
theorem ok_ninit (F : Fun K "__init__" "NeedStep.__init__" m_NeedStep_init f fd) (T : TxW K CW) : FnOk P w K mg base CX0 1 f fd ["self", "amount"] (spWInit CW .need) := by
  refine F.ok sc_NeedStep_init (fun vs H Q E h => ?_) (fun cdv A outer s H vs Q E hr h => ?_)
  · obtain ⟨a, dx, ns, rfl, ar, _⟩ := h
    obtain ⟨x, rfl, _⟩ := ar.n
    rfl
  obtain ⟨a, dx, ns, rfl, ar, ha, q⟩ := h
  obtain ⟨x, rfl, _⟩ := ar.n
  refine ⟨_, pss_one (ps_fld (pv 0) (pv 1) rfl), ?_⟩
  exact ⟨_, rfl, _, rfl, a, CW .need, dx, [], rfl, ha, T.cl _, T.nA _, (by show 0 < 1000; decide), q _ upd_same kp_upd⟩
end
end K22
set_option maxHeartbeats 4000000
namespace K22
open PySem L2 Lo St
section
variable {P : Program} {w : World} {K : PySem.W.Frag} {mg : Str → Option Value} {base : Heap} {f CL : Addr} {fd : FuncData} {C : Kd → Addr} {CW : Wd → Addr}
theorem ok_ltake (F : Fun K "lock" "TakeStep.lock" m_TakeStep_lock f fd) (W : TxW K CW) (T : TxK K C) (mgC : ∀ k, mg (kdN k) = some (.ref (C k))) {fI : Addr} {dI : FuncData} (M : ∀ k, Mk K (C k) fI)
    (GI : FnOk P w K mg base CX0 1 fI dI ["self", "first", "last"] (spLInit C)) (bI : Binds K dI ["self", "first", "last"] []) (GT : ∀ k, GM P w K mg base CX0 2 (C k) "told" ["self"] (spTold C)) : FnOk P w K mg base CX0 3 f fd ["self"] (spSLock CW K .take) := by
  refine F.ok sc_TakeStep_lock (fun vs H Q E h => ?_) (fun cdv A outer s H vs Q E hr h => ?_)
  · obtain ⟨v, ns, rfl, _⟩ := h
    rfl
  obtain ⟨v, ns, rfl, ar, ⟨a, dx, rfl, ha⟩, q⟩ := h
  obtain ⟨x, y, rfl, _, _, e⟩ := ar.c rfl
  rw [e] at ha
  have hr1 : Room (1 + 1) _ := hr
  refine ⟨_, pss_one (ps_ret (pm0 (GT .read) (pe_make (M .read) GI hr1 rfl (mgC .read) bI .nil pass0 (pa_cons (pe_fld (pv 0) rfl) (pa_cons (pe_fld (pv 0) rfl) pa_nil))) (T.cl .read) hr)), ?_⟩
  refine ⟨_, rfl, a, _, dx, _, _, rfl, ha, W.cl _, W.nC _, lk_hit, _, rfl, a, _, dx, _, _, rfl, ha, W.cl _, W.nC _, lk_hit, fun z dz nz ndz nez => ⟨z, dz, .read, y, y, rfl, upd_same, rfl, z, dz, _, rfl, upd_same, lf_no _ _ (by decide +kernel) (by decide +kernel), _, (.read, y, y), rfl, ⟨z, dz, rfl, upd_same⟩, fun t ht => ?_⟩⟩
  exact q _ _ ((mk_same nz ndz).trans (same_new ht)) ⟨t, rfl, upd_same⟩
theorem ok_lmean (F : Fun K "lock" "MeanStep.lock" m_MeanStep_lock f fd) (W : TxW K CW) (T : TxK K C) (mgC : ∀ k, mg (kdN k) = some (.ref (C k))) {fI : Addr} {dI : FuncData} (M : ∀ k, Mk K (C k) fI)
    (GI : FnOk P w K mg base CX0 1 fI dI ["self", "first", "last"] (spLInit C)) (bI : Binds K dI ["self", "first", "last"] []) (GT : ∀ k, GM P w K mg base CX0 2 (C k) "told" ["self"] (spTold C)) : FnOk P w K mg base CX0 3 f fd ["self"] (spSLock CW K .mean) := by
  refine F.ok sc_MeanStep_lock (fun vs H Q E h => ?_) (fun cdv A outer s H vs Q E hr h => ?_)
  · obtain ⟨v, ns, rfl, _⟩ := h
    rfl
  obtain ⟨v, ns, rfl, ar, ⟨a, dx, rfl, ha⟩, q⟩ := h
  obtain ⟨x, y, rfl, _, _, e⟩ := ar.c rfl
  rw [e] at ha
  have hr1 : Room (1 + 1) _ := hr
  refine ⟨_, pss_one (ps_ret (pm0 (GT .mean) (pe_make (M .mean) GI hr1 rfl (mgC .mean) bI .nil pass0 (pa_cons (pe_fld (pv 0) rfl) (pa_cons (pe_fld (pv 0) rfl) pa_nil))) (T.cl .mean) hr)), ?_⟩
  refine ⟨_, rfl, a, _, dx, _, _, rfl, ha, W.cl _, W.nC _, lk_hit, _, rfl, a, _, dx, _, _, rfl, ha, W.cl _, W.nC _, lk_hit, fun z dz nz ndz nez => ⟨z, dz, .mean, y, y, rfl, upd_same, rfl, z, dz, _, rfl, upd_same, lf_no _ _ (by decide +kernel) (by decide +kernel), _, (.mean, y, y), rfl, ⟨z, dz, rfl, upd_same⟩, fun t ht => ?_⟩⟩
  exact q _ _ ((mk_same nz ndz).trans (same_new ht)) ⟨t, rfl, upd_same⟩
theorem ok_lgive (F : Fun K "lock" "GiveStep.lock" m_GiveStep_lock f fd) (W : TxW K CW) (T : TxK K C) (mgC : ∀ k, mg (kdN k) = some (.ref (C k))) {fI : Addr} {dI : FuncData} (M : ∀ k, Mk K (C k) fI)
    (GI : FnOk P w K mg base CX0 1 fI dI ["self", "first", "last"] (spLInit C)) (bI : Binds K dI ["self", "first", "last"] []) (GT : ∀ k, GM P w K mg base CX0 2 (C k) "told" ["self"] (spTold C)) : FnOk P w K mg base CX0 3 f fd ["self"] (spSLock CW K .give) := by
  refine F.ok sc_GiveStep_lock (fun vs H Q E h => ?_) (fun cdv A outer s H vs Q E hr h => ?_)
  · obtain ⟨v, ns, rfl, _⟩ := h
    rfl
  obtain ⟨v, ns, rfl, ar, ⟨a, dx, rfl, ha⟩, q⟩ := h
  obtain ⟨x, y, rfl, _, _, e⟩ := ar.c rfl
  rw [e] at ha
  have hr1 : Room (1 + 1) _ := hr
  refine ⟨_, pss_one (ps_ret (pm0 (GT .change) (pe_make (M .change) GI hr1 rfl (mgC .change) bI .nil pass0 (pa_cons (pe_fld (pv 0) rfl) (pa_cons (pe_fld (pv 0) rfl) pa_nil))) (T.cl .change) hr)), ?_⟩
  refine ⟨_, rfl, a, _, dx, _, _, rfl, ha, W.cl _, W.nC _, lk_hit, _, rfl, a, _, dx, _, _, rfl, ha, W.cl _, W.nC _, lk_hit, fun z dz nz ndz nez => ⟨z, dz, .change, y, y, rfl, upd_same, rfl, z, dz, _, rfl, upd_same, lf_no _ _ (by decide +kernel) (by decide +kernel), _, (.change, y, y), rfl, ⟨z, dz, rfl, upd_same⟩, fun t ht => ?_⟩⟩
  exact q _ _ ((mk_same nz ndz).trans (same_new ht)) ⟨t, rfl, upd_same⟩
theorem ok_ladd (F : Fun K "lock" "AddStep.lock" m_AddStep_lock f fd) (W : TxW K CW) (T : TxK K C) (mgC : ∀ k, mg (kdN k) = some (.ref (C k))) {fI : Addr} {dI : FuncData} (M : ∀ k, Mk K (C k) fI)
    (GI : FnOk P w K mg base CX0 1 fI dI ["self", "first", "last"] (spLInit C)) (bI : Binds K dI ["self", "first", "last"] []) (GT : ∀ k, GM P w K mg base CX0 2 (C k) "told" ["self"] (spTold C)) : FnOk P w K mg base CX0 3 f fd ["self"] (spSLock CW K .add) := by
  refine F.ok sc_AddStep_lock (fun vs H Q E h => ?_) (fun cdv A outer s H vs Q E hr h => ?_)
  · obtain ⟨v, ns, rfl, _⟩ := h
    rfl
  obtain ⟨v, ns, rfl, ar, ⟨a, dx, rfl, ha⟩, q⟩ := h
  obtain ⟨x, y, z0, rfl, _⟩ := ar.a
  have hr1 : Room (1 + 1) _ := hr
  refine ⟨_, pss_one (ps_ret (pm0 (GT .change) (pe_make (M .change) GI hr1 rfl (mgC .change) bI .nil pass0 (pa_cons (pe_fld (pv 0) rfl) (pa_cons (pe_fld (pv 0) rfl) pa_nil))) (T.cl .change) hr)), ?_⟩
  refine ⟨_, rfl, a, _, dx, _, _, rfl, ha, W.cl _, W.nC _, (by show (putF "amount" _ (putF "cell" _ (putF "where" _ []))).lookup _ = _; rw [lk_miss (by decide +kernel), lk_hit]), _, rfl, a, _, dx, _, _, rfl, ha, W.cl _, W.nC _, (by show (putF "amount" _ (putF "cell" _ (putF "where" _ []))).lookup _ = _; rw [lk_miss (by decide +kernel), lk_hit]), fun z dz nz ndz nez => ⟨z, dz, .change, y, y, rfl, upd_same, rfl, z, dz, _, rfl, upd_same, lf_no _ _ (by decide +kernel) (by decide +kernel), _, (.change, y, y), rfl, ⟨z, dz, rfl, upd_same⟩, fun t ht => ?_⟩⟩
  exact q _ _ ((mk_same nz ndz).trans (same_new ht)) ⟨t, rfl, upd_same⟩
theorem ok_lsum (F : Fun K "lock" "SumStep.lock" m_SumStep_lock f fd) (W : TxW K CW) (T : TxK K C) (mgC : ∀ k, mg (kdN k) = some (.ref (C k))) {fI : Addr} {dI : FuncData} (M : ∀ k, Mk K (C k) fI)
    (GI : FnOk P w K mg base CX0 1 fI dI ["self", "first", "last"] (spLInit C)) (bI : Binds K dI ["self", "first", "last"] []) (GT : ∀ k, GM P w K mg base CX0 2 (C k) "told" ["self"] (spTold C)) : FnOk P w K mg base CX0 3 f fd ["self"] (spSLock CW K .sum) := by
  refine F.ok sc_SumStep_lock (fun vs H Q E h => ?_) (fun cdv A outer s H vs Q E hr h => ?_)
  · obtain ⟨v, ns, rfl, _⟩ := h
    rfl
  obtain ⟨v, ns, rfl, ar, ⟨a, dx, rfl, ha⟩, q⟩ := h
  obtain ⟨x, y, y2, rfl, _⟩ := ar.s
  have hr1 : Room (1 + 1) _ := hr
  refine ⟨_, pss_one (ps_ret (pm0 (GT .read) (pe_make (M .read) GI hr1 rfl (mgC .read) bI .nil pass0 (pa_cons (pe_fld (pv 0) rfl) (pa_cons (pe_fld (pv 0) rfl) pa_nil))) (T.cl .read) hr)), ?_⟩
  refine ⟨_, rfl, a, _, dx, _, _, rfl, ha, W.cl _, W.nL _, (by show (putF "high" _ (putF "low" _ (putF "where" _ []))).lookup _ = _; rw [lk_miss (by decide +kernel), lk_hit]), _, rfl, a, _, dx, _, _, rfl, ha, W.cl _, W.nH _, lk_hit, fun z dz nz ndz nez => ⟨z, dz, .read, y, y2, rfl, upd_same, rfl, z, dz, _, rfl, upd_same, lf_no _ _ (by decide +kernel) (by decide +kernel), _, (.read, y, y2), rfl, ⟨z, dz, rfl, upd_same⟩, fun t ht => ?_⟩⟩
  exact q _ _ ((mk_same nz ndz).trans (same_new ht)) ⟨t, rfl, upd_same⟩
theorem ok_lnone {wd : Wd} (hw : wd = .plus ∨ wd = .need) (F : Fun K "lock" "Step.lock" m_Step_lock f fd) : FnOk P w K mg base CX0 1 f fd ["self"] (spSLock CW K wd) := by
  refine F.ok sc_Step_lock (fun vs H Q E h => ?_) (fun cdv A outer s H vs Q E hr h => ?_)
  · obtain ⟨v, ns, rfl, _⟩ := h
    rfl
  obtain ⟨v, ns, rfl, ar, st, q⟩ := h
  refine ⟨_, pss_one (ps_ret pe_non), ?_⟩
  have e : lockO wd ns = none := by rcases hw with rfl | rfl <;> rfl
  rw [e] at q
  exact q .non H (Same.refl H) rfl
end
end K22
set_option maxHeartbeats 4000000
namespace K22
open PySem L2 Lo St
section
variable {P : Program} {w : World} {K : PySem.W.Frag} {mg : Str → Option Value} {base : Heap} {f CL : Addr} {fd : FuncData} {C : Kd → Addr} {CW : Wd → Addr}
def mixN (c k : Int) : Int := ((c + 7919 * k + 1) * 48271 % 2147483647) * (((c + 7919 * k + 1) * 48271 % 2147483647) / 1009 + 69621) % 2147483647
theorem mix0 (c k : Int) : 0 ≤ mixN c k := Int.emod_nonneg _ (by decide)
theorem mix1 (c k : Int) : mixN c k < 2147483647 := Int.emod_lt_of_pos _ (by decide)
def numL (c k : Int) : Nat → Int
  | 0 => mixN c k
  | i + 1 => numL c k i * (1 + mixN c (k + 17 * (i + 1)))
theorem nl_step (c k : Int) (i : Nat) : numL c k i * (1 + mixN c (k + 17 * (0 + i + 1))) = numL c k (i + 1) := by rw [Int.zero_add]; rfl
def numN (c k : Int) : Int := if mixN c k % 23 = 0 then 10 ^ 40 - 1 else if mixN c k % 3 = 0 then mixN c k / 3 % 9 else if mixN c k % 3 = 1 then mixN c k / 3 else numL c k 4 % 10 ^ 40
def eiN (c k : Int) : Int := if mixN c (k + 5) % 2 = 1 then 0 - numN c k else numN c k
theorem num_in' (c k : Int) : inN (numN c k) := by
  have h0 := mix0 c k
  have h1 := mix1 c k
  have hbig : (2147483647 : Int) ≤ 10 ^ 40 := by decide +kernel
  unfold numN
  split
  · exact ⟨by decide +kernel, by decide +kernel⟩
  split
  · exact ⟨Int.emod_nonneg _ (by decide), Int.lt_of_lt_of_le (Int.emod_lt_of_pos _ (by decide)) (by decide +kernel)⟩
  split
  · exact ⟨Int.ediv_nonneg h0 (by decide), Int.lt_of_lt_of_le (show mixN c k / 3 < 2147483647 by omega) hbig⟩
  · exact ⟨Int.emod_nonneg _ (by decide +kernel), Int.emod_lt_of_pos _ (by decide +kernel)⟩
theorem ei_in (c k : Int) : inV (eiN c k) := by
  have h := (num_in' c k).v
  unfold eiN
  split
  · unfold St.inV at h ⊢
    omega
  · exact h
def spMixX : Sp := fun vs H Q _ => ∃ c k, vs = [.int c, .int k] ∧ Q (.int (mixN c k)) H
def spNumX : Sp := fun vs H Q _ => ∃ c k, vs = [.int c, .int k] ∧ Q (.int (numN c k)) H
def spEiX : Sp := fun vs H Q _ => ∃ c k, vs = [.int c, .int k] ∧ Q (.int (eiN c k)) H
theorem ok_mixed (F : Fun K "_law_mixed" "_law_mixed" s__law_mixed f fd) : FnOk P w K mg base CX0 1 f fd ["_law_cell_here", "_law_k"] spMixX := by
  refine F.ok sc__law_mixed (fun vs H Q E h => ?_) (fun cdv A outer s H vs Q E hr h => ?_)
  · obtain ⟨c, k, rfl, _⟩ := h
    rfl
  obtain ⟨c, k, rfl, q⟩ := h
  have nd := sc__law_mixed.nd
  refine ⟨_, pss_cons (ps_set (i := 2) nd rfl (Or.inl rfl) (pe_op op_mod (pe_op op_mul (pe_op op_add (pe_op op_add (pv 0) (pe_op op_mul pe_int (pv 1))) pe_int) pe_int) pe_int))
    (pss_one (ps_ret (pe_op op_mod (pe_op op_mul (pv 2) (pe_op op_add (pe_op op_fdiv (pv 2) pe_int) pe_int)) pe_int))), ?_⟩
  refine ⟨_, rfl, _, rfl, _, _, rfl, rfl, .inl ⟨by decide +kernel, by decide +kernel⟩, _, _, rfl, rfl, _, _, rfl, rfl, _, _, rfl, rfl, .inr ⟨by decide +kernel, by decide +kernel⟩, _, _, rfl, rfl, (by show (0 : Int) < 2147483647; decide), ?_⟩
  have h0 : 0 ≤ (c + 7919 * k + 1) * 48271 % 2147483647 := Int.emod_nonneg _ (by decide)
  have h1 : (c + 7919 * k + 1) * 48271 % 2147483647 < 2147483647 := Int.emod_lt_of_pos _ (by decide)
  exact ⟨_, rfl, _, rfl, _, _, rfl, rfl, ⟨by decide, by decide⟩, _, _, rfl, rfl, _, _, rfl, rfl, .inl ⟨by omega, by omega⟩, _, _, rfl, rfl, (by show (0 : Int) < 2147483647; decide), q⟩
theorem ok_number (F : Fun K "_law_number" "_law_number" s__law_number f fd) (B : TxB mg) (GX : GF P w K mg base CX0 1 "_law_mixed" ["_law_cell_here", "_law_k"] spMixX) : FnOk P w K mg base CX0 2 f fd ["_law_cell_here", "_law_k"] spNumX := by
  refine F.ok sc__law_number (fun vs H Q E h => ?_) (fun cdv A outer s H vs Q E hr h => ?_)
  · obtain ⟨c, k, rfl, _⟩ := h
    rfl
  obtain ⟨c, k, rfl, q⟩ := h
  have nd := sc__law_number.nd
  refine ⟨_, pss_cons (ps_set (i := 2) nd rfl (Or.inl rfl) (pc GX hr (pa_cons (pv 0) (pa_cons (pv 1) pa_nil))))
    (pss_cons (ps_if (pt_cmpR op_eq (pe_op op_mod (pv 2) pe_int) pe_int (nomark _)) (pss_one (ps_ret (pe_op op_sub (pe_op op_pow pe_int pe_int) pe_int))) pss_nil)
    (pss_cons (ps_if (pt_cmpR op_eq (pe_op op_mod (pv 2) pe_int) pe_int (nomark _)) (pss_one (ps_ret (pe_op op_mod (pe_op op_fdiv (pv 2) pe_int) pe_int))) pss_nil)
    (pss_cons (ps_if (pt_cmpR op_eq (pe_op op_mod (pv 2) pe_int) pe_int (nomark _)) (pss_one (ps_ret (pe_op op_fdiv (pv 2) pe_int))) pss_nil)
    (pss_cons (ps_for PassesOwn.never rfl (pi_range1 rfl B.range (pa_cons pe_int pa_nil)) (pg_name (i := 3) nd rfl (Or.inl rfl))
      (pss_one (ps_set (i := 2) nd rfl (Or.inl rfl) (pe_op op_mul (pv 2) (pe_op op_add pe_int (pc GX hr (pa_cons (pv 0) (pa_cons (pe_op op_add (pv 1) (pe_op op_mul pe_int (pe_op op_add (pv 3) pe_int))) pa_nil))))))))
    (pss_one (ps_ret (pe_op op_mod (pv 2) (pe_op op_pow pe_int pe_int)))))))), ?_⟩
  refine ⟨_, rfl, _, rfl, _, _, rfl, ?_⟩
  have inj : ∀ {a b : Int}, decide (V.int a = V.int b) = true → a = b := fun h => V.int.inj (of_decide_eq_true h)
  have ninj : ∀ {a b : Int}, ¬ decide (V.int a = V.int b) = true → ¬ a = b := fun h z => h (decide_eq_true (congrArg V.int z))
  refine ⟨_, rfl, _, _, rfl, rfl, (by show (0 : Int) < 23; decide), rfl, _, rfl, ite2 (fun c1 => ?_) (fun c1 => ?_)⟩
  · have e : numN c k = 10 ^ 40 - 1 := if_pos (inj c1)
    rw [e] at q
    exact ⟨_, _, rfl, rfl, ⟨by decide, by decide, by decide⟩, _, _, rfl, rfl, q⟩
  refine ⟨_, rfl, _, _, rfl, rfl, (by show (0 : Int) < 3; decide), rfl, _, rfl, ite2 (fun c2 => ?_) (fun c2 => ?_)⟩
  · have e : numN c k = mixN c k / 3 % 9 := (if_neg (ninj c1)).trans (if_pos (inj c2))
    rw [e] at q
    exact ⟨_, rfl, _, _, rfl, rfl, ⟨by decide, by decide⟩, _, _, rfl, rfl, (by show (0 : Int) < 9; decide), q⟩
  refine ⟨_, rfl, _, _, rfl, rfl, (by show (0 : Int) < 3; decide), rfl, _, rfl, ite2 (fun c3 => ?_) (fun c3 => ?_)⟩
  · have e : numN c k = mixN c k / 3 := (if_neg (ninj c1)).trans ((if_neg (ninj c2)).trans (if_pos (inj c3)))
    rw [e] at q
    exact ⟨_, rfl, _, _, rfl, rfl, ⟨by decide, by decide⟩, q⟩
  have e : numN c k = numL c k 4 % 10 ^ 40 := (if_neg (ninj c1)).trans ((if_neg (ninj c2)).trans (if_neg (ninj c3)))
  rw [e] at q
  refine ⟨4, rfl, by decide, by decide, ?_⟩
  refine for_range (n := 4) (fun i σ H' => H' = H ∧ ∃ x3, σ = [some (.int c), some (.int k), some (.int (numL c k i)), x3]) ⟨rfl, none, rfl⟩ ?_ ?_
  · rintro i σ H1 hi ⟨rfl, x3, rfl⟩
    have g0 := mix0 c (k + 17 * (0 + i + 1))
    have g1 := mix1 c (k + 17 * (0 + i + 1))
    exact ⟨_, rfl, _, rfl, _, rfl, _, rfl, _, _, rfl, rfl, _, _, rfl, rfl, .inl ⟨by decide +kernel, by decide +kernel⟩, _, _, rfl, rfl, _, _, rfl, _, _, rfl, rfl, _, _, rfl, rfl, .inr ⟨by omega, by omega⟩, rfl, some (.int (0 + i)), by rw [← nl_step]; rfl⟩
  · rintro σ H1 ⟨rfl, x3, rfl⟩
    exact ⟨_, rfl, _, _, rfl, rfl, ⟨by decide, by decide, by decide⟩, _, _, rfl, rfl, (by show (0 : Int) < 10 ^ 40; decide +kernel), q⟩
theorem ok_either (F : Fun K "_law_either" "_law_either" s__law_either f fd) (GX : GF P w K mg base CX0 1 "_law_mixed" ["_law_cell_here", "_law_k"] spMixX) (GN : GF P w K mg base CX0 2 "_law_number" ["_law_cell_here", "_law_k"] spNumX) : FnOk P w K mg base CX0 3 f fd ["_law_cell_here", "_law_k"] spEiX := by
  refine F.ok sc__law_either (fun vs H Q E h => ?_) (fun cdv A outer s H vs Q E hr h => ?_)
  · obtain ⟨c, k, rfl, _⟩ := h
    rfl
  obtain ⟨c, k, rfl, q⟩ := h
  refine ⟨_, pss_cons (ps_if (pt_cmpR op_eq (pe_op op_mod (pc GX hr (pa_cons (pv 0) (pa_cons (pe_op op_add (pv 1) pe_int) pa_nil))) pe_int) pe_int (nomark _)) (pss_one (ps_ret (pe_op op_sub pe_int (pc GN hr (pa_cons (pv 0) (pa_cons (pv 1) pa_nil)))))) pss_nil)
    (pss_one (ps_ret (pc GN hr (pa_cons (pv 0) (pa_cons (pv 1) pa_nil))))), ?_⟩
  refine ⟨_, rfl, _, rfl, _, _, rfl, rfl, _, _, rfl, _, _, rfl, rfl, (by show (0 : Int) < 2; decide), rfl, _, rfl, ite2 (fun c1 => ?_) (fun c1 => ?_)⟩
  · have e : eiN c k = 0 - numN c k := if_pos (V.int.inj (of_decide_eq_true c1))
    rw [e] at q
    exact ⟨_, rfl, _, rfl, _, _, rfl, _, _, rfl, rfl, q⟩
  · have e : eiN c k = numN c k := if_neg fun z => c1 (decide_eq_true (congrArg V.int z))
    rw [e] at q
    exact ⟨_, rfl, _, rfl, _, _, rfl, q⟩
def gf_imp {CX : CXT} {k : Nat} {x : Str} {ps : List Str} {sp sp' : Sp} (G : GF P w K mg base CX k x ps sp) (h : ∀ vs H Q E, sp' vs H Q E → sp vs H Q E) : GF P w K mg base CX k x ps sp' := ⟨G.f, G.fd, G.ok.imp h, G.bd, G.kp, G.mgx⟩
theorem num_w {vs : List V} {H : Hp} {Q : VK} {E : XK} (h : spNumber vs H Q E) : spNumX vs H Q E := by
  obtain ⟨c, k, e, q⟩ := h
  exact ⟨c, k, e, q _ (num_in' c k)⟩
theorem ei_w {vs : List V} {H : Hp} {Q : VK} {E : XK} (h : spEither vs H Q E) : spEiX vs H Q E := by
  obtain ⟨c, k, e, q⟩ := h
  exact ⟨c, k, e, q _ (ei_in c k)⟩
theorem ok_lstep (F : Fun K "_law_step" "_law_step" s__law_step f fd) (B : TxB mg) (hmin : mg "min" = none) (GN : GF P w K mg base CX0 2 "_law_number" ["_law_cell_here", "_law_k"] spNumber) (GE : GF P w K mg base CX0 3 "_law_either" ["_law_cell_here", "_law_k"] spEither) : FnOk P w K mg base CX0 4 f fd ["_law_cell_here"] spLStep := by
  refine F.ok sc__law_step (fun vs H Q E h => ?_) (fun cdv A outer s H vs Q E hr h => ?_)
  · obtain ⟨c, rfl, _⟩ := h
    rfl
  obtain ⟨c, rfl, q⟩ := h
  have nd := sc__law_step.nd
  obtain ⟨wd, hw⟩ := w_of (c % 7) (Int.emod_nonneg _ (by decide)) (Int.emod_lt_of_pos _ (by decide))
  refine ⟨_, pss_cons (ps_set (i := 1) nd rfl (Or.inl rfl) (pe_ix (r := rIxL K) ix_list (pe_lst (pa_cons pe_str (pa_cons pe_str (pa_cons pe_str (pa_cons pe_str (pa_cons pe_str (pa_cons pe_str (pa_cons pe_str pa_nil)))))))) (pe_op op_mod (pv 0) pe_int) (fun _ _ => rfl)))
    (pss_cons (ps_set (i := 2) nd rfl (Or.inl rfl) (pc GN hr (pa_cons (pv 0) (pa_cons pe_int pa_nil))))
    (pss_cons (ps_set (i := 3) nd rfl (Or.inl rfl) (pc GN hr (pa_cons (pv 0) (pa_cons pe_int pa_nil))))
    (pss_cons (ps_set (i := 4) nd rfl (Or.inl rfl) (pc GN hr (pa_cons (pv 0) (pa_cons pe_int pa_nil))))
    (pss_cons (ps_if (PW.pt (pw_or (pt_cmpR op_eq (pv 1) pe_str (nomark _)) (pw_or1 (pt_cmpR op_eq (pv 1) pe_str (nomark _))))) (pss_one (ps_ret (pe_tup (pa_cons (pv 1) (pa_cons (pc GE hr (pa_cons (pv 0) (pa_cons pe_int pa_nil))) pa_nil))))) pss_nil)
    (pss_cons (ps_if (pt_cmpR op_eq (pv 1) pe_str (nomark _)) (pss_one (ps_ret (pe_tup (pa_cons (pv 1) (pa_cons (pv 2) (pa_cons (pv 3) (pa_cons (pc GE hr (pa_cons (pv 0) (pa_cons pe_int pa_nil))) pa_nil))))))) pss_nil)
    (pss_cons (ps_if (pt_cmpR op_eq (pv 1) pe_str (nomark _)) (pss_one (ps_ret (pe_tup (pa_cons (pv 1) (pa_cons (pv 2) (pa_cons (pe_callB (call_min2 rfl) rfl hmin PyProof.Rows.boot_min (pa_cons (pv 3) (pa_cons (pv 4) pa_nil))) (pa_cons (pe_callB (call_max2 rfl) rfl B.max PyProof.Rows.boot_max (pa_cons (pv 3) (pa_cons (pv 4) pa_nil))) pa_nil))))))) pss_nil)
    (pss_one (ps_ret (pe_tup (pa_cons (pv 1) (pa_cons (pv 2) (pa_cons (pv 3) pa_nil))))))))))))  , ?_⟩
  refine ⟨(by show 7 ≤ sizeLine; decide), fun l hl => ?_⟩
  have s1 : Same H _ := same_new (o := .lst [.str "take", .str "mean", .str "sum", .str "give", .str "add", .str "plus", .str "need"]) hl
  refine ⟨_, rfl, _, _, rfl, rfl, (by show (0 : Int) < 7; decide), l, _, _, _, rfl, rfl, SqL.of upd_same, hw, ?_⟩
  generalize (upd H l _) = H1 at s1 ⊢
  refine ⟨_, rfl, _, _, rfl, fun x hx => ⟨_, rfl, _, _, rfl, fun y hy => ⟨_, rfl, _, _, rfl, fun z hz => ?_⟩⟩⟩
  have pn : ∀ (hw : wd = .plus ∨ wd = .need) (r : Int), inV r → Ar wd [r] := fun hw r hr => by rcases hw with rfl | rfl <;> exact hr
  refine ⟨_, rfl, rfl, _, rfl, ite2 (fun c => iteT ?_) (fun c1 => ⟨_, rfl, rfl, _, rfl, ite2 (fun c => ?_) (fun c2 => ?_)⟩)⟩
  · exact ⟨_, rfl, _, rfl, _, _, rfl, fun r hr => ⟨(by show 2 ≤ sizeLine; decide), fun t ht => q wd [r] _ _ (pn (.inl (w_hit c)) r hr) (s1.trans (same_new ht)) ⟨t, rfl, upd_same⟩⟩⟩
  · exact ⟨_, rfl, _, rfl, _, _, rfl, fun r hr => ⟨(by show 2 ≤ sizeLine; decide), fun t ht => q wd [r] _ _ (pn (.inr (w_hit c)) r hr) (s1.trans (same_new ht)) ⟨t, rfl, upd_same⟩⟩⟩
  refine ⟨_, rfl, rfl, _, rfl, ite2 (fun c => ?_) (fun c3 => ?_)⟩
  · obtain rfl : wd = .add := w_hit c
    exact ⟨_, rfl, _, rfl, _, rfl, _, rfl, _, _, rfl, fun r hr => ⟨(by show 4 ≤ sizeLine; decide), fun t ht => q .add [x, y, r] _ _ ⟨hx, hy, hr⟩ (s1.trans (same_new ht)) ⟨t, rfl, upd_same⟩⟩⟩
  refine ⟨_, rfl, rfl, _, rfl, ite2 (fun c => ?_) (fun c4 => ?_)⟩
  · obtain rfl : wd = .sum := w_hit c
    refine ⟨_, rfl, _, rfl, _, rfl, _, rfl, _, _, rfl, _, rfl, _, rfl, _, _, rfl, (by show 4 ≤ sizeLine; decide), fun t ht => q .sum [x, if z < y then z else y, if z > y then z else y] _ _ ⟨hx, ?_, ?_, ?_⟩ (s1.trans (same_new ht)) ⟨t, rfl, upd_same⟩⟩
    · split
      · exact hz
      · exact hy
    · split
      · exact hz
      · exact hy
    · split <;> split <;> omega
  · refine ⟨_, rfl, _, rfl, _, rfl, (by show 3 ≤ sizeLine; decide), fun t ht => q wd [x, y] _ _ ?_ (s1.trans (same_new ht)) ⟨t, rfl, upd_same⟩⟩
    have n1 := w_miss (b := .plus) c1
    have n2 := w_miss (b := .need) c2
    have n3 := w_miss (b := .add) c3
    have n4 := w_miss (b := .sum) c4
    cases wd <;> first | contradiction | exact ⟨hx, hy⟩
theorem ok_lmade (F : Fun K "_law_made" "_law_made" s__law_made f fd) (I : ∀ wd, WI P w K mg base CW wd) : FnOk P w K mg base CX0 5 f fd ["_law_step_here"] (spLMade CW) := by
  refine F.ok sc__law_made (fun vs H Q E h => ?_) (fun cdv A outer s H vs Q E hr h => ?_)
  · obtain ⟨wd, ns, v, rfl, _⟩ := h
    rfl
  obtain ⟨wd, ns, v, rfl, ⟨b, rfl, hb⟩, ar, q⟩ := h
  have hr1 : Room (2 + 1) _ := hr.mono (by decide)
  refine ⟨_, (pss_cons (ps_if (pt_cmpR op_eq (pe_ix (r := rIxT K) ix_tup (pv 0) pe_int (fun _ _ => rfl)) pe_str (nomark _)) (pss_one (ps_ret (pe_make (I .take).M (I .take).ok hr1 rfl (I .take).m (I .take).b .nil pass0 (pa_cons (pe_ix (r := rIxT K) ix_tup (pv 0) pe_int (fun _ _ => rfl)) (pa_cons (pe_ix (r := rIxT K) ix_tup (pv 0) pe_int (fun _ _ => rfl)) pa_nil))))) pss_nil)
    (pss_cons (ps_if (pt_cmpR op_eq (pe_ix (r := rIxT K) ix_tup (pv 0) pe_int (fun _ _ => rfl)) pe_str (nomark _)) (pss_one (ps_ret (pe_make (I .mean).M (I .mean).ok hr1 rfl (I .mean).m (I .mean).b .nil pass0 (pa_cons (pe_ix (r := rIxT K) ix_tup (pv 0) pe_int (fun _ _ => rfl)) (pa_cons (pe_ix (r := rIxT K) ix_tup (pv 0) pe_int (fun _ _ => rfl)) pa_nil))))) pss_nil)
    (pss_cons (ps_if (pt_cmpR op_eq (pe_ix (r := rIxT K) ix_tup (pv 0) pe_int (fun _ _ => rfl)) pe_str (nomark _)) (pss_one (ps_ret (pe_make (I .sum).M (I .sum).ok hr1 rfl (I .sum).m (I .sum).b .nil pass0 (pa_cons (pe_ix (r := rIxT K) ix_tup (pv 0) pe_int (fun _ _ => rfl)) (pa_cons (pe_ix (r := rIxT K) ix_tup (pv 0) pe_int (fun _ _ => rfl)) (pa_cons (pe_ix (r := rIxT K) ix_tup (pv 0) pe_int (fun _ _ => rfl)) pa_nil)))))) pss_nil)
    (pss_cons (ps_if (pt_cmpR op_eq (pe_ix (r := rIxT K) ix_tup (pv 0) pe_int (fun _ _ => rfl)) pe_str (nomark _)) (pss_one (ps_ret (pe_make (I .give).M (I .give).ok hr1 rfl (I .give).m (I .give).b .nil pass0 (pa_cons (pe_ix (r := rIxT K) ix_tup (pv 0) pe_int (fun _ _ => rfl)) (pa_cons (pe_ix (r := rIxT K) ix_tup (pv 0) pe_int (fun _ _ => rfl)) pa_nil))))) pss_nil)
    (pss_cons (ps_if (pt_cmpR op_eq (pe_ix (r := rIxT K) ix_tup (pv 0) pe_int (fun _ _ => rfl)) pe_str (nomark _)) (pss_one (ps_ret (pe_make (I .add).M (I .add).ok hr1 rfl (I .add).m (I .add).b .nil pass0 (pa_cons (pe_ix (r := rIxT K) ix_tup (pv 0) pe_int (fun _ _ => rfl)) (pa_cons (pe_ix (r := rIxT K) ix_tup (pv 0) pe_int (fun _ _ => rfl)) (pa_cons (pe_ix (r := rIxT K) ix_tup (pv 0) pe_int (fun _ _ => rfl)) pa_nil)))))) pss_nil)
    (pss_cons (ps_if (pt_cmpR op_eq (pe_ix (r := rIxT K) ix_tup (pv 0) pe_int (fun _ _ => rfl)) pe_str (nomark _)) (pss_one (ps_ret (pe_make (I .plus).M (I .plus).ok hr1 rfl (I .plus).m (I .plus).b .nil pass0 (pa_cons (pe_ix (r := rIxT K) ix_tup (pv 0) pe_int (fun _ _ => rfl)) pa_nil)))) pss_nil)
    (pss_one (ps_ret (pe_make (I .need).M (I .need).ok hr1 rfl (I .need).m (I .need).b .nil pass0 (pa_cons (pe_ix (r := rIxT K) ix_tup (pv 0) pe_int (fun _ _ => rfl)) pa_nil)))))))))), ?_⟩
  refine ⟨_, rfl, b, _, _, _, rfl, rfl, SqT.of hb, at0, rfl, _, rfl, ite2 (fun c => ?_) (fun c0 => ?_)⟩
  · obtain rfl : wd = .take := w_hit c
    obtain ⟨x, y, rfl, _⟩ := ar.c rfl
    exact ⟨_, rfl, b, _, _, _, rfl, rfl, SqT.of hb, rfl, _, rfl, b, _, _, _, rfl, rfl, SqT.of hb, rfl, fun p dp np ndp nep => ⟨p, dp, [x, y], rfl, ar, upd_same, fun H' h1 h2 => ⟨rfl, q _ H' (mk_kp np ndp h2) ⟨p, dp, rfl, h1⟩⟩⟩⟩
  refine ⟨_, rfl, b, _, _, _, rfl, rfl, SqT.of hb, at0, rfl, _, rfl, ite2 (fun c => ?_) (fun c1 => ?_)⟩
  · obtain rfl : wd = .mean := w_hit c
    obtain ⟨x, y, rfl, _⟩ := ar.c rfl
    exact ⟨_, rfl, b, _, _, _, rfl, rfl, SqT.of hb, rfl, _, rfl, b, _, _, _, rfl, rfl, SqT.of hb, rfl, fun p dp np ndp nep => ⟨p, dp, [x, y], rfl, ar, upd_same, fun H' h1 h2 => ⟨rfl, q _ H' (mk_kp np ndp h2) ⟨p, dp, rfl, h1⟩⟩⟩⟩
  refine ⟨_, rfl, b, _, _, _, rfl, rfl, SqT.of hb, at0, rfl, _, rfl, ite2 (fun c => ?_) (fun c2 => ?_)⟩
  · obtain rfl : wd = .sum := w_hit c
    obtain ⟨x, y, z, rfl, _⟩ := ar.s
    exact ⟨_, rfl, b, _, _, _, rfl, rfl, SqT.of hb, rfl, _, rfl, b, _, _, _, rfl, rfl, SqT.of hb, rfl, _, rfl, b, _, _, _, rfl, rfl, SqT.of hb, rfl, fun p dp np ndp nep => ⟨p, dp, [x, y, z], rfl, ar, upd_same, fun H' h1 h2 => ⟨rfl, q _ H' (mk_kp np ndp h2) ⟨p, dp, rfl, h1⟩⟩⟩⟩
  refine ⟨_, rfl, b, _, _, _, rfl, rfl, SqT.of hb, at0, rfl, _, rfl, ite2 (fun c => ?_) (fun c3 => ?_)⟩
  · obtain rfl : wd = .give := w_hit c
    obtain ⟨x, y, rfl, _⟩ := ar.c rfl
    exact ⟨_, rfl, b, _, _, _, rfl, rfl, SqT.of hb, rfl, _, rfl, b, _, _, _, rfl, rfl, SqT.of hb, rfl, fun p dp np ndp nep => ⟨p, dp, [x, y], rfl, ar, upd_same, fun H' h1 h2 => ⟨rfl, q _ H' (mk_kp np ndp h2) ⟨p, dp, rfl, h1⟩⟩⟩⟩
  refine ⟨_, rfl, b, _, _, _, rfl, rfl, SqT.of hb, at0, rfl, _, rfl, ite2 (fun c => ?_) (fun c4 => ?_)⟩
  · obtain rfl : wd = .add := w_hit c
    obtain ⟨x, y, z, rfl, _⟩ := ar.a
    exact ⟨_, rfl, b, _, _, _, rfl, rfl, SqT.of hb, rfl, _, rfl, b, _, _, _, rfl, rfl, SqT.of hb, rfl, _, rfl, b, _, _, _, rfl, rfl, SqT.of hb, rfl, fun p dp np ndp nep => ⟨p, dp, [x, y, z], rfl, ar, upd_same, fun H' h1 h2 => ⟨rfl, q _ H' (mk_kp np ndp h2) ⟨p, dp, rfl, h1⟩⟩⟩⟩
  refine ⟨_, rfl, b, _, _, _, rfl, rfl, SqT.of hb, at0, rfl, _, rfl, ite2 (fun c => ?_) (fun c5 => ?_)⟩
  · obtain rfl : wd = .plus := w_hit c
    obtain ⟨x, rfl, _⟩ := ar.p
    exact ⟨_, rfl, b, _, _, _, rfl, rfl, SqT.of hb, rfl, fun p dp np ndp nep => ⟨p, dp, [x], rfl, ar, upd_same, fun H' h1 h2 => ⟨rfl, q _ H' (mk_kp np ndp h2) ⟨p, dp, rfl, h1⟩⟩⟩⟩
  obtain rfl : wd = .need := w_need (w_miss (b := .take) c0) (w_miss (b := .mean) c1) (w_miss (b := .sum) c2) (w_miss (b := .give) c3) (w_miss (b := .add) c4) (w_miss (b := .plus) c5)
  obtain ⟨x, rfl, _⟩ := ar.n
  exact ⟨_, rfl, b, _, _, _, rfl, rfl, SqT.of hb, rfl, fun p dp np ndp nep => ⟨p, dp, [x], rfl, ar, upd_same, fun H' h1 h2 => ⟨rfl, q _ H' (mk_kp np ndp h2) ⟨p, dp, rfl, h1⟩⟩⟩⟩
end
end K22
set_option maxHeartbeats 4000000
namespace K22
open PySem L2 Lo St
section
variable {P : Program} {w : World} {K : PySem.W.Frag} {mg : Str → Option Value} {base : Heap} {f CL : Addr} {fd : FuncData} {C : Kd → Addr} {CW : Wd → Addr}
theorem fn_up {CX : CXT} {k : Nat} {ps : List Str} {sp : Sp} (F : FnOk P w K mg base CX0 k f fd ps sp) : FnOk P w K mg base CX k f fd ps sp :=
  ⟨F.len, fun A outer s H args us vs Q E hr he hb hv hs => codeAny_mono (F.run A outer s H args us vs Q E hr he hb hv hs) fun r s' h => by
    cases r with
    | ok fl => cases fl <;> exact h
    | error e => exact False.elim h⟩
structure CloV (P : Program) (w : World) (K : PySem.W.Frag) (mg : Str → Option Value) (base : Heap) (fv : Addr) (sp : Sp) : Prop where
  ex : ∃ fo fd0 fdv, base.get? fv = some fo ∧ fo.data = .func fd0 ∧ FnOk P w K mg base CX0 4 fv fdv ["_law_cell_here"] sp ∧ Binds K fdv ["_law_cell_here"] []
def spVal (val : Int → Int) : Sp := fun vs H Q _ => ∃ c, vs = [.int c] ∧ Q (.int (val c)) H
def spAsk (val : Int → Int) (la : Addr) : Sp := fun vs H Q _ => ∃ c xs, vs = [.int c] ∧ H la = some (.lst xs) ∧ xs.length < 100 ∧ Q (.int (val c)) (upd H la (.lst (xs ++ [.int c])))
def sumN (val : Int → Int) (a : Int) : Nat → Int
  | 0 => 0
  | n + 1 => sumN val a n + val (a + n)
def runN (a : Int) (n : Nat) : List Int := (List.range n).map fun i => a + (i : Nat)
theorem sum_run (val : Int → Int) (a : Int) (n : Nat) : ((runN a n).map val).sum = sumN val a n := by
  induction n with
  | zero => rfl
  | succ n ih =>
    have e : runN a (n + 1) = runN a n ++ [a + n] := by
      unfold runN
      rw [List.range_succ, List.map_append]
      rfl
    rw [e, List.map_append, List.sum_append, ih]
    simp [sumN]
theorem run_succ (a : Int) (n : Nat) : runN a (n + 1) = runN a n ++ [a + n] := by
  unfold runN
  rw [List.range_succ, List.map_append]
  rfl
theorem run_len (a : Int) (n : Nat) : (runN a n).length = n := by simp [runN]
def Dn (val : Int → Int) : Wd → List Int → Int → Option (Int × List (Int × Int))
  | .take, [_, c], _ => some (val c, [])
  | .mean, [_, c], _ => some (val c, [])
  | .sum, [_, a, b], _ => some (sumN val a (b + 1 - a).toNat, [])
  | .give, [_, c], h => some (h, [(c, h)])
  | .add, [_, c, v], h => some (h, [(c, val c + v)])
  | .plus, [v], h => some (h + v, [])
  | .need, [v], h => if h < v then none else some (h, [])
  | _, _, _ => none
def askN : Wd → List Int → List Int
  | .take, [_, c] => [c]
  | .mean, [_, c] => [c]
  | .sum, [_, a, b] => runN a (b + 1 - a).toNat
  | .add, [_, c, _] => [c]
  | _, _ => []
def nearA : Wd → List Int → Prop
  | .sum, [_, a, b] => b < a + 40
  | _, _ => True
def chT (H : Hp) : List (Int × Int) → Addr → Prop
  | [], a => H a = some (.tup [])
  | c :: _, a => ∃ b, H a = some (.tup [.ref b]) ∧ H b = some (.tup [.int c.1, .int c.2])
def resT (H : Hp) (r : Int × List (Int × Int)) (u : V) : Prop := ∃ t a, u = .ref t ∧ H t = some (.tup [.int r.1, .ref a]) ∧ chT H r.2 a
def spDone (CW : Wd → Addr) (val : Int → Int) (la fv CN : Addr) (wd : Wd) : Sp := fun vs H Q E => ∃ v ns hand, vs = [v, .int hand, .ref fv] ∧ Ar wd ns ∧ nearA wd ns ∧ StO CW H wd ns v ∧ H la = some (.lst []) ∧
  (∀ r, Dn val wd ns hand = some r → ∀ u H', Kp la H H' → H' la = some (.lst ((askN wd ns).map V.int)) → resT H' r u → Q u H') ∧ (Dn val wd ns hand = none → ∀ ea, E (.ref ea) (some CN) H)
section
variable {val : Int → Int} {la fv CN : Addr}
theorem kp_new {H H1 : Hp} {t : Addr} {o : HO} (k : Kp la H H1) (ht : H1 t = none) : Kp la H (upd H1 t o) := fun b ob n e => same_new ht _ _ (k b ob n e)
theorem la_new {H1 : Hp} {t : Addr} {o x : HO} (e : H1 la = some x) (ht : H1 t = none) : upd H1 t o la = some x := same_new ht _ _ e
theorem ok_dtake (F : Fun K "step_done" "TakeStep.step_done" m_TakeStep_step_done f fd) (T : TxW K CW) (CV : CloV P w K mg base fv (spAsk val la)) : FnOk P w K mg base CX0 5 f fd ["self", "hand", "value_of"] (spDone CW val la fv CN .take) := by
  refine F.ok sc_TakeStep_step_done (fun vs H Q E h => ?_) (fun cdv A outer s H vs Q E hr h => ?_)
  · obtain ⟨v, ns, hand, rfl, _⟩ := h
    rfl
  obtain ⟨v, ns, hand, rfl, ar, _, ⟨a, dx, rfl, ha⟩, hla, q, _⟩ := h
  obtain ⟨x, y, rfl, _, _, e⟩ := ar.c rfl
  rw [e] at ha
  obtain ⟨fo, fd0, fdv, h1, h2, h3, h4⟩ := CV.ex
  refine ⟨_, pss_one (ps_ret (pe_tup (pa_cons (pe_callP (i := 2) rfl (.inl rfl) h1 h2 h3 hr h4 pass0 (pa_cons (pe_fld (pv 0) rfl) pa_nil)) (pa_cons (pe_tup pa_nil) pa_nil)))), ?_⟩
  refine ⟨rfl, _, rfl, a, CW .take, dx, _, _, rfl, ha, T.cl _, T.nC _, lk_hit, y, [], rfl, hla, (by show 0 < 100; decide), (by show 0 ≤ sizeLine; decide), fun t ht => ⟨(by show 2 ≤ sizeLine; decide), fun t2 ht2 => q _ rfl _ _ ?_ ?_ ⟨t2, t, rfl, upd_same, ?_⟩⟩⟩
  · exact kp_new (kp_new kp_upd ht) ht2
  · exact la_new (la_new upd_same ht) ht2
  · exact same_new ht2 _ _ upd_same
theorem ok_dmean (F : Fun K "step_done" "MeanStep.step_done" m_MeanStep_step_done f fd) (T : TxW K CW) (CV : CloV P w K mg base fv (spAsk val la)) : FnOk P w K mg base CX0 5 f fd ["self", "hand", "value_of"] (spDone CW val la fv CN .mean) := by
  refine F.ok sc_MeanStep_step_done (fun vs H Q E h => ?_) (fun cdv A outer s H vs Q E hr h => ?_)
  · obtain ⟨v, ns, hand, rfl, _⟩ := h
    rfl
  obtain ⟨v, ns, hand, rfl, ar, _, ⟨a, dx, rfl, ha⟩, hla, q, _⟩ := h
  obtain ⟨x, y, rfl, _, _, e⟩ := ar.c rfl
  rw [e] at ha
  obtain ⟨fo, fd0, fdv, h1, h2, h3, h4⟩ := CV.ex
  refine ⟨_, pss_one (ps_ret (pe_tup (pa_cons (pe_callP (i := 2) rfl (.inl rfl) h1 h2 h3 hr h4 pass0 (pa_cons (pe_fld (pv 0) rfl) pa_nil)) (pa_cons (pe_tup pa_nil) pa_nil)))), ?_⟩
  refine ⟨rfl, _, rfl, a, CW .mean, dx, _, _, rfl, ha, T.cl _, T.nC _, lk_hit, y, [], rfl, hla, (by show 0 < 100; decide), (by show 0 ≤ sizeLine; decide), fun t ht => ⟨(by show 2 ≤ sizeLine; decide), fun t2 ht2 => q _ rfl _ _ ?_ ?_ ⟨t2, t, rfl, upd_same, ?_⟩⟩⟩
  · exact kp_new (kp_new kp_upd ht) ht2
  · exact la_new (la_new upd_same ht) ht2
  · exact same_new ht2 _ _ upd_same
theorem ok_dgive (F : Fun K "step_done" "GiveStep.step_done" m_GiveStep_step_done f fd) (T : TxW K CW) : FnOk P w K mg base CX0 1 f fd ["self", "hand", "value_of"] (spDone CW val la fv CN .give) := by
  refine F.ok sc_GiveStep_step_done (fun vs H Q E h => ?_) (fun cdv A outer s H vs Q E hr h => ?_)
  · obtain ⟨v, ns, hand, rfl, _⟩ := h
    rfl
  obtain ⟨v, ns, hand, rfl, ar, _, ⟨a, dx, rfl, ha⟩, hla, q, _⟩ := h
  obtain ⟨x, y, rfl, _, _, e⟩ := ar.c rfl
  rw [e] at ha
  refine ⟨_, pss_one (ps_ret (pe_tup (pa_cons (pv 1) (pa_cons (pe_tup (pa_cons (pe_tup (pa_cons (pe_fld (pv 0) rfl) (pa_cons (pv 1) pa_nil))) pa_nil)) pa_nil)))), ?_⟩
  refine ⟨_, rfl, _, rfl, a, CW .give, dx, _, _, rfl, ha, T.cl _, T.nC _, lk_hit, _, rfl, (by show 2 ≤ sizeLine; decide), fun t ht => ⟨(by show 1 ≤ sizeLine; decide), fun t1 ht1 => ⟨(by show 2 ≤ sizeLine; decide), fun t2 ht2 => q _ rfl _ _ ?_ ?_ ⟨t2, t1, rfl, upd_same, t, ?_, ?_⟩⟩⟩⟩
  · exact kp_new (kp_new (kp_new (Kp.of (Same.refl _)) ht) ht1) ht2
  · exact la_new (la_new (la_new hla ht) ht1) ht2
  · exact same_new ht2 _ _ upd_same
  · exact same_new ht2 _ _ (same_new ht1 _ _ upd_same)
theorem ok_dadd (F : Fun K "step_done" "AddStep.step_done" m_AddStep_step_done f fd) (T : TxW K CW) (CV : CloV P w K mg base fv (spAsk val la)) : FnOk P w K mg base CX0 5 f fd ["self", "hand", "value_of"] (spDone CW val la fv CN .add) := by
  refine F.ok sc_AddStep_step_done (fun vs H Q E h => ?_) (fun cdv A outer s H vs Q E hr h => ?_)
  · obtain ⟨v, ns, hand, rfl, _⟩ := h
    rfl
  obtain ⟨v, ns, hand, rfl, ar, _, ⟨a, dx, rfl, ha⟩, hla, q, _⟩ := h
  obtain ⟨x, y, z, rfl, _⟩ := ar.a
  obtain ⟨fo, fd0, fdv, h1, h2, h3, h4⟩ := CV.ex
  have hal : a ≠ la := fun e => by
    rw [e, hla] at ha
    cases ha
  refine ⟨_, pss_one (ps_ret (pe_tup (pa_cons (pv 1) (pa_cons (pe_tup (pa_cons (pe_tup (pa_cons (pe_fld (pv 0) rfl) (pa_cons (pe_op op_add (pe_callP (i := 2) rfl (.inl rfl) h1 h2 h3 hr h4 pass0 (pa_cons (pe_fld (pv 0) rfl) pa_nil)) (pe_fld (pv 0) rfl)) pa_nil))) pa_nil)) pa_nil)))), ?_⟩
  have lc : (fsOf .add [x, y, z]).lookup (Str.ofString "cell") = some (V.int y) := by
    show (putF "amount" _ (putF "cell" _ (putF "where" _ []))).lookup _ = _
    rw [lk_miss (by decide +kernel), lk_hit]
  have lm : (fsOf .add [x, y, z]).lookup (Str.ofString "amount") = some (V.int z) := by
    show (putF "amount" _ (putF "cell" _ (putF "where" _ []))).lookup _ = _
    rw [lk_hit]
  have ha2 : (upd H la (.lst ([] ++ [V.int y]))) a = some (.ins (CW .add) dx (fsOf .add [x, y, z])) := by
    rw [upd_ne hal]
    exact ha
  refine ⟨_, rfl, _, rfl, a, CW .add, dx, _, _, rfl, ha, T.cl _, T.nC _, lc, rfl, _, rfl, a, CW .add, dx, _, _, rfl, ha, T.cl _, T.nC _, lc, y, [], rfl, hla, (by show 0 < 100; decide), _, rfl, a, CW .add, dx, _, _, rfl, ha2, T.cl _, T.nA _, lm, _, _, rfl, rfl,
    (by show 2 ≤ sizeLine; decide), fun t ht => ⟨(by show 1 ≤ sizeLine; decide), fun t1 ht1 => ⟨(by show 2 ≤ sizeLine; decide), fun t2 ht2 => q _ rfl _ _ ?_ ?_ ⟨t2, t1, rfl, upd_same, t, ?_, ?_⟩⟩⟩⟩
  · exact kp_new (kp_new (kp_new kp_upd ht) ht1) ht2
  · exact la_new (la_new (la_new upd_same ht) ht1) ht2
  · exact same_new ht2 _ _ upd_same
  · exact same_new ht2 _ _ (same_new ht1 _ _ upd_same)
theorem ok_dplus (F : Fun K "step_done" "PlusStep.step_done" m_PlusStep_step_done f fd) (T : TxW K CW) : FnOk P w K mg base CX0 1 f fd ["self", "hand", "value_of"] (spDone CW val la fv CN .plus) := by
  refine F.ok sc_PlusStep_step_done (fun vs H Q E h => ?_) (fun cdv A outer s H vs Q E hr h => ?_)
  · obtain ⟨v, ns, hand, rfl, _⟩ := h
    rfl
  obtain ⟨v, ns, hand, rfl, ar, _, ⟨a, dx, rfl, ha⟩, hla, q, _⟩ := h
  obtain ⟨x, rfl, _⟩ := ar.p
  refine ⟨_, pss_one (ps_ret (pe_tup (pa_cons (pe_op op_add (pv 1) (pe_fld (pv 0) rfl)) (pa_cons (pe_tup pa_nil) pa_nil)))), ?_⟩
  refine ⟨_, rfl, _, rfl, a, CW .plus, dx, _, _, rfl, ha, T.cl _, T.nA _, lk_hit, _, _, rfl, rfl, (by show 0 ≤ sizeLine; decide), fun t ht => ⟨(by show 2 ≤ sizeLine; decide), fun t2 ht2 => q _ rfl _ _ ?_ ?_ ⟨t2, t, rfl, upd_same, ?_⟩⟩⟩
  · exact kp_new (kp_new (Kp.of (Same.refl _)) ht) ht2
  · exact la_new (la_new hla ht) ht2
  · exact same_new ht2 _ _ upd_same
theorem ok_dneed (F : Fun K "step_done" "NeedStep.step_done" m_NeedStep_step_done f fd) (T : TxW K CW) (mN : mg "NoNeed" = some (.ref CN)) (xN : PySem.W.excIn K CN [.type "ValueError", .type "Exception", .type "BaseException", .type "object"] "ValueError.__new__" = true) : FnOk P w K mg base (CXE P w) 1 f fd ["self", "hand", "value_of"] (spDone CW val la fv CN .need) := by
  refine F.okE sc_NeedStep_step_done (fun vs H Q E h => ?_) (fun cdv A outer s H vs Q E hr h => ?_)
  · obtain ⟨v, ns, hand, rfl, _⟩ := h
    rfl
  obtain ⟨v, ns, hand, rfl, ar, _, ⟨a, dx, rfl, ha⟩, hla, q, qn⟩ := h
  obtain ⟨x, rfl, _⟩ := ar.n
  refine ⟨_, pss_cons (ps_if (pt_cmpR op_lt (pv 1) (pe_fld (pv 0) rfl) (nomark _)) (pss_one (ps_raise def_cx rfl rfl mN xN PySem.F.excBase_ValueError (pa_cons pe_str pa_nil))) pss_nil) (pss_one (ps_ret (pe_tup (pa_cons (pv 1) (pa_cons (pe_tup pa_nil) pa_nil))))), ?_⟩
  refine ⟨_, rfl, _, rfl, a, CW .need, dx, _, _, rfl, ha, T.cl _, T.nA _, lk_hit, _, _, rfl, rfl, _, rfl, ite2 (fun c => ?_) (fun c => ?_)⟩
  · have c' : hand < x := of_decide_eq_true c
    exact ⟨Nat.le_refl _, qn (if_pos c')⟩
  · have c' : ¬ hand < x := fun z => c (decide_eq_true z)
    refine ⟨_, rfl, (by show 0 ≤ sizeLine; decide), fun t ht => ⟨(by show 2 ≤ sizeLine; decide), fun t2 ht2 => q (hand, []) (if_neg c') _ _ ?_ ?_ ⟨t2, t, rfl, upd_same, ?_⟩⟩⟩
    · exact kp_new (kp_new (Kp.of (Same.refl _)) ht) ht2
    · exact la_new (la_new hla ht) ht2
    · exact same_new ht2 _ _ upd_same
theorem ok_dsum (F : Fun K "step_done" "SumStep.step_done" m_SumStep_step_done f fd) (T : TxW K CW) (B : TxB mg) (hsum : mg "sum" = none) (CV : CloV P w K mg base fv (spAsk val la)) : FnOk P w K mg base CX0 5 f fd ["self", "hand", "value_of"] (spDone CW val la fv CN .sum) := by
  refine F.ok sc_SumStep_step_done (fun vs H Q E h => ?_) (fun cdv A outer s H vs Q E hr h => ?_)
  · obtain ⟨v, ns, hand, rfl, _⟩ := h
    rfl
  obtain ⟨v, ns, hand, rfl, ar, nr, ⟨a, dx, rfl, ha⟩, hla, q, _⟩ := h
  obtain ⟨x, y, z, rfl, _, _, _, hyz⟩ := ar.s
  have nr : z < y + 40 := nr
  obtain ⟨fo, fd0, fdv, h1, h2, h3, h4⟩ := CV.ex
  refine ⟨_, pss_one (ps_ret (pe_tup (pa_cons (pe_callB (call_sum_ints rfl) rfl hsum PyProof.Rows.boot_sum (pa_cons (pe_lc sb_SumStep_step_done_0 rfl (pi_rangeL rfl B.range (pa_cons (pe_fld (pv 0) rfl) (pa_cons (pe_op op_add (pe_fld (pv 0) rfl) pe_int) pa_nil))) (fun _ _ _ _ => pts_nil)
    (fun _ _ _ _ => pe_callP (i := 1) rfl (by first | exact Or.inl rfl | exact Or.inr (Or.inl rfl) | exact Or.inr (Or.inr rfl)) h1 h2 h3 hr h4 pass0 (pa_cons (pv 0) pa_nil))) pa_nil)) (pa_cons (pe_tup pa_nil) pa_nil)))), ?_⟩
  have ll : (fsOf .sum [x, y, z]).lookup (Str.ofString "low") = some (V.int y) := by
    show (putF "high" _ (putF "low" _ (putF "where" _ []))).lookup _ = _
    rw [lk_miss (by decide +kernel), lk_hit]
  have lh : (fsOf .sum [x, y, z]).lookup (Str.ofString "high") = some (V.int z) := by
    show (putF "high" _ (putF "low" _ (putF "where" _ []))).lookup _ = _
    rw [lk_hit]
  refine ⟨_, rfl, a, CW .sum, dx, _, _, rfl, ha, T.cl _, T.nL _, ll, _, rfl, a, CW .sum, dx, _, _, rfl, ha, T.cl _, T.nH _, lh, _, _, rfl, rfl, _, _, rfl, ?_⟩
  have hn : (z + 1 - y).toNat ≤ 40 := by omega
  refine lc_rangeL (fun i ys H' => i ≤ (z + 1 - y).toNat ∧ Kp la H H' ∧ H' la = some (.lst ((runN y i).map V.int)) ∧ ys = ((runN y i).map val).map V.int) ⟨Nat.zero_le _, Kp.of (Same.refl _), hla, rfl⟩ (Nat.le_trans hn (by decide)) ?_ ?_
  · rintro i ys H2 hi ⟨_, k2, e2, rfl⟩
    refine tAllT ⟨rfl, _, rfl, y + i, _, rfl, e2, ?_, hi, fun b o n e => ?_, ?_, ?_⟩
    · rw [List.length_map, run_len]
      omega
    · rw [upd_ne n]
      exact k2 b o n e
    · rw [upd_same, run_succ, List.map_append]
      rfl
    · rw [run_succ, List.map_append, List.map_append]
      rfl
  · rintro ys H2 ⟨_, k2, e2, rfl⟩ p hp
    refine ⟨p, _, rfl, SqL.of upd_same, ?_⟩
    rw [sum_run]
    refine ⟨(by show 0 ≤ sizeLine; decide), fun t ht => ⟨(by show 2 ≤ sizeLine; decide), fun t2 ht2 => q _ rfl _ _ ?_ ?_ ⟨t2, t, rfl, upd_same, ?_⟩⟩⟩
    · exact kp_new (kp_new (kp_new k2 hp) ht) ht2
    · exact la_new (la_new (la_new e2 hp) ht) ht2
    · exact same_new ht2 _ _ upd_same
end
end
end K22
set_option maxHeartbeats 4000000
namespace K22
open PySem L2 Lo St
section
variable {P : Program} {w : World} {K : PySem.W.Frag} {mg : Str → Option Value} {base : Heap} {f CL : Addr} {fd : FuncData} {C : Kd → Addr} {CW : Wd → Addr}
def spNear : Sp := fun vs H Q _ => ∃ wd ns v c hand, vs = [v, .int c, .int hand] ∧ tSt H wd ns v ∧ Ar wd ns ∧ ∀ ns' v' H', Ar wd ns' → nearA wd ns' → Same H H' → tSt H' wd ns' v' → Q v' H'
def spDue (val : Int → Int) (fv : Addr) : Sp := fun vs H Q _ => ∃ wd ns v hand, vs = [v, .int hand, .ref fv] ∧ tSt H wd ns v ∧ Ar wd ns ∧ nearA wd ns ∧
  (∀ r, Dn val wd ns hand = some r → ∀ u H', Same H H' → resT H' r u → Q u H') ∧ (Dn val wd ns hand = none → Q .non H)
theorem near_t {wd : Wd} {ns : List Int} (h : wd ≠ .sum) : nearA wd ns := by
  cases wd <;> first | contradiction | trivial
theorem ok_near (F : Fun K "_law_near" "_law_near" s__law_near f fd) (habs : mg "abs" = none) (GX : GF P w K mg base CX0 1 "_law_mixed" ["_law_cell_here", "_law_k"] spMixX) : FnOk P w K mg base CX0 2 f fd ["_law_step_here", "_law_cell_here", "_law_hand"] spNear := by
  refine F.ok sc__law_near (fun vs H Q E h => ?_) (fun cdv A outer s H vs Q E hr h => ?_)
  · obtain ⟨wd, ns, v, c, hand, rfl, _⟩ := h
    rfl
  obtain ⟨wd, ns, v, c, hand, rfl, ⟨b, rfl, hb⟩, ar, q⟩ := h
  have nd := sc__law_near.nd
  refine ⟨_, pss_cons (ps_if (pt_cmpR op_eq (pe_ix (r := rIxT K) ix_tup (pv 0) pe_int (fun _ _ => rfl)) pe_str (nomark _))
      (pss_cons (ps_set (i := 3) nd rfl (Or.inl rfl) (pe_op op_mod (pe_ix (r := rIxT K) ix_tup (pv 0) pe_int (fun _ _ => rfl)) (pe_op op_pow pe_int pe_int)))
      (pss_one (ps_ret (pe_tup (pa_cons pe_str (pa_cons (pe_ix (r := rIxT K) ix_tup (pv 0) pe_int (fun _ _ => rfl)) (pa_cons (pv 3) (pa_cons (pe_op op_add (pv 3) (pe_op op_mod (pc GX hr (pa_cons (pv 1) (pa_cons pe_int pa_nil))) pe_int)) pa_nil)))))))) pss_nil)
    (pss_cons (ps_if (PW.pt (pw_and (pt_cmpR op_eq (pe_ix (r := rIxT K) ix_tup (pv 0) pe_int (fun _ _ => rfl)) pe_str (nomark _)) (pw_and (pt_cmpR op_eq (pe_op op_mod (pc GX hr (pa_cons (pv 1) (pa_cons pe_int pa_nil))) pe_int) pe_int (nomark _))
        (pw_and1 (pt_cmpR op_lt (pe_callB call_abs rfl habs PyProof.Rows.boot_abs (pa_cons (pv 2) pa_nil)) (pe_op op_pow pe_int pe_int) (nomark _))))))
      (pss_one (ps_ret (pe_tup (pa_cons pe_str (pa_cons (pe_op op_add (pv 2) (pe_op op_mod (pc GX hr (pa_cons (pv 1) (pa_cons pe_int pa_nil))) pe_int)) pa_nil))))) pss_nil)
    (pss_one (ps_ret (pv 0)))), ?_⟩
  refine ⟨_, rfl, b, _, _, _, rfl, rfl, SqT.of hb, at0, rfl, _, rfl, ite2 (fun cs => ?_) (fun cs => ?_)⟩
  · obtain rfl : wd = .sum := w_hit cs
    obtain ⟨x, y, z, rfl, hx, hy, hz, _⟩ := ar.s
    have p39 : (0 : Int) < 10 ^ 39 := by decide +kernel
    refine ⟨_, rfl, b, _, _, _, rfl, rfl, SqT.of hb, rfl, _, _, rfl, rfl, ⟨by decide, by decide, by decide⟩, _, _, rfl, rfl, p39, ?_⟩
    refine ⟨_, rfl, b, _, _, _, rfl, rfl, SqT.of hb, rfl, _, rfl, _, rfl, _, rfl, _, _, rfl, _, _, rfl, rfl, (by show (0 : Int) < 40; decide), _, _, rfl, rfl, (by show 4 ≤ sizeLine; decide), fun t ht => ?_⟩
    have l0 : 0 ≤ y % 10 ^ 39 := Int.emod_nonneg _ (by decide +kernel)
    have l1 : y % 10 ^ 39 < 10 ^ 39 := Int.emod_lt_of_pos _ p39
    have g0 : 0 ≤ mixN c 9 % 40 := Int.emod_nonneg _ (by decide)
    have g1 : mixN c 9 % 40 < 40 := Int.emod_lt_of_pos _ (by decide)
    have p2 : (10 : Int) ^ 39 + 40 < 10 ^ 40 := by decide +kernel
    refine q [x, y % 10 ^ 39, y % 10 ^ 39 + mixN c 9 % 40] _ _ ⟨hx, ⟨l0, by omega⟩, ⟨by omega, by omega⟩, by omega⟩ (show _ < _ by omega) (same_new ht) ⟨t, rfl, upd_same⟩
  have nsum : wd ≠ .sum := w_miss (b := .sum) cs
  have fin : Q (.ref b) H := q ns _ _ ar (near_t nsum) (Same.refl _) ⟨b, rfl, hb⟩
  refine ⟨_, rfl, b, _, _, _, rfl, rfl, SqT.of hb, at0, rfl, _, rfl, ite2 (fun cn => ?_) (fun _ => ⟨_, rfl, fin⟩)⟩
  obtain rfl : wd = .need := w_hit cn
  obtain ⟨x, rfl, hx⟩ := ar.n
  refine ⟨_, rfl, _, _, rfl, _, _, rfl, rfl, (by show (0 : Int) < 4; decide), rfl, _, rfl, ite2 (fun _ => ?_) (fun _ => ⟨_, rfl, fin⟩)⟩
  refine ⟨_, rfl, _, rfl, _, _, rfl, rfl, ⟨by decide, by decide, by decide⟩, _, _, rfl, rfl, _, rfl, ite2 (fun ca => ?_) (fun _ => ⟨_, rfl, fin⟩)⟩
  have ca' : (if hand < 0 then -hand else hand) < 10 ^ 39 := of_decide_eq_true ca
  have g0 : 0 ≤ mixN c 11 % 2 := Int.emod_nonneg _ (by decide)
  have g1 : mixN c 11 % 2 < 2 := Int.emod_lt_of_pos _ (by decide)
  have p2 : (10 : Nat) ^ 39 + 2 < 10 ^ 40 := by decide +kernel
  have p3 : (10 : Int) ^ 39 = ((10 ^ 39 : Nat) : Int) := by decide +kernel
  refine ⟨_, rfl, _, rfl, _, _, rfl, _, _, rfl, rfl, (by show (0 : Int) < 2; decide), _, _, rfl, rfl, (by show 2 ≤ sizeLine; decide), fun t ht => q [hand + mixN c 11 % 2] _ _ ?_ trivial (same_new ht) ⟨t, rfl, upd_same⟩⟩
  show (hand + mixN c 11 % 2).natAbs < 10 ^ 40
  rw [p3] at ca'
  split at ca' <;> omega
theorem ok_due {fv : Addr} {val : Int → Int} (F : Fun K "_law_due" "_law_due" s__law_due f fd) (B : TxB mg) (hsum : mg "sum" = none) (CV : CloV P w K mg base fv (spVal val)) : FnOk P w K mg base CX0 5 f fd ["_law_step_here", "_law_hand", "_law_value_of"] (spDue val fv) := by
  refine F.ok sc__law_due (fun vs H Q E h => ?_) (fun cdv A outer s H vs Q E hr h => ?_)
  · obtain ⟨wd, ns, v, hand, rfl, _⟩ := h
    rfl
  obtain ⟨wd, ns, v, hand, rfl, ⟨b, rfl, hb⟩, ar, nr, q, qn⟩ := h
  obtain ⟨fo, fd0, fdv, h1, h2, h3, h4⟩ := CV.ex
  refine ⟨_, pss_cons (ps_if (PW.pt (pw_or (pt_cmpR op_eq (pe_ix (r := rIxT K) ix_tup (pv 0) pe_int (fun _ _ => rfl)) pe_str (nomark _)) (pw_or1 (pt_cmpR op_eq (pe_ix (r := rIxT K) ix_tup (pv 0) pe_int (fun _ _ => rfl)) pe_str (nomark _)))))
      (pss_one (ps_ret (pe_tup (pa_cons (pe_callP (i := 2) rfl (by first | exact Or.inl rfl | exact Or.inr (Or.inl rfl) | exact Or.inr (Or.inr rfl)) h1 h2 h3 hr h4 pass0 (pa_cons (pe_ix (r := rIxT K) ix_tup (pv 0) pe_int (fun _ _ => rfl)) pa_nil)) (pa_cons (pe_tup pa_nil) pa_nil))))) pss_nil)
    (pss_cons (ps_if (pt_cmpR op_eq (pe_ix (r := rIxT K) ix_tup (pv 0) pe_int (fun _ _ => rfl)) pe_str (nomark _))
      (pss_one (ps_ret (pe_tup (pa_cons (pe_callB (call_sum_ints rfl) rfl hsum PyProof.Rows.boot_sum (pa_cons (pe_lc sb__law_due_0 rfl (pi_rangeL rfl B.range (pa_cons (pe_ix (r := rIxT K) ix_tup (pv 0) pe_int (fun _ _ => rfl)) (pa_cons (pe_op op_add (pe_ix (r := rIxT K) ix_tup (pv 0) pe_int (fun _ _ => rfl)) pe_int) pa_nil))) (fun _ _ _ _ => pts_nil)
        (fun _ _ _ _ => pe_callP (i := 1) rfl (by first | exact Or.inl rfl | exact Or.inr (Or.inl rfl) | exact Or.inr (Or.inr rfl)) h1 h2 h3 hr h4 pass0 (pa_cons (pv 0) pa_nil))) pa_nil)) (pa_cons (pe_tup pa_nil) pa_nil))))) pss_nil)
    (pss_cons (ps_if (pt_cmpR op_eq (pe_ix (r := rIxT K) ix_tup (pv 0) pe_int (fun _ _ => rfl)) pe_str (nomark _))
      (pss_one (ps_ret (pe_tup (pa_cons (pv 1) (pa_cons (pe_tup (pa_cons (pe_tup (pa_cons (pe_ix (r := rIxT K) ix_tup (pv 0) pe_int (fun _ _ => rfl)) (pa_cons (pv 1) pa_nil))) pa_nil)) pa_nil))))) pss_nil)
    (pss_cons (ps_if (pt_cmpR op_eq (pe_ix (r := rIxT K) ix_tup (pv 0) pe_int (fun _ _ => rfl)) pe_str (nomark _))
      (pss_one (ps_ret (pe_tup (pa_cons (pv 1) (pa_cons (pe_tup (pa_cons (pe_tup (pa_cons (pe_ix (r := rIxT K) ix_tup (pv 0) pe_int (fun _ _ => rfl)) (pa_cons (pe_op op_add (pe_callP (i := 2) rfl (by first | exact Or.inl rfl | exact Or.inr (Or.inl rfl) | exact Or.inr (Or.inr rfl)) h1 h2 h3 hr h4 pass0 (pa_cons (pe_ix (r := rIxT K) ix_tup (pv 0) pe_int (fun _ _ => rfl)) pa_nil)) (pe_ix (r := rIxT K) ix_tup (pv 0) pe_int (fun _ _ => rfl))) pa_nil))) pa_nil)) pa_nil))))) pss_nil)
    (pss_cons (ps_if (pt_cmpR op_eq (pe_ix (r := rIxT K) ix_tup (pv 0) pe_int (fun _ _ => rfl)) pe_str (nomark _))
      (pss_one (ps_ret (pe_tup (pa_cons (pe_op op_add (pv 1) (pe_ix (r := rIxT K) ix_tup (pv 0) pe_int (fun _ _ => rfl))) (pa_cons (pe_tup pa_nil) pa_nil))))) pss_nil)
    (pss_cons (ps_if (pt_cmpR op_lt (pv 1) (pe_ix (r := rIxT K) ix_tup (pv 0) pe_int (fun _ _ => rfl)) (nomark _)) (pss_one (ps_ret pe_non)) pss_nil)
    (pss_one (ps_ret (pe_tup (pa_cons (pv 1) (pa_cons (pe_tup pa_nil) pa_nil)))))))))), ?_⟩
  have one : ∀ {x y : Int}, (wd = .take ∨ wd = .mean) → ns = [x, y] → ∀ t, H t = none → ∀ t2, upd H t (.tup []) t2 = none → Q (.ref t2) (upd (upd H t (.tup [])) t2 (.tup [.int (val y), .ref t])) := fun {x y} hw hns t ht t2 ht2 => by
    subst hns
    refine q (val y, []) (by rcases hw with rfl | rfl <;> rfl) _ _ ((same_new ht).trans (same_new ht2)) ⟨t2, t, rfl, upd_same, same_new ht2 _ _ upd_same⟩
  have z0 : 0 ≤ sizeLine := by decide
  have z2 : 2 ≤ sizeLine := by decide
  refine ⟨_, rfl, b, _, _, _, rfl, rfl, SqT.of hb, at0, rfl, _, rfl, ite2 (fun c => ?_) (fun c0 => ?_)⟩
  · have hw : wd = .take := w_hit c
    obtain ⟨x, y, hns, _⟩ := (by rw [hw] at ar; exact ar : Ar .take ns).c rfl
    subst hns
    exact ⟨rfl, _, rfl, b, _, _, _, rfl, rfl, SqT.of hb, rfl, y, rfl, z0, fun t ht => ⟨z2, fun t2 ht2 => one (.inl hw) rfl t ht t2 ht2⟩⟩
  refine ⟨_, rfl, b, _, _, _, rfl, rfl, SqT.of hb, at0, rfl, _, rfl, ite2 (fun c => ?_) (fun c1 => ?_)⟩
  · have hw : wd = .mean := w_hit c
    obtain ⟨x, y, hns, _⟩ := (by rw [hw] at ar; exact ar : Ar .mean ns).c rfl
    subst hns
    exact ⟨rfl, _, rfl, b, _, _, _, rfl, rfl, SqT.of hb, rfl, y, rfl, z0, fun t ht => ⟨z2, fun t2 ht2 => one (.inr hw) rfl t ht t2 ht2⟩⟩
  refine ⟨_, rfl, b, _, _, _, rfl, rfl, SqT.of hb, at0, rfl, _, rfl, ite2 (fun c => ?_) (fun c2 => ?_)⟩
  · obtain rfl : wd = .sum := w_hit c
    obtain ⟨x, y, z, rfl, _, _, _, hyz⟩ := ar.s
    have nr : z < y + 40 := nr
    refine ⟨_, rfl, b, _, _, _, rfl, rfl, SqT.of hb, rfl, _, rfl, b, _, _, _, rfl, rfl, SqT.of hb, rfl, _, _, rfl, rfl, _, _, rfl, ?_⟩
    have hn : (z + 1 - y).toNat ≤ 40 := by omega
    refine lc_rangeL (fun i ys H' => H' = H ∧ ys = ((runN y i).map val).map V.int) ⟨rfl, rfl⟩ (Nat.le_trans hn (by decide)) ?_ ?_
    · rintro i ys H2 hi ⟨rfl, rfl⟩
      refine tAllT ⟨rfl, _, rfl, y + i, rfl, rfl, ?_⟩
      rw [run_succ, List.map_append, List.map_append]
      rfl
    · rintro ys H2 ⟨rfl, rfl⟩ p hp
      refine ⟨p, _, rfl, SqL.of upd_same, ?_⟩
      rw [sum_run]
      refine ⟨z0, fun t ht => ⟨z2, fun t2 ht2 => q _ rfl _ _ ((same_new hp).trans ((same_new ht).trans (same_new ht2))) ⟨t2, t, rfl, upd_same, same_new ht2 _ _ upd_same⟩⟩⟩
  refine ⟨_, rfl, b, _, _, _, rfl, rfl, SqT.of hb, at0, rfl, _, rfl, ite2 (fun c => ?_) (fun c3 => ?_)⟩
  · obtain rfl : wd = .give := w_hit c
    obtain ⟨x, y, rfl, _⟩ := ar.c rfl
    exact ⟨_, rfl, _, rfl, b, _, _, _, rfl, rfl, SqT.of hb, rfl, _, rfl, z2, fun t ht => ⟨(by show 1 ≤ sizeLine; decide), fun t1 ht1 => ⟨z2, fun t2 ht2 => q _ rfl _ _ ((same_new ht).trans ((same_new ht1).trans (same_new ht2))) ⟨t2, t1, rfl, upd_same, t, same_new ht2 _ _ upd_same, same_new ht2 _ _ (same_new ht1 _ _ upd_same)⟩⟩⟩⟩
  refine ⟨_, rfl, b, _, _, _, rfl, rfl, SqT.of hb, at0, rfl, _, rfl, ite2 (fun c => ?_) (fun c4 => ?_)⟩
  · obtain rfl : wd = .add := w_hit c
    obtain ⟨x, y, z, rfl, _⟩ := ar.a
    exact ⟨_, rfl, _, rfl, b, _, _, _, rfl, rfl, SqT.of hb, rfl, rfl, _, rfl, b, _, _, _, rfl, rfl, SqT.of hb, rfl, y, rfl, _, rfl, b, _, _, _, rfl, rfl, SqT.of hb, rfl, _, _, rfl, rfl, z2, fun t ht => ⟨(by show 1 ≤ sizeLine; decide), fun t1 ht1 => ⟨z2, fun t2 ht2 => q _ rfl _ _ ((same_new ht).trans ((same_new ht1).trans (same_new ht2))) ⟨t2, t1, rfl, upd_same, t, same_new ht2 _ _ upd_same, same_new ht2 _ _ (same_new ht1 _ _ upd_same)⟩⟩⟩⟩
  refine ⟨_, rfl, b, _, _, _, rfl, rfl, SqT.of hb, at0, rfl, _, rfl, ite2 (fun c => ?_) (fun c5 => ?_)⟩
  · obtain rfl : wd = .plus := w_hit c
    obtain ⟨x, rfl, _⟩ := ar.p
    exact ⟨_, rfl, _, rfl, b, _, _, _, rfl, rfl, SqT.of hb, rfl, _, _, rfl, rfl, z0, fun t ht => ⟨z2, fun t2 ht2 => q _ rfl _ _ ((same_new ht).trans (same_new ht2)) ⟨t2, t, rfl, upd_same, same_new ht2 _ _ upd_same⟩⟩⟩
  obtain rfl : wd = .need := w_need (w_miss (b := .take) c0) (w_miss (b := .mean) c1) (w_miss (b := .sum) c2) (w_miss (b := .give) c3) (w_miss (b := .add) c4) (w_miss (b := .plus) c5)
  obtain ⟨x, rfl, _⟩ := ar.n
  refine ⟨_, rfl, _, rfl, b, _, _, _, rfl, rfl, SqT.of hb, rfl, _, _, rfl, rfl, _, rfl, ite2 (fun c => ?_) (fun c => ?_)⟩
  · exact qn (if_pos (of_decide_eq_true c))
  · exact ⟨_, rfl, z0, fun t ht => ⟨z2, fun t2 ht2 => q (hand, []) (if_neg fun z => c (decide_eq_true z)) _ _ ((same_new ht).trans (same_new ht2)) ⟨t2, t, rfl, upd_same, same_new ht2 _ _ upd_same⟩⟩⟩
end
end K22
set_option maxHeartbeats 4000000
namespace K22
open PySem L2 Lo St
section
variable {P : Program} {w : World} {K : PySem.W.Frag} {mg : Str → Option Value} {base : Heap} {f CL : Addr} {fd : FuncData} {C : Kd → Addr} {CW : Wd → Addr}
theorem ok_whole (F : Fun K "_law_whole" "_law_whole" s__law_whole f fd) (B : TxB mg) : FnOk P w K mg base CX0 1 f fd ["_law_found"] spWhole := by
  refine F.ok sc__law_whole (fun vs H Q E h => ?_) (fun cdv A outer s H vs Q E hr h => ?_)
  · obtain ⟨i, rfl, _⟩ := h
    rfl
  obtain ⟨i, rfl, q⟩ := h
  refine ⟨_, pss_one (ps_ret (pe_and (pe_callB call_isinst rfl B.isi PyProof.Rows.boot_isinstance (pa_cons (pv 0) (pa_cons (pe_bltn (v := .ty "int") rfl B.int PyProof.Rows.boot_int rfl) pa_nil)))
    (pe_one (pe_not (pe_callB call_isinst rfl B.isi PyProof.Rows.boot_isinstance (pa_cons (pv 0) (pa_cons (pe_bltn (v := .ty "bool") rfl B.bool PyProof.Rows.boot_bool rfl) pa_nil))))))), ?_⟩
  refine ⟨_, rfl, _, _, _, _, rfl, TyOf.int i, kit_ii, _, rfl, iteT ?_⟩
  exact ⟨_, rfl, _, _, _, _, rfl, TyOf.int i, kit_ib, _, rfl, q⟩
theorem ok_lcell (F : Fun K "_law_cell" "_law_cell" s__law_cell f fd) (B : TxB mg) : FnOk P w K mg base CX0 1 f fd ["_law_script", "_law_k"] (spCell K) := by
  refine F.ok sc__law_cell (fun vs H Q E h => ?_) (fun cdv A outer s H vs Q E hr h => ?_)
  · obtain ⟨a, ns, k, rfl, _⟩ := h
    rfl
  obtain ⟨a, ns, k, rfl, hS, q⟩ := h
  refine ⟨_, pss_cons (ps_if (pt_cmpR op_lt (pv 1) (pe_callB call_len_seq rfl B.len PySem.boot_len (pa_cons (pv 0) pa_nil)) (nomark _)) (pss_one (ps_ret (pe_ix ix_list (pv 0) (pv 1) (fun _ _ => rfl)))) pss_nil)
    (pss_one (ps_ret pe_int)), ?_⟩
  refine ⟨_, rfl, _, rfl, a, _, rfl, .inl hS, _, _, rfl, rfl, _, rfl, ?_⟩
  refine ite2 (fun c => ?_) (fun c => ?_)
  · have c' : (k : Int) < (((ns.map V.int).length : Nat) : Int) := of_decide_eq_true c
    rw [List.length_map] at c'
    have hk : k < ns.length := by omega
    have q1 : atI (ns.map V.int) ((k : Nat) : Int) = some (.int ns[k]) := atI_nat (by rw [List.getElem?_map, List.getElem?_eq_getElem hk] <;> rfl)
    have e : cellAt ns k = ns[k] := by unfold cellAt; rw [List.getElem?_eq_getElem hk]; rfl
    rw [e] at q
    exact ⟨_, rfl, _, rfl, a, _, _, _, rfl, rfl, hS, q1, q⟩
  · have c' : ¬ (k : Int) < (((ns.map V.int).length : Nat) : Int) := fun z => c (decide_eq_true z)
    rw [List.length_map] at c'
    have e : cellAt ns k = 0 := by unfold cellAt; rw [List.getElem?_eq_none (by omega)]; rfl
    rw [e] at q
    exact q
def spAlike : Sp := fun vs H Q _ => ∃ u v r, vs = [u, v] ∧ resT H r u ∧ resT H r v ∧ Q (.bl true) H
theorem res_eq {H : Hp} {r : Int × List (Int × Int)} {u v : V} (hu : resT H r u) (hv : resT H r v) : RcIs K 3 H u v true := by
  obtain ⟨t, a, rfl, ht, ha⟩ := hu
  obtain ⟨t', a', rfl, ht', ha'⟩ := hv
  refine (rc_tup (n := 2) (SqT.of ht) (SqT.of ht') (.cons (eq_intC 2 _) (.cons ?_ .nil))).1
  obtain ⟨h, cs⟩ := r
  cases cs with
  | nil =>
    have ha : H a = some (.tup []) := ha
    have ha' : H a' = some (.tup []) := ha'
    exact ((rc_tup (n := 1) (SqT.of ha) (SqT.of ha') .nil).2)
  | cons c cs =>
    obtain ⟨b, e1, e2⟩ := ha
    obtain ⟨b', e1', e2'⟩ := ha'
    exact ((rc_tup (n := 1) (SqT.of e1) (SqT.of e1') (.cons ((rc_tup (n := 0) (SqT.of e2) (SqT.of e2') (.cons (eq_intC 0 _) (.cons (eq_intC 0 _) .nil))).2) .nil)).2)
def chL : List (Int × Int) → Nat
  | [] => 0
  | _ :: _ => 1
theorem ch_len {H : Hp} {cs : List (Int × Int)} {a : Addr} (h : chT H cs a) : ∃ us, H a = some (.tup us) ∧ us.length = chL cs ∧ ∀ u ∈ us, ∃ b x y, u = .ref b ∧ H b = some (.tup [.int x, .int y]) := by
  cases cs with
  | nil => exact ⟨[], h, rfl, fun u hu => by cases hu⟩
  | cons c cs =>
    obtain ⟨b, e1, e2⟩ := h
    exact ⟨[.ref b], e1, rfl, fun u hu => ⟨b, c.1, c.2, List.mem_singleton.mp hu, e2⟩⟩
theorem ok_alike (F : Fun K "_law_alike" "_law_alike" s__law_alike f fd) (B : TxB mg) (GW : GF P w K mg base CX0 1 "_law_whole" ["_law_found"] Lo.spWhole) : FnOk P w K mg base CX0 2 f fd ["_law_found", "_law_due_here"] spAlike := by
  refine F.ok sc__law_alike (fun vs H Q E h => ?_) (fun cdv A outer s H vs Q E hr h => ?_)
  · obtain ⟨u, v, r, rfl, _⟩ := h
    rfl
  obtain ⟨u, v, r, rfl, hu, hv, q⟩ := h
  have rc := res_eq (K := K) hu hv
  obtain ⟨t, a, rfl, ht, ha⟩ := hu
  obtain ⟨t', a', rfl, ht', ha'⟩ := hv
  obtain ⟨us, ea, la, al⟩ := ch_len ha
  obtain ⟨us', ea', la', _⟩ := ch_len ha'
  have nd := sc__law_alike.nd
  refine ⟨_, pss_cons (ps_if (PW.pt (pw_or (pt_not (pt_val (pe_callB call_isinstT rfl B.isi PyProof.Rows.boot_isinstance (pa_cons (pv 0) (pa_cons (pe_bltn (v := .ty "tuple") rfl B.tuple PyProof.Rows.boot_tuple rfl) pa_nil))))) (pw_or (pt_cmpR op_ne (pe_callB call_len_seq rfl B.len PySem.boot_len (pa_cons (pv 0) pa_nil)) pe_int (nomark _)) (pw_or1 (pt_not (pt_val (pc GW hr (pa_cons (pe_ix (r := rIxT K) ix_tup (pv 0) pe_int (fun _ _ => rfl)) pa_nil)))))))) pss_never pss_nil)
    (pss_cons (ps_if (PW.pt (pw_or (pt_not (pt_val (pe_callB call_isinstT rfl B.isi PyProof.Rows.boot_isinstance (pa_cons (pe_ix (r := rIxT K) ix_tup (pv 0) pe_int (fun _ _ => rfl)) (pa_cons (pe_bltn (v := .ty "tuple") rfl B.tuple PyProof.Rows.boot_tuple rfl) pa_nil))))) (pw_or1 (pt_cmpR op_ne (pe_callB call_len_seq rfl B.len PySem.boot_len (pa_cons (pe_ix (r := rIxT K) ix_tup (pv 0) pe_int (fun _ _ => rfl)) pa_nil)) (pe_callB call_len_seq rfl B.len PySem.boot_len (pa_cons (pe_ix (r := rIxT K) ix_tup (pv 1) pe_int (fun _ _ => rfl)) pa_nil)) (nomark _))))) pss_never pss_nil)
    (pss_cons (ps_for PassesOwn.never rfl (pi_tup (pe_ix (r := rIxT K) ix_tup (pv 0) pe_int (fun _ _ => rfl))) (pg_name (i := 2) nd rfl (Or.inl rfl))
      (pss_cons (ps_if (PW.pt (pw_or (pt_not (pt_val (pe_callB call_isinstT rfl B.isi PyProof.Rows.boot_isinstance (pa_cons (pv 2) (pa_cons (pe_bltn (v := .ty "tuple") rfl B.tuple PyProof.Rows.boot_tuple rfl) pa_nil))))) (pw_or1 (pt_cmpR op_ne (pe_callB call_len_seq rfl B.len PySem.boot_len (pa_cons (pv 2) pa_nil)) pe_int (nomark _))))) pss_never pss_nil)
      (pss_one (ps_if (PW.pt (pw_or (pt_not (pt_val (pc GW hr (pa_cons (pe_ix (r := rIxT K) ix_tup (pv 2) pe_int (fun _ _ => rfl)) pa_nil)))) (pw_or1 (pt_not (pt_val (pc GW hr (pa_cons (pe_ix (r := rIxT K) ix_tup (pv 2) pe_int (fun _ _ => rfl)) pa_nil))))))) pss_never pss_nil))))
    (pss_one (ps_ret (pe_cmpR (op_eqV 3 (hun hr)) (pv 0) (pv 1) (nomark _)))))), ?_⟩
  refine ⟨_, rfl, t, _, rfl, SqT.of ht, _, rfl, iteF ?_⟩
  refine ⟨_, rfl, t, _, rfl, .inr (SqT.of ht), rfl, _, rfl, iteF ?_⟩
  refine ⟨_, rfl, t, _, _, _, rfl, rfl, SqT.of ht, rfl, _, rfl, _, rfl, iteF ?_⟩
  refine ⟨_, rfl, t, _, _, _, rfl, rfl, SqT.of ht, rfl, a, _, rfl, SqT.of ea, _, rfl, iteF ?_⟩
  refine ⟨_, rfl, t, _, _, _, rfl, rfl, SqT.of ht, rfl, a, _, rfl, .inr (SqT.of ea), _, rfl, t', _, _, _, rfl, rfl, SqT.of ht', rfl, a', _, rfl, .inr (SqT.of ea'), rfl, _, rfl, iteNS (by rw [la, la']) ?_⟩
  refine ⟨_, rfl, t, _, _, _, rfl, rfl, SqT.of ht, rfl, a, rfl, ⟨_, SqT.of ea⟩, ?_⟩
  refine for_tup (xs := us) (fun i σ H' => H' = H ∧ ∃ x2, σ = [some (.ref t), some (.ref t'), x2]) ⟨rfl, none, rfl⟩ (fun i σ H' _ z => by rw [z.1]; exact SqT.of ea) ?_ ?_
  · rintro i u σ H' hu ⟨rfl, x2, rfl⟩
    obtain ⟨b, x, y, rfl, hb⟩ := al u (List.mem_of_getElem? hu)
    refine ⟨_, rfl, b, _, rfl, SqT.of hb, _, rfl, iteF ?_⟩
    refine ⟨_, rfl, b, _, rfl, .inr (SqT.of hb), rfl, _, rfl, iteF ?_⟩
    refine ⟨_, rfl, b, _, _, _, rfl, rfl, SqT.of hb, rfl, _, rfl, _, rfl, iteF ?_⟩
    exact ⟨_, rfl, b, _, _, _, rfl, rfl, SqT.of hb, rfl, _, rfl, _, rfl, iteF ⟨rfl, _, rfl⟩⟩
  · rintro σ H' ⟨rfl, x2, rfl⟩
    exact ⟨_, rfl, _, rfl, rc, q⟩
def spRef (CW : Wd → Addr) (val : Int → Int) (la fv : Addr) : Sp := fun vs H Q _ => ∃ wd ns v hand, vs = [v, .int hand, .ref fv] ∧ Ar wd ns ∧ nearA wd ns ∧ StO CW H wd ns v ∧ H la = some (.lst []) ∧ Dn val wd ns hand = none ∧ ∀ H', Same H H' → Q (.bl true) H'
theorem dn_none {val : Int → Int} {wd : Wd} {ns : List Int} {hand : Int} (ar : Ar wd ns) (h : Dn val wd ns hand = none) : wd = .need := by
  unfold Ar at ar
  split at ar <;> first | rfl | exact ar.elim | cases h
structure TxR (K : PySem.W.Frag) (mg : Str → Option Value) (CE CN C1 C2 C3 C4 : Addr) : Prop where
  mE : mg "PactError" = some (.ref CE)
  xE : PySem.W.excIn K CE [.type "ValueError", .type "Exception", .type "BaseException", .type "object"] "ValueError.__new__" = true
  mN : mg "NoNeed" = some (.ref CN)
  xN : PySem.W.excIn K CN [.type "ValueError", .type "Exception", .type "BaseException", .type "object"] "ValueError.__new__" = true
  sub : PySem.W.mroIn K CN (.ref CE) = some true
  ek : ExcK K CN
  m1 : mg "NoFit" = some (.ref C1)
  m2 : mg "NoPlace" = some (.ref C2)
  m3 : mg "NoText" = some (.ref C3)
  m4 : mg "NoWayBack" = some (.ref C4)
  iN : PySem.W.kitOne K (.ref CN) (.ref CN) = some true
  iT : PySem.W.kitAny K (.ref CN) [.ref C1, .ref C2, .ref C3, .ref C4] = some false
theorem isinstETK {X : Cx} {K : PySem.W.Frag} {C : Addr} (hK : X.K = K) (Y : ExcK K C) : CallR X (.builtin "isinstance") (fun xs H Q => ∃ ea t Bs b, xs = [.ref ea, .ref t] ∧ H ea = some (ExcO ea C) ∧ H t = some (.tup ((Bs : List Addr).map V.ref)) ∧ PySem.W.kitAny K (.ref C) (Bs.map Value.ref) = some b ∧ Q (.bl b) H) := by
  subst hK
  exact call_isinstET Y
theorem isinstECK {X : Cx} {K : PySem.W.Frag} {C : Addr} (hK : X.K = K) (Y : ExcK K C) : CallR X (.builtin "isinstance") (fun xs H Q => ∃ ea B b, xs = [.ref ea, .ref B] ∧ H ea = some (ExcO ea C) ∧ PySem.W.kitOne K (.ref C) (.ref B) = some b ∧ Q (.bl b) H) := by
  subst hK
  exact call_isinstEC Y
theorem ok_refused {val : Int → Int} {la fv CE CN C1 C2 C3 C4 : Addr} (F : Fun K "_law_refused" "_law_refused" s__law_refused f fd) (B : TxB mg) (T : TxW K CW) (R : TxR K mg CE CN C1 C2 C3 C4) (GD : GM P w K mg base (CXE P w) 5 (CW .need) "step_done" ["self", "hand", "value_of"] (spDone CW val la fv CN .need)) :
    FnOk P w K mg base CX0 6 f fd ["_law_made_here", "_law_hand", "_law_value_of"] (spRef CW val la fv) := by
  refine F.ok sc__law_refused (fun vs H Q E h => ?_) (fun cdv A outer s H vs Q E hr h => ?_)
  · obtain ⟨wd, ns, v, hand, rfl, _⟩ := h
    rfl
  obtain ⟨wd, ns, v, hand, rfl, ar, nr, ⟨a, dx, rfl, ha⟩, hla, hn, q⟩ := h
  obtain rfl := dn_none ar hn
  have nd := sc__law_refused.nd
  refine ⟨_, pss_cons (ps_tryAs (i := 3) (C := CN) rfl rfl rfl nd rfl rfl (pex_meth (pv 0) (T.cl .need) GD.me GD.ok hr GD.bd (pa_cons (pv 1) (pa_cons (pv 2) pa_nil))) rfl R.mE (takes_sub R.mN R.xN R.mE R.xE (by decide +kernel) R.sub)
      (fun ev => pss_one (ps_ret (pe_and (pe_callB (isinstECK (K := K) (C := CN) rfl R.ek) rfl B.isi PyProof.Rows.boot_isinstance (pa_cons (pv 3) (pa_cons (pe_glob (v := .ref CN) rfl R.mN rfl) pa_nil)))
        (pe_one (pe_not (pe_callB (isinstETK (K := K) (C := CN) rfl R.ek) rfl B.isi PyProof.Rows.boot_isinstance (pa_cons (pv 3) (pa_cons (pe_tup (pa_cons (pe_glob (v := .ref C1) rfl R.m1 rfl) (pa_cons (pe_glob (v := .ref C2) rfl R.m2 rfl) (pa_cons (pe_glob (v := .ref C3) rfl R.m3 rfl) (pa_cons (pe_glob (v := .ref C4) rfl R.m4 rfl) pa_nil))))) pa_nil)))))))))
    (pss_one (ps_ret pe_bl)), ?_⟩
  refine ⟨_, rfl, a, dx, _, rfl, ha, ?_, _, rfl, _, rfl, _, _, hand, rfl, ar, nr, ⟨a, dx, rfl, ha⟩, hla, fun r hr => (by rw [hn] at hr; cases hr), fun _ ea => ⟨ea, rfl, rfl, fun he => ?_⟩⟩
  · obtain ⟨x, rfl, _⟩ := ar.n
    show (putF "amount" _ []).lookup _ = _
    rw [lk_miss (by decide +kernel)]
    rfl
  refine ⟨_, rfl, ea, CN, true, rfl, upd_same, R.iN, _, rfl, iteT ?_⟩
  refine ⟨_, rfl, (by show 4 ≤ sizeLine; decide), fun t ht => ⟨ea, t, [C1, C2, C3, C4], false, rfl, same_new ht _ _ upd_same, upd_same, R.iT, _, rfl, ?_⟩⟩
  exact q _ ((same_new he).trans (same_new ht))
end
end K22
set_option maxHeartbeats 4000000
namespace K22
open PySem L2 Lo St
section
variable {P : Program} {w : World} {K : PySem.W.Frag} {mg : Str → Option Value} {base : Heap} {f CL : Addr} {fd : FuncData} {C : Kd → Addr} {CW : Wd → Addr}
abbrev s_lval : Stmt := (defBody s_law).getD 3 (.Pass default)
abbrev s_lask : Stmt := (defBody s_law).getD 4 (.Pass default)
def tExC {ι : Type} (t : ι → TE) : TE := fun σ H Q => ∃ i, t i σ H Q
theorem pe_exC {X : Cx} {e : Expr} {ι : Type} {t : ι → TE} (h : ∀ i, PE X e (t i)) : PE X e (tExC t) := fun pins s σ H Q I q => by
  obtain ⟨i, q⟩ := q
  exact h i pins s σ H Q I q
theorem lkC1 {x y : Str} {c a : Addr} (h : [(x, c)].lookup y = some a) : y = x ∧ a = c := by
  unfold List.lookup at h
  split at h
  · rename_i e
    exact ⟨eq_of_beq e, (Option.some.inj h).symm⟩
  · cases h
theorem lkC2 {x1 x2 y : Str} {c1 c2 a : Addr} (h : [(x1, c1), (x2, c2)].lookup y = some a) : (y = x1 ∧ a = c1) ∨ (y = x2 ∧ a = c2) := by
  unfold List.lookup at h
  split at h
  · rename_i e
    exact .inl ⟨eq_of_beq e, (Option.some.inj h).symm⟩
  · exact .inr (lkC1 h)
theorem clo_val {q : Str} {fv c cS : Addr} {fo oc : Obj} {salt : Int} (M : MadeAt q "_law_value" (defArgs s_lval) (defBody s_lval) (defScope s_lval) [("_law_salt", cS)] fv c fo oc) (hB : PinB [(fv, fo), (c, oc)] [(cS, .int salt)] base)
    (GE : GF P w K mg base CX0 3 "_law_either" ["_law_cell_here", "_law_k"] spEiX) : CloV P w K mg base fv (spVal fun x => eiN (salt + x) 6) := by
  obtain ⟨⟨doc, pm, ct, hfo⟩, hoc⟩ := M
  refine ⟨fo, _, _, hB.1 _ List.mem_cons_self, by rw [hfo], fn_clo (N := ["_law_cell_here", "_law_salt"]) (fvs := [.int salt]) hfo hoc hB ⟨rfl, rfl, rfl, by decide +kernel, rfl, rfl, by decide +kernel, fun y hy => ?_, fun y z a h1 h2 => (lkC1 h1).1.trans (lkC1 h2).1.symm⟩ rfl (fun y a h => ?_) (fun j y v h1 h2 => ?_) (fun vs H Q E h => ?_) (fun A outer s H v Q E hr h => ?_), .all fun us hl => ?_⟩
  · have e : y = "_law_salt" := (by decide +kernel : ∀ p ∈ (defScope s_lval).names, p.2 = NameKind.free → p.1 = ("_law_salt" : Str)) _ (PySem.mem_of_lookup hy) rfl
    subst e
    exact ⟨cS, rfl⟩
  · obtain ⟨_, rfl⟩ := lkC1 h
    exact ⟨_, List.mem_cons_self⟩
  · cases j with
    | zero =>
      cases h1
      cases h2
      exact ⟨rfl, cS, rfl, fun v' hm => by
        cases List.mem_singleton.mp hm
        rfl⟩
    | succ j => cases h2
  · obtain ⟨x, rfl, _⟩ := h
    rfl
  · obtain ⟨x, e, q⟩ := h
    cases e
    refine ⟨_, pss_one (ps_ret (pc GE hr (pa_cons (pe_op op_add (pv 1) (pv 0)) (pa_cons pe_int pa_nil)))), ?_⟩
    exact ⟨_, rfl, _, rfl, _, _, rfl, rfl, _, _, rfl, q⟩
  · match us, hl with
    | [u], _ => rfl
theorem clo_ask {q : Str} {fv c cL cS la : Addr} {fo oc : Obj} {salt : Int} (M : MadeAt q "_law_asked" (defArgs s_lask) (defBody s_lask) (defScope s_lask) [("_law_salt", cS), ("_law_asked_here", cL)] fv c fo oc) (ne : cS ≠ cL) (hB : PinB [(fv, fo), (c, oc)] [(cS, .int salt), (cL, .ref la)] base)
    (GE : GF P w K mg base CX0 3 "_law_either" ["_law_cell_here", "_law_k"] spEiX) : CloV P w K mg base fv (spAsk (fun x => eiN (salt + x) 6) la) := by
  obtain ⟨⟨doc, pm, ct, hfo⟩, hoc⟩ := M
  refine ⟨fo, _, _, hB.1 _ List.mem_cons_self, by rw [hfo], fn_clo (N := ["_law_cell_here", "_law_salt", "_law_asked_here"]) (fvs := [.int salt, .ref la]) hfo hoc hB ⟨rfl, rfl, rfl, by decide +kernel, rfl, rfl, by decide +kernel, fun y hy => ?_, fun y z a h1 h2 => ?_⟩ rfl (fun y a h => ?_) (fun j y v h1 h2 => ?_) (fun vs H Q E h => ?_) (fun A outer s H v Q E hr h => ?_), .all fun us hl => ?_⟩
  · have e : y = "_law_salt" ∨ y = "_law_asked_here" := (by decide +kernel : ∀ p ∈ (defScope s_lask).names, p.2 = NameKind.free → p.1 = ("_law_salt" : Str) ∨ p.1 = ("_law_asked_here" : Str)) _ (PySem.mem_of_lookup hy) rfl
    rcases e with e | e
    · subst e
      exact ⟨cS, rfl⟩
    · subst e
      exact ⟨cL, rfl⟩
  · rcases lkC2 h1 with ⟨rfl, rfl⟩ | ⟨rfl, rfl⟩
    · rcases lkC2 h2 with ⟨rfl, e⟩ | ⟨_, e⟩
      · rfl
      · exact absurd e ne
    · rcases lkC2 h2 with ⟨_, e⟩ | ⟨rfl, e⟩
      · exact absurd e.symm ne
      · rfl
  · rcases lkC2 h with ⟨_, rfl⟩ | ⟨_, rfl⟩
    · exact ⟨_, List.mem_cons_self⟩
    · exact ⟨_, List.mem_cons_of_mem _ List.mem_cons_self⟩
  · cases j with
    | zero =>
      cases h1
      cases h2
      refine ⟨rfl, cS, rfl, fun v' hm => ?_⟩
      rcases List.mem_cons.mp hm with e | e
      · cases e
        rfl
      · cases List.mem_singleton.mp e
        exact absurd rfl ne
    | succ j =>
      cases j with
      | zero =>
        cases h1
        cases h2
        refine ⟨rfl, cL, rfl, fun v' hm => ?_⟩
        rcases List.mem_cons.mp hm with e | e
        · cases e
          exact absurd rfl ne
        · cases List.mem_singleton.mp e
          rfl
      | succ j => cases h2
  · obtain ⟨x, xs, rfl, _⟩ := h
    rfl
  · obtain ⟨x, xs, e, hla, hz, q⟩ := h
    cases e
    refine ⟨_, pss_cons (ps_expr (pe_bm PySem.F.plainAttrs_list PySem.F.slot_list_append PySem.F.type_list_append mt_append (pv 2) (pa_cons (pv 0) pa_nil))) (pss_one (ps_ret (pc GE hr (pa_cons (pe_op op_add (pv 1) (pv 0)) (pa_cons pe_int pa_nil))))), ?_⟩
    refine ⟨_, rfl, .inl ⟨rfl, _, SqL.of hla⟩, _, rfl, la, xs, _, rfl, rfl, hla, ?_, _, rfl, _, rfl, _, _, rfl, rfl, _, _, rfl, q⟩
    exact Nat.lt_of_lt_of_le hz (by decide)
  · match us, hl with
    | [u], _ => rfl
end
end K22
set_option maxHeartbeats 4000000
namespace K22
open PySem L2 Lo St
section
variable {P : Program} {w : World} {K : PySem.W.Frag} {mg : Str → Option Value} {base : Heap} {f CL : Addr} {fd : FuncData} {C : Kd → Addr} {CW : Wd → Addr}
theorem run_in {a : Int} {n : Nat} {o : Int} (h : o ∈ runN a n) : a ≤ o ∧ o < a + n := by
  obtain ⟨i, hi, rfl⟩ := List.mem_map.mp h
  have := List.mem_range.mp hi
  omega
theorem ask_in {wd : Wd} {ns : List Int} {o : Int} (ar : Ar wd ns) (h : o ∈ askN wd ns) : ∃ lo hi k, ns[1]? = some lo ∧ lockO wd ns = some (k, lo, hi) ∧ lo ≤ o ∧ o ≤ hi := by
  unfold Ar at ar
  split at ar
  · obtain rfl := List.mem_singleton.mp h
    exact ⟨_, _, _, rfl, rfl, Int.le_refl _, Int.le_refl _⟩
  · obtain rfl := List.mem_singleton.mp h
    exact ⟨_, _, _, rfl, rfl, Int.le_refl _, Int.le_refl _⟩
  · cases h
  · obtain ⟨h1, h2⟩ := run_in h
    have h3 := ar.2.2.2
    exact ⟨_, _, _, rfl, rfl, h1, by omega⟩
  · obtain rfl := List.mem_singleton.mp h
    exact ⟨_, _, _, rfl, rfl, Int.le_refl _, Int.le_refl _⟩
  · cases h
  · cases h
  · exact ar.elim
theorem res_kp {la : Addr} {H H' : Hp} {xs : List V} {r : Int × List (Int × Int)} {u : V} (hl : H la = some (.lst xs)) (k : Kp la H H') (h : resT H r u) : resT H' r u := by
  have ne : ∀ {b : Addr} {ys : List V}, H b = some (.tup ys) → b ≠ la := fun e z => by
    rw [z, hl] at e
    cases e
  obtain ⟨t, a, rfl, ht, ha⟩ := h
  refine ⟨t, a, rfl, k _ _ (ne ht) ht, ?_⟩
  obtain ⟨h0, cs⟩ := r
  cases cs with
  | nil =>
    have ha : H a = some (.tup []) := ha
    exact k _ _ (ne ha) ha
  | cons c cs =>
    obtain ⟨b, e1, e2⟩ := ha
    exact ⟨b, k _ _ (ne e1) e1, k _ _ (ne e2) e2⟩
theorem pass_no {X : Cx} {P : Program} {w : World} : Passes (CXE P w) X (fun _ _ _ => False) := fun _ _ _ _ _ _ _ h => by
  obtain ⟨ea, C, H', h1, h2, h3, h4, h5, h6, q⟩ := h
  exact q.elim
def spLaw22 (K : PySem.W.Frag) (Pt : Addr) : Sp := fun vs H Q _ => ∃ a ns, vs = [.ref a] ∧ SqL K H a ((ns : List Int).map V.int) ∧ ns.length ≤ 63 ∧ H Pt = some (.tbl #[]) ∧ ∀ H', Q (.bl true) H'
theorem ok_law {cc Pt fD fR CN : Addr} {dD dR : FuncData} {fS : Wd → Addr} {dS : Wd → FuncData} (F : Fun K "law" "law" s_law f fd) (B : TxB mg) (T : TxW K CW) (hB : BB mg base) (hcc : fd.code = .ref cc) (hC : PySem.W.codeHdIn K cc Pt = true)
    (GA : GF P w K mg base CX0 1 "_law_cell" ["_law_script", "_law_k"] (spCell K)) (GE : GF P w K mg base CX0 3 "_law_either" ["_law_cell_here", "_law_k"] spEiX) (GS : GF P w K mg base CX0 4 "_law_step" ["_law_cell_here"] spLStep) (GN : GF P w K mg base CX0 2 "_law_near" ["_law_step_here", "_law_cell_here", "_law_hand"] spNear)
    (GMa : GF P w K mg base CX0 5 "_law_made" ["_law_step_here"] (spLMade CW)) (GL : ∀ wd, GM P w K mg base CX0 3 (CW wd) "lock" ["self"] (spSLock CW K wd)) (GK : GF P w K mg base CX0 2 "_law_alike" ["_law_found", "_law_due_here"] spAlike)
    (GEB : ∀ Bh : Heap, K.In Bh → GF P w K mg Bh CX0 3 "_law_either" ["_law_cell_here", "_law_k"] spEiX)
    (HD : ∀ (Bh : Heap) (fv : Addr) (val : Int → Int), K.In Bh → CloV P w K mg Bh fv (spVal val) → FnOk P w K mg Bh CX0 5 fD dD ["_law_step_here", "_law_hand", "_law_value_of"] (spDue val fv)) (bD : Binds K dD ["_law_step_here", "_law_hand", "_law_value_of"] []) (kD : PySem.W.keepIn K (.ref fD) = true) (mD : mg "_law_due" = some (.ref fD))
    (HR : ∀ (Bh : Heap) (fa : Addr) (val : Int → Int) (la : Addr), K.In Bh → CloV P w K mg Bh fa (spAsk val la) → FnOk P w K mg Bh CX0 6 fR dR ["_law_made_here", "_law_hand", "_law_value_of"] (spRef CW val la fa)) (bR : Binds K dR ["_law_made_here", "_law_hand", "_law_value_of"] []) (kR : PySem.W.keepIn K (.ref fR) = true) (mR : mg "_law_refused" = some (.ref fR))
    (HS : ∀ (wd : Wd) (Bh : Heap) (fa : Addr) (val : Int → Int) (la : Addr), K.In Bh → CloV P w K mg Bh fa (spAsk val la) → FnOk P w K mg Bh (CXE P w) 5 (fS wd) (dS wd) ["self", "hand", "value_of"] (spDone CW val la fa CN wd)) (mS : ∀ wd, Meth K (CW wd) "step_done" (fS wd)) (bS : ∀ wd, Binds K (dS wd) ["self", "hand", "value_of"] []) :
    FnOk P w K mg base CX0 7 f fd ["_law_script"] (spLaw22 K Pt) := by
  refine F.okC sc_law (fun vs H Q E h => ?_) (fun A outer s H vs Q E hr h => ?_)
  · obtain ⟨a, ns, rfl, _⟩ := h
    rfl
  obtain ⟨a, ns, rfl, hS, hl, hP, q⟩ := h
  have nd := sc_law.nd
  have ne : s.heap.objs.size + 2 ≠ s.heap.objs.size + 1 := by omega
  have hr5 : Room 5 _ := hr.mono (by decide)
  refine ⟨_, pss_cons (ps_set (i := 1) nd rfl (Or.inr rfl) (pe_op op_mod (pc GA hr (pa_cons (pv 0) (pa_cons pe_int pa_nil))) pe_int))
    (pss_cons (ps_set (i := 2) nd rfl (Or.inl rfl) (pc GE hr (pa_cons (pv 1) (pa_cons pe_int pa_nil))))
    (pss_cons (ps_set (i := 3) nd rfl (Or.inr rfl) (pe_lst pa_nil))
    (pss_def (i := 4) hcc hC hB rfl (clos := [("_law_salt", s.heap.objs.size + 2)]) rfl rfl rfl rfl nd rfl rfl (fun fv cv fo oc Mv =>
    (pss_def (i := 5) hcc hC hB rfl (clos := [("_law_salt", s.heap.objs.size + 2), ("_law_asked_here", s.heap.objs.size + 1)]) rfl rfl rfl rfl nd rfl rfl (fun fa ca fo2 oc2 Ma =>
    pss_cons (ps_for PassesOwn.never rfl (pi_list (pe_slice sl_list (pv 0) (po_some pe_int) (po_some pe_int))) (pg_name (i := 6) nd rfl (Or.inl rfl))
      (pss_cons (ps_set (i := 7) nd rfl (Or.inl rfl) (pc GN hr (pa_cons (pc GS hr (pa_cons (pv 6) pa_nil)) (pa_cons (pv 6) (pa_cons (pv 2) pa_nil)))))
      (pss_cons (ps_set (i := 8) nd rfl (Or.inl rfl) (pc GMa hr (pa_cons (pv 7) pa_nil)))
      (pss_cons (ps_set (i := 9) nd rfl (Or.inl rfl) (pe_callV (cs := [(s.heap.objs.size + 2, .int (cellAt ns 0 % 1000003))]) (pp := [(fv, fo), (cv, oc)]) (fun Bh kin pb => HD Bh fv _ kin (clo_val Mv pb (GEB Bh kin))) hr5 rfl mD kD bD pass0 (fun p hp => List.mem_append_right _ (List.mem_append_left _ hp)) (pa_cons (pv 7) (pa_cons (pv 2) (pa_cons (pv 4) pa_nil)))))
      (pss_one (ps_if (pt_cmpR op_isN (pv 9) pe_non (nomark _))
        (pss_one (ps_if (PW.pt (pw_or (pt_not (pt_val (pe_exC fun la : Addr => pe_callV (cs := [(s.heap.objs.size + 2, .int (cellAt ns 0 % 1000003)), (s.heap.objs.size + 1, .ref la)]) (pp := [(fa, fo2), (ca, oc2)]) (fun Bh kin pb => HR Bh fa _ la kin (clo_ask Ma ne pb (GEB Bh kin))) hr rfl mR kR bR pass0 (fun p hp => List.mem_append_left _ hp) (pa_cons (pv 8) (pa_cons (pv 2) (pa_cons (pv 5) pa_nil))))))
          (pw_or1 (pt_cmpR (op_neL cInt (hun hr)) (pv 3) (pe_lst pa_nil) (nomark _))))) pss_never pss_nil))
        (pss_cons (ps_if (pt_not (pt_val (pc GK hr (pa_cons (pe_exC fun lw : Addr × Wd => pe_methV (cs := [(s.heap.objs.size + 2, .int (cellAt ns 0 % 1000003)), (s.heap.objs.size + 1, .ref lw.1)]) (pp := [(fa, fo2), (ca, oc2)]) (pv 8) (T.cl lw.2) (mS lw.2) (fun Bh kin pb => HS lw.2 Bh fa _ lw.1 kin (clo_ask Ma ne pb (GEB Bh kin))) hr5 (bS lw.2) pass_no (fun p hp => List.mem_append_left _ hp) (pa_cons (pv 2) (pa_cons (pv 5) pa_nil))) (pa_cons (pv 9) pa_nil))))) pss_never pss_nil)
        (pss_cons (ps_for PassesOwn.never rfl (pi_list (pv 3)) (pg_name (i := 10) nd rfl (Or.inl rfl))
          (pss_one (ps_if (PW.pt (pw_or (pt_cmpR op_lt (pe_callB call_len_seq rfl B.len PySem.boot_len (pa_cons (pv 7) pa_nil)) pe_int (nomark _)) (pw_or (pt_cmpR op_lt (pv 10) (pe_ix (r := rIxT K) ix_tup (pv 7) pe_int (fun _ _ => rfl)) (nomark _)) (pw_or1 (pt_cmpR op_gt (pv 10) (pe_ix (r := rIxT K) ix_tup (pe_exC fun wd : Wd => pm0 (GL wd) (pv 8) (T.cl wd) hr) pe_int (fun _ _ => rfl)) (nomark _)))))) pss_never pss_nil)))
        (pss_cons (ps_expr (pe_bm0 PySem.F.plainAttrs_list PySem.F.slot_list_clear PySem.F.type_list_clear mt_clear (pv 3)))
        (pss_one (ps_set (i := 2) nd rfl (Or.inl rfl) (pe_ix (r := rIxT K) ix_tup (pv 9) pe_int (fun _ _ => rfl)))))))))))))
    (pss_one (ps_ret pe_bl)))))))), ?_⟩
  have z0 : 0 ≤ sizeLine := by decide
  refine ⟨_, rfl, a, ns, 0, rfl, hS, _, _, rfl, rfl, (by show (0 : Int) < 1000003; decide), _, rfl, _, _, rfl, z0, fun la hla => ?_⟩
  have hSa := (same_new (o := .lst []) hla).x.seq hS
  have hPa := same_new (o := .lst []) hla _ _ hP
  have hLa : (upd H la (.lst [])) la = some (.lst []) := upd_same
  generalize (upd H la (.lst [])) = Ha at hSa hPa hLa ⊢
  have tabX : ∀ {H1 : Hp} {ps qs : Array Value}, H1 Pt = some (.tbl ps) → SameX H1 (upd H1 Pt (.tbl qs)) := fun e b o n h => by
    by_cases z : b = Pt
    · subst z
      rw [e] at h
      cases h
      exact n.elim
    · rw [upd_ne z]
      exact h
  refine ⟨#[], hPa, trivial, rfl, fun fv cv fo oc Mv => ⟨_, upd_same, ?_, ?_, fun fa ca fo2 oc2 Ma => ?_⟩⟩
  · simp [TriplesOk, rawInt]
  · simp [codeAmong, rawInt]
  generalize hHb : (upd (upd Ha Pt (.tbl (#[] ++ #[rawInt _, rawInt _, .ref cv]))) Pt (.tbl _)) = Hb
  have sx : SameX Ha Hb := by
    rw [← hHb]
    exact (tabX hPa).trans (tabX upd_same)
  have hSb := sx.seq hSa
  have hLb := sx la (.lst []) trivial hLa
  clear hHb sx tabX
  obtain ⟨cs, ecs, lcs⟩ := cut_ints ns (some 1) (some 9)
  refine ⟨_, rfl, _, rfl, _, rfl, a, _, rfl, hSb, fun l hl0 => ?_⟩
  rw [ecs]
  have hLc := same_new (o := .lst (cs.map V.int)) hl0 _ _ hLb
  have hlc : (upd Hb l (.lst (cs.map V.int))) l = some (.lst (cs.map V.int)) := upd_same
  have nl : l ≠ la := fun z => by
    rw [z, hLb] at hl0
    cases hl0
  generalize (upd Hb l (.lst (cs.map V.int))) = Hc at hLc hlc ⊢
  refine ⟨l, rfl, ⟨_, SqL.of hlc⟩, ?_⟩
  generalize hsalt : cellAt ns 0 % 1000003 = salt
  refine for_list (xs := cs.map V.int) (fun i σ H' => H' la = some (.lst []) ∧ H' l = some (.lst (cs.map V.int)) ∧ ∃ (hand : Int) (x6 x7 x8 x9 x10 : Option V), σ = [some (.ref a), some (.int salt), some (.int hand), some (.ref la), some (.ref fv), some (.ref fa), x6, x7, x8, x9, x10])
    ⟨hLc, hlc, _, none, none, none, none, none, by rw [← hsalt]; rfl⟩ (fun i σ H' _ z => SqL.of z.2.1) ?_ (fun σ H' _ => q H')
  rintro i u σ H1 hu ⟨h1, h2, hand, x6, x7, x8, x9, x10, rfl⟩
  obtain ⟨c, rfl⟩ : ∃ c, u = V.int c := by
    rw [List.getElem?_map] at hu
    cases e : cs[i]? with
    | none => rw [e] at hu; cases hu
    | some c => rw [e] at hu; cases hu; exact ⟨c, rfl⟩
  refine ⟨_, rfl, c, rfl, fun wd ns1 v H2 ar s2 st => ⟨_, rfl, _, rfl, wd, ns1, v, c, hand, rfl, st, ar, fun ns2 v2 H3 ar2 nr s3 st2 => ?_⟩⟩
  refine ⟨_, rfl, wd, ns2, v2, rfl, st2, ar2, fun u8 H4 s4 so => ?_⟩
  have s14 := s2.trans (s3.trans s4)
  have h1d := s14 _ _ h1
  have h2d := s14 _ _ h2
  obtain ⟨a8, dx8, rfl, ha8⟩ := so
  obtain ⟨b7, rfl, hb7⟩ := st2
  have hb74 := s4 _ _ hb7
  have st4 : tSt H4 wd ns2 (.ref b7) := ⟨b7, rfl, hb74⟩
  have no8 : ∀ m : Str, ¬ m = "where" → ¬ m = "cell" → ¬ m = "low" → ¬ m = "high" → ¬ m = "amount" → (fsOf wd ns2).lookup m = none := fun m q1 q2 q3 q4 q5 => fs_no q1 q2 q3 q4 q5 wd ns2
  refine ⟨fun p hm => ?_, _, rfl, _, rfl, _, rfl, wd, ns2, .ref b7, hand, rfl, st4, ar2, nr, fun r hdn u9 H5 s5 rt => ?_, fun hn => ?_⟩
  · cases List.mem_singleton.mp hm
    exact ⟨1, "_law_salt", rfl, rfl, rfl, rfl, rfl⟩
  · obtain ⟨t9, a9, rfl, ht9, hc9⟩ := id rt
    refine ⟨_, rfl, rfl, _, rfl, ite2 (fun c => absurd (of_decide_eq_true c) (by intro z; cases z)) (fun _ => ?_)⟩
    have h1e := s5 _ _ h1d
    refine ⟨(la, wd), fun p hm => ?_, _, rfl, a8, dx8, _, rfl, s5 _ _ ha8, no8 _ (by decide +kernel) (by decide +kernel) (by decide +kernel) (by decide +kernel) (by decide +kernel), _, rfl, _, rfl, _, ns2, hand, rfl, ar2, nr, ⟨a8, dx8, rfl, s5 _ _ ha8⟩, h1e, fun r2 hd2 u10 H6 k6 e6 rt6 => ?_, fun hn => ?_⟩
    · rcases List.mem_cons.mp hm with e | e
      · cases e
        exact ⟨1, "_law_salt", rfl, rfl, rfl, rfl, rfl⟩
      · cases List.mem_singleton.mp e
        exact ⟨3, "_law_asked_here", rfl, rfl, rfl, rfl, rfl⟩
    · rw [hdn] at hd2
      cases hd2
      refine ⟨_, rfl, u10, _, r, rfl, rt6, res_kp h1e k6 rt, _, rfl, iteF ?_⟩
      have neL : ∀ {b : Addr} {x : HO}, (∀ xs, x ≠ .lst xs) → H5 b = some x → b ≠ la := fun hx e z => by
        rw [z, h1e] at e
        cases e
        exact hx _ rfl
      have hb76 := k6 _ _ (neL (by intro xs z; cases z) (s5 _ _ hb74)) (s5 _ _ hb74)
      have ha86 := k6 _ _ (neL (by intro xs z; cases z) (s5 _ _ ha8)) (s5 _ _ ha8)
      have ht96 := k6 _ _ (neL (by intro xs z; cases z) ht9) ht9
      have nt9 := neL (by intro xs z; cases z) ht9
      have h26 := k6 _ _ nl (s5 _ _ h2d)
      refine ⟨_, rfl, la, rfl, ⟨_, SqL.of e6⟩, ?_⟩
      refine for_list (xs := (askN wd ns2).map V.int) (fun j σ H' => Same H6 H' ∧ ∃ y, σ = [some (.ref a), some (.int salt), some (.int hand), some (.ref la), some (.ref fv), some (.ref fa), some (.int c), some (.ref b7), some (.ref a8), some (.ref t9), y]) ⟨Same.refl _, x10, rfl⟩ (fun j σ H' _ z => SqL.of (z.1 _ _ e6)) ?_ ?_
      · rintro j u σ H7 hu ⟨s7, y, rfl⟩
        obtain ⟨o, ho, rfl⟩ := List.mem_map.mp (List.mem_of_getElem? hu)
        obtain ⟨lo, hi, k, e1, e2, g1, g2⟩ := ask_in ar2 ho
        have ln : 1 < ns2.length := (List.getElem?_eq_some_iff.mp e1).1
        have at2 : atI (V.str (wS wd) :: ns2.map V.int) 2 = some (.int lo) := atI_nat (j := 2) (by
          rw [List.getElem?_cons_succ, List.getElem?_map, e1]
          rfl)
        refine ⟨_, rfl, b7, _, rfl, .inr (SqT.of (s7 _ _ hb76)), _, _, rfl, rfl, _, rfl, ite2 (fun c' => absurd (of_decide_eq_true c') ?_) (fun _ => ?_)⟩
        · show ¬ (((V.str (wS wd) :: ns2.map V.int).length : Nat) : Int) < 3
          rw [List.length_cons, List.length_map]
          omega
        refine ⟨_, rfl, _, rfl, b7, _, _, _, rfl, rfl, SqT.of (s7 _ _ hb76), at2, _, _, rfl, rfl, _, rfl, ite2 (fun c' => absurd (of_decide_eq_true c') (show ¬ o < lo by omega)) (fun _ => ?_)⟩
        refine ⟨_, rfl, wd, _, rfl, a8, dx8, _, rfl, s7 _ _ ha86, no8 _ (by decide +kernel) (by decide +kernel) (by decide +kernel) (by decide +kernel) (by decide +kernel), _, ns2, rfl, ar2, ⟨a8, dx8, rfl, s7 _ _ ha86⟩, fun u11 H8 s8 ol => ?_⟩
        rw [e2] at ol
        obtain ⟨tl, rfl, htl⟩ := ol
        exact ⟨tl, _, _, _, rfl, rfl, SqT.of htl, rfl, _, _, rfl, rfl, _, rfl, ite2 (fun c' => absurd (of_decide_eq_true c') (show ¬ hi < o by omega)) (fun _ => ⟨s7.trans s8, _, rfl⟩)⟩
      · rintro σ H7 ⟨s7, y, rfl⟩
        refine ⟨_, rfl, .inl ⟨rfl, _, SqL.of (s7 _ _ e6)⟩, la, _, rfl, rfl, s7 _ _ e6, ?_⟩
        exact ⟨_, rfl, t9, _, _, _, rfl, rfl, SqT.of ((upd_ne nt9).trans (s7 _ _ ht96)), rfl, upd_same, (upd_ne nl).trans (s7 _ _ h26), r.1, _, _, _, _, _, rfl⟩
    · rw [hdn] at hn
      cases hn
  · refine ⟨_, rfl, rfl, _, rfl, ite2 (fun _ => ?_) (fun c' => absurd (decide_eq_true rfl) c')⟩
    refine ⟨la, fun p hm => ?_, _, rfl, _, rfl, _, rfl, wd, ns2, _, hand, rfl, ar2, nr, ⟨a8, dx8, rfl, ha8⟩, h1d, hn, fun H6 s6 => ⟨_, rfl, iteF ?_⟩⟩
    · rcases List.mem_cons.mp hm with e | e
      · cases e
        exact ⟨1, "_law_salt", rfl, rfl, rfl, rfl, rfl⟩
      · cases List.mem_singleton.mp e
        exact ⟨3, "_law_asked_here", rfl, rfl, rfl, rfl, rfl⟩
    · exact ⟨_, rfl, z0, fun l2 hl2 => ⟨[], [], ⟨la, [], rfl, SqL.of (same_new hl2 _ _ (s6 _ _ h1d)), .nil⟩, ⟨l2, [], rfl, SqL.of upd_same, .nil⟩, _, rfl, iteF ⟨same_new hl2 _ _ (s6 _ _ h1d), same_new hl2 _ _ (s6 _ _ h2d), hand, _, _, _, _, _, rfl⟩⟩⟩
end
end K22
section
set_option maxHeartbeats 0
open PySem PySem.W PyProof.Rows
lay_quick PySem.Challenge.pw_pactroom_k22_a_step_done
namespace Q
noncomputable section
noncomputable abbrev vT : Value := Value.bool true
noncomputable abbrev vF : Value := Value.bool false
noncomputable abbrev A {α : Type} (l : List α) : Array α := Array.mk l
noncomputable abbrev E {α : Type} : Array α := Array.mk []
noncomputable abbrev vn : Value := Value.none
noncomputable abbrev vr (n : Nat) : Value := Value.ref n
noncomputable abbrev sr (n : Nat) : Option Value := some (Value.ref n)
noncomputable abbrev vi (a : Int) (n : Nat) : Value := Value.int a n
noncomputable abbrev vs (q : Str) (n : Nat) : Value := Value.str q n
noncomputable abbrev de (P : Params) (q : Str) (n : Nat) (v : Value) : DictEntry := DictEntry.mk (PyData.keyHash P q) (Value.str q n) v
noncomputable abbrev nd (o : Obj) (a b : BT) : BT := .node o a b
noncomputable abbrev l1 (o : Obj) : BT := .node o .nil .nil
abbrev S (l : List Nat) : Str := @Str.mk (Array.mk l)
abbrev q0:=S [60,109,111,100,117,108,101,62]
abbrev q1:=S [47,99,108,97,105,109,47,99,117,116,46,112,121]
abbrev q2:=S [95,95,109,97,105,110,95,95]
abbrev q3:=S [95,95,110,97,109,101,95,95]
abbrev q4:=S [112,97,99,116,114,111,111,109,46,101,114,114,111,114,115]
abbrev q5:=S [95,95,100,111,99,95,95]
abbrev q6:=S [95,95,112,97,99,107,97,103,101,95,95]
abbrev q7:=S [95,95,108,111,97,100,101,114,95,95]
abbrev q8:=S [95,95,115,112,101,99,95,95]
abbrev q9:=S [95,95,97,110,110,111,116,97,116,105,111,110,115,95,95]
abbrev q10:=S [95,95,98,117,105,108,116,105,110,115,95,95]
abbrev q11:=S [95,95,102,105,108,101,95,95]
abbrev q12:=S [95,95,99,97,99,104,101,100,95,95]
abbrev q13:=S [95,119,97,108,108]
abbrev q14:=S [80,97,99,116,69,114,114,111,114]
abbrev q15:=S [78,111,78,101,101,100]
abbrev q16:=S [107]
abbrev q17:=S [95,95,109,111,100,117,108,101,95,95]
abbrev q18:=S [95,95,113,117,97,108,110,97,109,101,95,95]
abbrev q19:=S [95,95,102,105,114,115,116,108,105,110,101,110,111,95,95]
abbrev q20:=S [95,95,115,116,97,116,105,99,95,97,116,116,114,105,98,117,116,101,115,95,95]
abbrev q21:=S [95,95,119,101,97,107,114,101,102,95,95]
abbrev q22:=S [78,111,84,101,120,116]
abbrev q23:=S [78,111,80,108,97,99,101]
abbrev q24:=S [95,95,105,110,105,116,95,95]
abbrev q25:=S [115,101,108,102]
abbrev q26:=S [97,116]
abbrev q27:=S [78,111,84,101,120,116,46,95,95,105,110,105,116,95,95]
abbrev q28:=S [78,111,80,108,97,99,101,46,95,95,105,110,105,116,95,95]
abbrev q29:=S [112,97,99,116,114,111,111,109,46,107,105,110,100,115]
abbrev q30:=S [78,111,87,97,121,66,97,99,107]
abbrev q31:=S [78,111,70,105,116]
abbrev q32:=S [78,111,87,97,121,66,97,99,107,46,95,95,105,110,105,116,95,95]
abbrev q33:=S [78,111,70,105,116,46,95,95,105,110,105,116,95,95]
abbrev q34:=S [76,111,99,107]
abbrev q35:=S [107,105,110,100]
abbrev q36:=S [98,101,115,105,100,101]
abbrev q37:=S [99,111,118,101,114,115]
abbrev q38:=S [116,111,108,100]
abbrev q39:=S [102,105,114,115,116]
abbrev q40:=S [108,97,115,116]
abbrev q41:=S [76,111,99,107,46,95,95,105,110,105,116,95,95]
abbrev q42:=S [76,111,99,107,46,107,105,110,100]
abbrev q43:=S [111,116,104,101,114]
abbrev q44:=S [76,111,99,107,46,98,101,115,105,100,101]
abbrev q45:=S [76,111,99,107,46,99,111,118,101,114,115]
abbrev q46:=S [76,111,99,107,46,116,111,108,100]
abbrev q47:=S [95,95,100,105,99,116,95,95]
abbrev q48:=S [82,101,97,100]
abbrev q49:=S [77,101,97,110]
abbrev q50:=S [82,101,97,100,46,107,105,110,100]
abbrev q51:=S [77,101,97,110,46,107,105,110,100]
abbrev q52:=S [112,97,99,116,114,111,111,109,46,115,116,101,112,115]
abbrev q53:=S [67,104,97,110,103,101]
abbrev q54:=S [67,104,97,110,103,101,46,107,105,110,100]
abbrev q55:=S [83,116,101,112]
abbrev q56:=S [104,111,117,115,101]
abbrev q57:=S [108,111,99,107]
abbrev q58:=S [115,116,101,112,95,100,111,110,101]
abbrev q59:=S [98,97,99,107]
abbrev q60:=S [115,117,114,101]
abbrev q61:=S [115,112,101,108,108,101,100]
abbrev q62:=S [83,116,101,112,46,104,111,117,115,101]
abbrev q63:=S [83,116,101,112,46,108,111,99,107]
abbrev q64:=S [104,97,110,100]
abbrev q65:=S [118,97,108,117,101,95,111,102]
abbrev q66:=S [83,116,101,112,46,115,116,101,112,95,100,111,110,101]
abbrev q67:=S [83,116,101,112,46,98,97,99,107]
abbrev q68:=S [83,116,101,112,46,115,117,114,101]
abbrev q69:=S [83,116,101,112,46,115,112,101,108,108,101,100]
abbrev q70:=S [67,101,108,108,83,116,101,112]
abbrev q71:=S [119,104,101,114,101]
abbrev q72:=S [99,101,108,108]
abbrev q73:=S [67,101,108,108,83,116,101,112,46,95,95,105,110,105,116,95,95]
abbrev q74:=S [67,101,108,108,83,116,101,112,46,104,111,117,115,101]
abbrev q75:=S [84,97,107,101,83,116,101,112]
abbrev q76:=S [84,97,107,101,83,116,101,112,46,108,111,99,107]
abbrev q77:=S [84,97,107,101,83,116,101,112,46,115,116,101,112,95,100,111,110,101]
abbrev q78:=S [84,97,107,101,83,116,101,112,46,115,112,101,108,108,101,100]
abbrev q79:=S [77,101,97,110,83,116,101,112]
abbrev q80:=S [77,101,97,110,83,116,101,112,46,108,111,99,107]
abbrev q81:=S [77,101,97,110,83,116,101,112,46,115,116,101,112,95,100,111,110,101]
abbrev q82:=S [77,101,97,110,83,116,101,112,46,115,112,101,108,108,101,100]
abbrev q83:=S [83,117,109,83,116,101,112]
abbrev q84:=S [108,111,119]
abbrev q85:=S [104,105,103,104]
abbrev q86:=S [83,117,109,83,116,101,112,46,95,95,105,110,105,116,95,95]
abbrev q87:=S [83,117,109,83,116,101,112,46,104,111,117,115,101]
abbrev q88:=S [83,117,109,83,116,101,112,46,108,111,99,107]
abbrev q89:=S [83,117,109,83,116,101,112,46,115,116,101,112,95,100,111,110,101]
abbrev q90:=S [83,117,109,83,116,101,112,46,115,112,101,108,108,101,100]
abbrev q91:=S [71,105,118,101,83,116,101,112]
abbrev q92:=S [71,105,118,101,83,116,101,112,46,108,111,99,107]
abbrev q93:=S [71,105,118,101,83,116,101,112,46,115,116,101,112,95,100,111,110,101]
abbrev q94:=S [71,105,118,101,83,116,101,112,46,115,117,114,101]
abbrev q95:=S [71,105,118,101,83,116,101,112,46,115,112,101,108,108,101,100]
abbrev q96:=S [65,100,100,83,116,101,112]
abbrev q97:=S [97,109,111,117,110,116]
abbrev q98:=S [65,100,100,83,116,101,112,46,95,95,105,110,105,116,95,95]
abbrev q99:=S [65,100,100,83,116,101,112,46,108,111,99,107]
abbrev q100:=S [65,100,100,83,116,101,112,46,115,116,101,112,95,100,111,110,101]
abbrev q101:=S [65,100,100,83,116,101,112,46,98,97,99,107]
abbrev q102:=S [65,100,100,83,116,101,112,46,115,112,101,108,108,101,100]
abbrev q103:=S [80,108,117,115,83,116,101,112]
abbrev q104:=S [80,108,117,115,83,116,101,112,46,95,95,105,110,105,116,95,95]
abbrev q105:=S [80,108,117,115,83,116,101,112,46,115,116,101,112,95,100,111,110,101]
abbrev q106:=S [80,108,117,115,83,116,101,112,46,115,112,101,108,108,101,100]
abbrev q107:=S [108,97,119,95,112,97,99,116,114,111,111,109,95,107,50,50,95,97,95,115,116,101,112,95,100,111,110,101]
abbrev q108:=S [78,101,101,100,83,116,101,112]
abbrev q109:=S [95,108,97,119,95,99,101,108,108]
abbrev q110:=S [95,108,97,119,95,119,104,111,108,101]
abbrev q111:=S [95,108,97,119,95,109,105,120,101,100]
abbrev q112:=S [95,108,97,119,95,110,117,109,98,101,114]
abbrev q113:=S [95,108,97,119,95,101,105,116,104,101,114]
abbrev q114:=S [95,108,97,119,95,115,116,101,112]
abbrev q115:=S [95,108,97,119,95,116,101,120,116]
abbrev q116:=S [78,101,101,100,83,116,101,112,46,95,95,105,110,105,116,95,95]
abbrev q117:=S [78,101,101,100,83,116,101,112,46,115,116,101,112,95,100,111,110,101]
abbrev q118:=S [78,101,101,100,83,116,101,112,46,115,112,101,108,108,101,100]
abbrev q119:=S [95,108,97,119,95,115,99,114,105,112,116]
abbrev q120:=S [95,108,97,119,95,107]
abbrev q121:=S [95,108,97,119,95,102,111,117,110,100]
abbrev q122:=S [95,108,97,119,95,99,101,108,108,95,104,101,114,101]
abbrev q123:=S [95,108,97,119,95,110,117,109,98,101,114,95,104,101,114,101]
abbrev q124:=S [95,108,97,119,95,106]
abbrev q125:=S [95,108,97,119,95,119,111,114,100]
abbrev q126:=S [95,108,97,119,95,119,104,101,114,101]
abbrev q127:=S [95,108,97,119,95,111,110,101]
abbrev q128:=S [95,108,97,119,95,111,116,104,101,114]
abbrev q129:=S [95,108,97,119,95,109,97,100,101]
abbrev q130:=S [95,108,97,119,95,110,101,97,114]
abbrev q131:=S [95,108,97,119,95,100,117,101]
abbrev q132:=S [95,108,97,119,95,97,108,105,107,101]
abbrev q133:=S [95,108,97,119,95,114,101,102,117,115,101,100]
abbrev q134:=S [108,97,119]
abbrev q135:=S [95,108,97,119,95,115,116,101,112,95,104,101,114,101]
abbrev q136:=S [95,108,97,119,95,104,97,110,100]
abbrev q137:=S [95,108,97,119,95,108,111,119]
abbrev q138:=S [95,108,97,119,95,100,117,101,95,104,101,114,101]
abbrev q139:=S [95,108,97,119,95,112,97,105,114]
abbrev q140:=S [95,108,97,119,95,109,97,100,101,95,104,101,114,101]
abbrev q141:=S [95,108,97,119,95,118,97,108,117,101,95,111,102]
abbrev q142:=S [101]
abbrev q143:=S [95,108,97,119,95,118,97,108,117,101]
abbrev q144:=S [95,108,97,119,95,97,115,107,101,100]
abbrev q145:=S [95,108,97,119,95,97,115,107,101,100,95,104,101,114,101]
abbrev q146:=S [95,108,97,119,95,115,97,108,116]
noncomputable abbrev y0 : Value := (@Value.type SL.s2766695959194262286x5)
noncomputable abbrev y1 : Value := (@Value.type SL.s5856160107412720595x4)
noncomputable abbrev y2 : Value := (@Value.type SL.s658472552662922059x5)
noncomputable abbrev y3 : Value := (@Value.type SL.s14018661285674007319x4)
noncomputable abbrev y4 : Value := (@Value.builtin SL.s7097527257260152453x26)
noncomputable abbrev y5 : Value := (@Value.type SL.s7174869446012820540x8)
noncomputable abbrev y6 : Value := (@Value.type SL.s6070975301684473832x10)
noncomputable abbrev y7 : Value := (@Value.type SL.s11030030927630378310x26)
noncomputable abbrev y8 : Value := (@Value.builtin SL.s10062305145149207511x16)
noncomputable abbrev y9 : Value := (@Value.type SL.s17162191345867700912x4)
noncomputable abbrev y10 : Value := (@Value.type SL.s5946037652744460706x9)
noncomputable abbrev y11 : Value := (@Value.type SL.s4278001404047624695x13)
noncomputable abbrev y12 : Value := (@Value.type SL.s2742458400755230247x6)
noncomputable abbrev y13 : Value := (@Value.builtin SL.s4209523147560561109x18)
noncomputable abbrev y14 : Value := (@Value.type SL.s14755015743595814543x17)
noncomputable abbrev y15 : Value := (@Value.builtin SL.s10220274742760427390x26)
noncomputable abbrev y16 : Value := (@Value.type SL.s4290257624100764138x5)
noncomputable abbrev y17 : Value := (@Value.builtin SL.s4860613602091757760x24)
noncomputable abbrev y18 : Value := (@Value.builtin SL.s11443829558043349243x14)
noncomputable abbrev y19 : Value := (@Value.builtin SL.s6511155373996960695x17)
noncomputable abbrev y20 : Value := (@Value.builtin SL.s12411053484034534018x21)
noncomputable abbrev p0 : Program := PySem.Challenge.pw_pactroom_k22_a_step_done
noncomputable abbrev pq : Program := PySem.W.Fast.tw1413766164283643056
theorem pe : p0 = pq := PySem.W.Fast.te1413766164283643056
noncomputable def B (i : Nat) : Stmt := pq.main.body.getD i (.Pass ⟨0, 0, 0, 0⟩)
noncomputable def T (i : Nat) : Stmt := p0.main.body.getD i (.Pass ⟨0, 0, 0, 0⟩)
noncomputable def M (k j : Nat) : Stmt := L2.inClass (B k) j
noncomputable def N (k j : Nat) : Stmt := L2.inClass (T k) j
noncomputable abbrev fk (a b : Str) (s : Stmt) := FuncData.mk a b (L2.defArgs s) (.stmts (L2.defBody s)) (L2.defScope s)
section
variable (P : Params)
def a11:=Obj.mk y0 none (Data.seq E 0) E
def a12:=Obj.mk vn none (Data.fields E) E
def m0 (x0 : Str) (x1 : Nat) (x2 : Nat) (x3 : Nat) (x4 : Int) (x5 : Nat) (x6 : Nat) (x7 : Int) (x8 : Nat):=Obj.mk y1 none (Data.fields (A [vs x0 x1,vs x0 x2,vs q1 x3,vi x4 0,vi 0 0,vi 0 0,vi 0 0,vi 0 0,vr x5,vF,vi 181 0,vr x6,vn,vn,vn,vn,vi x7 0,vi x4 0,vs q1 x8])) E
def a13:=m0 q0 182 183 184 1 11 12 185 186
def m1 (x0 : Nat) (x1 : Nat) (x2 : Str) (x3 : Nat):=Obj.mk y2 none Data.plain (A [sr x0,sr 3,sr x1,none,some (vs x2 x3),none,sr 0])
def a14:=m1 13 3 q2 164
def u0:=nd (boot_o_0 P) (nd (boot_o_1 P) (nd (boot_o_3 P) (l1 (boot_o_7 P)) (l1 a11)) (nd (boot_o_5 P) (l1 (boot_o_9 P)) (l1 a13))) (nd (boot_o_2 P) (nd (boot_o_4 P) (l1 (boot_o_8 P)) (l1 a12)) (nd (boot_o_6 P) (l1 (boot_o_10 P)) (l1 a14)))
def ta:=u0 P
def tb:=u0 P
def c0_3:=Obj.mk y3 none (Data.dict (A [de P q3 165 (vs q4 194),de P q5 166 vn,de P q6 167 vn,de P q7 168 y4,de P q8 169 vn,de P q9 170 (vr 6),de P q10 171 (vr 4),de P q11 173 (vs q1 172),de P q12 174 vn,de P q13 193 (vr 21),de P q14 213 (vr 31),de P q15 229 (vr 44)]) 12) E
def m2 (x0 : Int) (x1 : Int) (x2 : Nat) (x3 : Int) (x4 : Nat) (x5 : Int) (x6 : Nat):=Obj.mk vn none (Data.fields (A [vi x0 0,vi x1 0,vr x2,vi x3 0,vi x1 0,vr x4,vi x5 0,vi x1 0,vr x6])) E
def c0_12:=m2 1 0 20 5 27 7 40
def m3 (x0 : Str) (x1 : Nat):=Obj.mk y0 none (Data.seq (A [vs x0 x1]) 0) E
def c0_17:=m3 q16 190
def m4 (x0 : Str) (x1 : Str) (x2 : Stmt):=Obj.mk vn none (Data.func (fk x0 x1 x2 0 [] vn vn vn vn none vn vn 0)) E
def c0_19:=m4 q13 q13 (B 0)
def m5 (x0 : Str) (x1 : Nat) (x2 : Str) (x3 : Nat) (x4 : Nat) (x5 : Int) (x6 : Int) (x7 : Nat) (x8 : Nat) (x9 : Nat) (x10 : Nat) (x11 : Nat) (x12 : Int) (x13 : Nat):=Obj.mk y1 none (Data.fields (A [vs x0 x1,vs x2 x3,vs q1 x4,vi x5 0,vi x6 0,vi 0 0,vi 0 0,vi 3 0,vr x7,vT,vi 181 0,vr x8,vn,vr x9,vr x10,vr x11,vi x12 0,vi x5 0,vs q1 x13])) E
def c0_20:=m5 q13 187 q13 188 189 1 1 15 16 17 18 19 191 192
def m6 (x0 : Str) (x1 : Str) (x2 : Stmt) (x3 : Str) (x4 : Nat) (x5 : Nat):=Obj.mk y5 none (Data.func (fk x0 x1 x2 3 [] vn vn vn (vs x3 x4) none (vr x5) vn 0)) E
def c0_21:=m6 q13 q13 (B 0) q2 164 20
def c0_22:=Obj.mk y0 none (Data.seq (A [y6]) 0) E
def c0_23:=Obj.mk y7 none (Data.fields (A [y8,y9])) E
def c0_24:=Obj.mk y3 none (Data.dict (A [de P q17 203 (vs q4 194),de P q18 205 (vs q14 204),de P q19 207 (vi 5 206),de P q20 208 (vr 29)]) 4) E
def c0_27:=m0 q14 198 199 200 5 25 26 201 202
def c0_28:=m1 27 24 q4 194
def c0_30:=Obj.mk y3 none (Data.dict (A [de P q17 203 (vs q4 194),de P q19 207 (vi 5 206),de P q20 208 (vr 29),de P q21 210 (vr 32),de P q5 211 vn]) 3) E
def c0_31:=Obj.mk y9 none (Data.cls (ClassData.mk q14 [y6] [vr 31,y6,y10,y11,y12] 30 q14 true [] [vr 44] false none false)) (A [sr 22,none,some (vs q14 196),some (vs q14 204),some y13,some vT])
def m7 (x0 : Nat) (x1 : Nat):=Obj.mk y14 none (Data.fields (A [vs q21 x0,vr x1,y15,vn])) E
def c0_32:=m7 209 31
def m8 (x0 : Nat):=Obj.mk y16 none (Data.fields (A [vr x0,vr x0,vr x0])) E
def c0_33:=m8 31
def m9 (x0 : Nat):=Obj.mk y7 none (Data.fields (A [y17,vr x0])) E
def c0_34:=m9 31
def m10 (x0 : Nat):=Obj.mk y0 none (Data.seq (A [vr x0]) 0) E
def c0_35:=m10 31
def c0_37:=Obj.mk y3 none (Data.dict (A [de P q17 221 (vs q4 194),de P q18 223 (vs q15 222),de P q19 225 (vi 7 224),de P q20 226 (vr 42)]) 4) E
def c0_40:=m0 q15 216 217 218 7 38 39 219 220
def c0_41:=m1 40 37 q4 194
def c0_43:=Obj.mk y3 none (Data.dict (A [de P q17 221 (vs q4 194),de P q19 225 (vi 7 224),de P q20 226 (vr 42),de P q5 227 vn]) 2) E
def c0_44:=Obj.mk y9 none (Data.cls (ClassData.mk q15 [vr 31] [vr 44,vr 31,y6,y10,y11,y12] 43 q15 true [] [] false none false)) (A [sr 35,none,some (vs q15 214),some (vs q15 222),some y13,some vT])
def c0_45:=m8 44
def c0_46:=m9 44
def tc0_:=nd (boot_o_0 P) (nd (boot_o_1 P) (nd (c0_3 P) (nd (boot_o_7 P) (nd a11 (l1 c0_31) .nil) (nd c0_23 (l1 a12) .nil)) (nd a11 (nd c0_19 (l1 c0_35) .nil) (nd c0_27 (l1 (c0_43 P)) .nil))) (nd (boot_o_5 P) (nd (boot_o_9 P) (nd c0_17 (l1 c0_33) .nil) (nd a11 (l1 c0_41) .nil)) (nd a13 (nd c0_21 (l1 (c0_37 P)) .nil) (nd a11 (l1 c0_45) .nil)))) (nd (boot_o_2 P) (nd (boot_o_4 P) (nd (boot_o_8 P) (nd a12 (l1 c0_32) .nil) (nd (c0_24 P) (l1 c0_40) .nil)) (nd c0_12 (nd c0_20 (l1 c0_23) .nil) (nd c0_28 (l1 c0_44) .nil))) (nd (boot_o_6 P) (nd (boot_o_10 P) (nd a11 (l1 c0_34) .nil) (nd a12 (l1 a11) .nil)) (nd a14 (nd c0_22 (l1 a11) .nil) (nd (c0_30 P) (l1 c0_46) .nil))))
def c1_3:=Obj.mk y3 none (Data.dict (A [de P q3 165 (vs q4 194),de P q5 166 vn,de P q6 167 vn,de P q7 168 y4,de P q8 169 vn,de P q9 170 (vr 6),de P q10 171 (vr 4),de P q11 173 (vs q1 172),de P q12 174 vn,de P q13 193 (vr 21),de P q14 213 (vr 31),de P q15 229 (vr 44),de P q22 254 (vr 63),de P q23 279 (vr 82)]) 14) E
def m11 (x0 : Int) (x1 : Int) (x2 : Nat) (x3 : Int) (x4 : Nat) (x5 : Int) (x6 : Nat) (x7 : Int) (x8 : Nat) (x9 : Int) (x10 : Nat):=Obj.mk vn none (Data.fields (A [vi x0 0,vi x1 0,vr x2,vi x3 0,vi x1 0,vr x4,vi x5 0,vi x1 0,vr x6,vi x7 0,vi x1 0,vr x8,vi x9 0,vi x1 0,vr x10])) E
def c1_12:=m11 1 0 20 5 27 7 40 9 52 13 71
def c1_31:=Obj.mk y9 none (Data.cls (ClassData.mk q14 [y6] [vr 31,y6,y10,y11,y12] 30 q14 true [] [vr 44,vr 63,vr 82] false none false)) (A [sr 22,none,some (vs q14 196),some (vs q14 204),some y13,some vT])
def m12 (x0 : Nat) (x1 : Str) (x2 : Nat) (x3 : Nat) (x4 : Str) (x5 : Nat) (x6 : Nat) (x7 : Int) (x8 : Nat) (x9 : Str) (x10 : Nat) (x11 : Nat) (x12 : Nat) (x13 : Nat):=Obj.mk y3 none (Data.dict (A [de P q17 x0 (vs x1 x2),de P q18 x3 (vs x4 x5),de P q19 x6 (vi x7 x8),de P x9 x10 (vr x11),de P q20 x12 (vr x13)]) 5) E
def c1_49:=m12 P 237 q4 194 239 q22 238 241 9 240 q24 249 60 251 61
def m13 (x0 : Int) (x1 : Nat):=Obj.mk vn none (Data.fields (A [vi x0 0,vi 4 0,vr x1])) E
def c1_51:=m13 11 59
def c1_52:=m0 q22 232 233 234 9 50 51 235 236
def c1_53:=m1 52 49 q4 194
def m14 (x0 : Str) (x1 : Nat) (x2 : Str) (x3 : Nat):=Obj.mk y0 none (Data.seq (A [vs x0 x1,vs x2 x3]) 0) E
def c1_56:=m14 q25 245 q26 246
def c1_58:=m4 q24 q27 (M 4 0)
def c1_59:=m5 q24 242 q27 243 244 11 2 54 55 56 57 58 247 248
def c1_60:=m6 q24 q27 (M 4 0) q4 194 59
def c1_61:=m3 q26 250
def m15 (x0 : Nat) (x1 : Str) (x2 : Nat) (x3 : Nat) (x4 : Int) (x5 : Nat) (x6 : Str) (x7 : Nat) (x8 : Nat) (x9 : Nat) (x10 : Nat) (x11 : Nat):=Obj.mk y3 none (Data.dict (A [de P q17 x0 (vs x1 x2),de P q19 x3 (vi x4 x5),de P x6 x7 (vr x8),de P q20 x9 (vr x10),de P q5 x11 vn]) 2) E
def c1_62:=m15 P 237 q4 194 241 9 240 q24 249 60 251 61 252
def c1_63:=Obj.mk y9 none (Data.cls (ClassData.mk q22 [vr 31] [vr 63,vr 31,y6,y10,y11,y12] 62 q22 true [] [] false none false)) (A [sr 47,none,some (vs q22 230),some (vs q22 238),some y13,some vT])
def c1_64:=m8 63
def c1_65:=m9 63
def c1_68:=m12 P 262 q4 194 264 q23 263 266 13 265 q24 274 79 276 80
def c1_70:=m13 15 78
def c1_71:=m0 q23 257 258 259 13 69 70 260 261
def c1_72:=m1 71 68 q4 194
def c1_75:=m14 q25 270 q26 271
def c1_77:=m4 q24 q28 (M 5 0)
def c1_78:=m5 q24 267 q28 268 269 15 2 73 74 75 76 77 272 273
def c1_79:=m6 q24 q28 (M 5 0) q4 194 78
def c1_80:=m3 q26 275
def c1_81:=m15 P 262 q4 194 266 13 265 q24 274 79 276 80 277
def c1_82:=Obj.mk y9 none (Data.cls (ClassData.mk q23 [vr 31] [vr 82,vr 31,y6,y10,y11,y12] 81 q23 true [] [] false none false)) (A [sr 66,none,some (vs q23 255),some (vs q23 263),some y13,some vT])
def c1_83:=m8 82
def c1_84:=m9 82
def tc1_:=nd (boot_o_0 P) (nd (boot_o_1 P) (nd (c1_3 P) (nd (boot_o_7 P) (nd a11 (nd c1_31 (l1 c1_63) .nil) (nd c0_35 (l1 c1_79) .nil)) (nd c0_23 (nd a12 (l1 c1_71) .nil) (l1 a12))) (nd a11 (nd c0_19 (nd c0_35 (l1 c0_23) .nil) (nd c1_51 (l1 c1_83) .nil)) (nd c0_27 (nd (c0_43 P) (l1 c1_75) .nil) (l1 c1_59)))) (nd (boot_o_5 P) (nd (boot_o_9 P) (nd c0_17 (nd c0_33 (l1 c1_65) .nil) (nd (c1_49 P) (l1 (c1_81 P)) .nil)) (nd a11 (nd c0_41 (l1 a11) .nil) (l1 a11))) (nd a13 (nd c0_21 (nd (c0_37 P) (l1 a11) .nil) (l1 c1_53)) (nd a11 (nd c0_45 (l1 c1_77) .nil) (l1 c1_61))))) (nd (boot_o_2 P) (nd (boot_o_4 P) (nd (boot_o_8 P) (nd a12 (nd c0_32 (l1 c1_64) .nil) (nd c0_23 (l1 c1_80) .nil)) (nd (c0_24 P) (nd c0_40 (l1 c1_72) .nil) (l1 c1_56))) (nd c1_12 (nd c0_20 (nd c0_23 (l1 (c1_68 P)) .nil) (nd c1_52 (l1 c1_84) .nil)) (nd c0_28 (nd c0_44 (l1 a11) .nil) (l1 c1_60)))) (nd (boot_o_6 P) (nd (boot_o_10 P) (nd a11 (nd c0_34 (l1 c0_35) .nil) (nd a11 (l1 c1_82) .nil)) (nd a12 (nd a11 (l1 a12) .nil) (l1 c1_58))) (nd a14 (nd c0_22 (nd a11 (l1 c1_70) .nil) (l1 a11)) (nd (c0_30 P) (nd c0_46 (l1 c1_78) .nil) (l1 (c1_62 P))))))
def c2_3:=Obj.mk y3 none (Data.dict (A [de P q3 165 (vs q29 330),de P q5 166 vn,de P q6 167 vn,de P q7 168 y4,de P q8 169 vn,de P q9 170 (vr 6),de P q10 171 (vr 4),de P q11 173 (vs q1 172),de P q12 174 vn,de P q13 193 (vr 21),de P q14 213 (vr 31),de P q15 229 (vr 44),de P q22 254 (vr 63),de P q23 279 (vr 82),de P q30 304 (vr 101),de P q31 329 (vr 120)]) 16) E
def c2_12:=Obj.mk vn none (Data.fields (A [vi 1 0,vi 0 0,vr 20,vi 5 0,vi 0 0,vr 27,vi 7 0,vi 0 0,vr 40,vi 9 0,vi 0 0,vr 52,vi 13 0,vi 0 0,vr 71,vi 17 0,vi 0 0,vr 90,vi 21 0,vi 0 0,vr 109])) E
def c2_31:=Obj.mk y9 none (Data.cls (ClassData.mk q14 [y6] [vr 31,y6,y10,y11,y12] 30 q14 true [] [vr 44,vr 63,vr 82,vr 101,vr 120] false none false)) (A [sr 22,none,some (vs q14 196),some (vs q14 204),some y13,some vT])
def c2_87:=m12 P 287 q4 194 289 q30 288 291 17 290 q24 299 98 301 99
def c2_89:=m13 19 97
def c2_90:=m0 q30 282 283 284 17 88 89 285 286
def c2_91:=m1 90 87 q4 194
def c2_94:=m14 q25 295 q26 296
def c2_96:=m4 q24 q32 (M 6 0)
def c2_97:=m5 q24 292 q32 293 294 19 2 92 93 94 95 96 297 298
def c2_98:=m6 q24 q32 (M 6 0) q4 194 97
def c2_99:=m3 q26 300
def c2_100:=m15 P 287 q4 194 291 17 290 q24 299 98 301 99 302
def c2_101:=Obj.mk y9 none (Data.cls (ClassData.mk q30 [vr 31] [vr 101,vr 31,y6,y10,y11,y12] 100 q30 true [] [] false none false)) (A [sr 85,none,some (vs q30 280),some (vs q30 288),some y13,some vT])
def c2_102:=m8 101
def c2_103:=m9 101
def c2_106:=m12 P 312 q4 194 314 q31 313 316 21 315 q24 324 117 326 118
def c2_108:=m13 23 116
def c2_109:=m0 q31 307 308 309 21 107 108 310 311
def c2_110:=m1 109 106 q4 194
def c2_113:=m14 q25 320 q26 321
def c2_115:=m4 q24 q33 (M 7 0)
def c2_116:=m5 q24 317 q33 318 319 23 2 111 112 113 114 115 322 323
def c2_117:=m6 q24 q33 (M 7 0) q4 194 116
def c2_118:=m3 q26 325
def c2_119:=m15 P 312 q4 194 316 21 315 q24 324 117 326 118 327
def c2_120:=Obj.mk y9 none (Data.cls (ClassData.mk q31 [vr 31] [vr 120,vr 31,y6,y10,y11,y12] 119 q31 true [] [] false none false)) (A [sr 104,none,some (vs q31 305),some (vs q31 313),some y13,some vT])
def c2_121:=m8 120
def c2_122:=m9 120
def tc2_:=nd (boot_o_0 P) (nd (boot_o_1 P) (nd (c2_3 P) (nd (boot_o_7 P) (nd a11 (nd c2_31 (l1 c1_63) (l1 a11)) (nd c0_35 (l1 c1_79) (l1 a11))) (nd c0_23 (nd a12 (l1 c1_71) (l1 c2_103)) (nd a12 (l1 (c2_87 P)) (l1 (c2_119 P))))) (nd a11 (nd c0_19 (nd c0_35 (l1 c0_23) (l1 c2_99)) (nd c1_51 (l1 c1_83) (l1 c2_115))) (nd c0_27 (nd (c0_43 P) (l1 c1_75) (l1 a11)) (nd c1_59 (l1 c2_91) .nil)))) (nd (boot_o_5 P) (nd (boot_o_9 P) (nd c0_17 (nd c0_33 (l1 c1_65) (l1 c2_97)) (nd (c1_49 P) (l1 (c1_81 P)) (l1 c2_113))) (nd a11 (nd c0_41 (l1 a11) (l1 c0_23)) (nd a11 (l1 c2_89) (l1 c2_121)))) (nd a13 (nd c0_21 (nd (c0_37 P) (l1 a11) (l1 c2_101)) (nd c1_53 (l1 c0_35) (l1 c2_117))) (nd a11 (nd c0_45 (l1 c1_77) (l1 c2_109)) (nd c1_61 (l1 a12) .nil))))) (nd (boot_o_2 P) (nd (boot_o_4 P) (nd (boot_o_8 P) (nd a12 (nd c0_32 (l1 c1_64) (l1 c2_96)) (nd c0_23 (l1 c1_80) (l1 a12))) (nd (c0_24 P) (nd c0_40 (l1 c1_72) (l1 c0_35)) (nd c1_56 (l1 a11) (l1 c2_120)))) (nd c2_12 (nd c0_20 (nd c0_23 (l1 (c1_68 P)) (l1 (c2_100 P))) (nd c1_52 (l1 c1_84) (l1 c2_116))) (nd c0_28 (nd c0_44 (l1 a11) (l1 c2_108)) (nd c1_60 (l1 a11) .nil)))) (nd (boot_o_6 P) (nd (boot_o_10 P) (nd a11 (nd c0_34 (l1 c0_35) (l1 c2_98)) (nd a11 (l1 c1_82) (l1 a11))) (nd a12 (nd a11 (l1 a12) (l1 (c2_106 P))) (nd c1_58 (l1 c2_90) (l1 c2_122)))) (nd a14 (nd c0_22 (nd a11 (l1 c1_70) (l1 c2_102)) (nd a11 (l1 c0_23) (l1 c2_118))) (nd (c0_30 P) (nd c0_46 (l1 c1_78) (l1 c2_110)) (nd (c1_62 P) (l1 c2_94) .nil)))))
def c3_3:=Obj.mk y3 none (Data.dict (A [de P q3 165 (vs q29 330),de P q5 166 vn,de P q6 167 vn,de P q7 168 y4,de P q8 169 vn,de P q9 170 (vr 6),de P q10 171 (vr 4),de P q11 173 (vs q1 172),de P q12 174 vn,de P q13 193 (vr 21),de P q14 213 (vr 31),de P q15 229 (vr 44),de P q22 254 (vr 63),de P q23 279 (vr 82),de P q30 304 (vr 101),de P q31 329 (vr 120),de P q34 392 (vr 167)]) 17) E
def c3_12:=Obj.mk vn none (Data.fields (A [vi 1 0,vi 0 0,vr 20,vi 5 0,vi 0 0,vr 27,vi 7 0,vi 0 0,vr 40,vi 9 0,vi 0 0,vr 52,vi 13 0,vi 0 0,vr 71,vi 17 0,vi 0 0,vr 90,vi 21 0,vi 0 0,vr 109,vi 26 0,vi 0 0,vr 128])) E
def c3_125:=Obj.mk y3 none (Data.dict (A [de P q17 339 (vs q29 330),de P q18 341 (vs q34 340),de P q19 343 (vi 26 342),de P q24 352 (vr 136),de P q35 359 (vr 143),de P q36 367 (vr 150),de P q37 375 (vr 157),de P q38 382 (vr 164),de P q20 385 (vr 165)]) 9) E
def c3_127:=m11 28 4 135 32 142 35 149 38 156 41 163
def c3_128:=m0 q34 334 335 336 26 126 127 337 338
def c3_129:=m1 128 125 q29 330
def m16 (x0 : Str) (x1 : Nat) (x2 : Str) (x3 : Nat) (x4 : Str) (x5 : Nat):=Obj.mk y0 none (Data.seq (A [vs x0 x1,vs x2 x3,vs x4 x5]) 0) E
def c3_132:=m16 q25 347 q39 348 q40 349
def c3_134:=m4 q24 q41 (M 9 0)
def c3_135:=m5 q24 344 q41 345 346 28 3 130 131 132 133 134 350 351
def c3_136:=m6 q24 q41 (M 9 0) q29 330 135
def c3_139:=m3 q25 356
def c3_141:=m4 q35 q42 (M 9 1)
def c3_142:=m5 q35 353 q42 354 355 32 1 137 138 139 140 141 357 358
def c3_143:=m6 q35 q42 (M 9 1) q29 330 142
def c3_146:=m14 q25 363 q43 364
def c3_148:=m4 q36 q44 (M 9 2)
def c3_149:=m5 q36 360 q44 361 362 35 2 144 145 146 147 148 365 366
def c3_150:=m6 q36 q44 (M 9 2) q29 330 149
def c3_153:=m14 q25 371 q43 372
def c3_155:=m4 q37 q45 (M 9 3)
def c3_156:=m5 q37 368 q45 369 370 38 2 151 152 153 154 155 373 374
def c3_157:=m6 q37 q45 (M 9 3) q29 330 156
def c3_160:=m3 q25 379
def c3_162:=m4 q38 q46 (M 9 4)
def c3_163:=m5 q38 376 q46 377 378 41 1 158 159 160 161 162 380 381
def c3_164:=m6 q38 q46 (M 9 4) q29 330 163
def c3_165:=m14 q39 383 q40 384
def c3_166:=Obj.mk y3 none (Data.dict (A [de P q17 339 (vs q29 330),de P q19 343 (vi 26 342),de P q24 352 (vr 136),de P q35 359 (vr 143),de P q36 367 (vr 150),de P q37 375 (vr 157),de P q38 382 (vr 164),de P q20 385 (vr 165),de P q47 387 (vr 168),de P q21 389 (vr 169),de P q5 390 vn]) 4) E
def c3_167:=Obj.mk y9 none (Data.cls (ClassData.mk q34 [y12] [vr 167,y12] 166 q34 true [] [] false none false)) (A [none,none,some (vs q34 332),some (vs q34 340),some y18,some vT])
def c3_168:=Obj.mk y14 none (Data.fields (A [vs q47 386,vr 167,y19,y20])) E
def c3_169:=m7 388 167
def c3_170:=m8 167
def c3_171:=m9 167
def tc3_:=nd (boot_o_0 P) (nd (boot_o_1 P) (nd (c3_3 P) (nd (boot_o_7 P) (nd a11 (nd c2_31 (nd c1_63 (l1 c3_127) .nil) (nd a11 (l1 a12) .nil)) (nd c0_35 (nd c1_79 (l1 c3_143) .nil) (l1 a11))) (nd c0_23 (nd a12 (nd c1_71 (l1 c3_135) .nil) (nd c2_103 (l1 c3_167) .nil)) (nd a12 (nd (c2_87 P) (l1 a11) .nil) (l1 (c2_119 P))))) (nd a11 (nd c0_19 (nd c0_35 (nd c0_23 (l1 a12) .nil) (nd c2_99 (l1 c3_163) .nil)) (nd c1_51 (nd c1_83 (l1 a11) .nil) (l1 c2_115))) (nd c0_27 (nd (c0_43 P) (nd c1_75 (l1 c3_139) .nil) (nd a11 (l1 c3_171) .nil)) (nd c1_59 (nd c2_91 (l1 c3_155) .nil) (l1 a11))))) (nd (boot_o_5 P) (nd (boot_o_9 P) (nd c0_17 (nd c0_33 (nd c1_65 (l1 c3_129) .nil) (nd c2_97 (l1 a11) .nil)) (nd (c1_49 P) (nd (c1_81 P) (l1 a12) .nil) (l1 c2_113))) (nd a11 (nd c0_41 (nd a11 (l1 a11) .nil) (nd c0_23 (l1 c3_169) .nil)) (nd a11 (nd c2_89 (l1 c3_153) .nil) (l1 c2_121)))) (nd a13 (nd c0_21 (nd (c0_37 P) (nd a11 (l1 a11) .nil) (nd c2_101 (l1 c3_165) .nil)) (nd c1_53 (nd c0_35 (l1 c3_149) .nil) (l1 c2_117))) (nd a11 (nd c0_45 (nd c1_77 (l1 c3_141) .nil) (l1 c2_109)) (nd c1_61 (nd a12 (l1 c3_157) .nil) (l1 (c3_125 P))))))) (nd (boot_o_2 P) (nd (boot_o_4 P) (nd (boot_o_8 P) (nd a12 (nd c0_32 (nd c1_64 (l1 c3_128) .nil) (nd c2_96 (l1 c3_160) .nil)) (nd c0_23 (nd c1_80 (l1 a11) .nil) (l1 a12))) (nd (c0_24 P) (nd c0_40 (nd c1_72 (l1 c3_136) .nil) (nd c0_35 (l1 c3_168) .nil)) (nd c1_56 (nd a11 (l1 a12) .nil) (l1 c2_120)))) (nd c3_12 (nd c0_20 (nd c0_23 (nd (c1_68 P) (l1 c3_132) .nil) (nd (c2_100 P) (l1 c3_164) .nil)) (nd c1_52 (nd c1_84 (l1 c3_148) .nil) (l1 c2_116))) (nd c0_28 (nd c0_44 (nd a11 (l1 a11) .nil) (l1 c2_108)) (nd c1_60 (nd a11 (l1 c3_156) .nil) (l1 c0_23))))) (nd (boot_o_6 P) (nd (boot_o_10 P) (nd a11 (nd c0_34 (nd c0_35 (l1 a11) .nil) (nd c2_98 (l1 c3_162) .nil)) (nd a11 (nd c1_82 (l1 c3_146) .nil) (l1 a11))) (nd a12 (nd a11 (nd a12 (l1 a12) .nil) (nd (c2_106 P) (l1 c3_170) .nil)) (nd c1_58 (nd c2_90 (l1 a11) .nil) (l1 c2_122)))) (nd a14 (nd c0_22 (nd a11 (nd c1_70 (l1 c3_134) .nil) (nd c2_102 (l1 (c3_166 P)) .nil)) (nd a11 (nd c0_23 (l1 c3_150) .nil) (l1 c2_118))) (nd (c0_30 P) (nd c0_46 (nd c1_78 (l1 c3_142) .nil) (l1 c2_110)) (nd (c1_62 P) (nd c2_94 (l1 a11) .nil) (l1 a11))))))
def c4_3:=Obj.mk y3 none (Data.dict (A [de P q3 165 (vs q29 330),de P q5 166 vn,de P q6 167 vn,de P q7 168 y4,de P q8 169 vn,de P q9 170 (vr 6),de P q10 171 (vr 4),de P q11 173 (vs q1 172),de P q12 174 vn,de P q13 193 (vr 21),de P q14 213 (vr 31),de P q15 229 (vr 44),de P q22 254 (vr 63),de P q23 279 (vr 82),de P q30 304 (vr 101),de P q31 329 (vr 120),de P q34 392 (vr 167),de P q48 415 (vr 188),de P q49 438 (vr 207)]) 19) E
def c4_12:=Obj.mk vn none (Data.fields (A [vi 1 0,vi 0 0,vr 20,vi 5 0,vi 0 0,vr 27,vi 7 0,vi 0 0,vr 40,vi 9 0,vi 0 0,vr 52,vi 13 0,vi 0 0,vr 71,vi 17 0,vi 0 0,vr 90,vi 21 0,vi 0 0,vr 109,vi 26 0,vi 0 0,vr 128,vi 43 0,vi 0 0,vr 177,vi 47 0,vi 0 0,vr 196])) E
def c4_167:=Obj.mk y9 none (Data.cls (ClassData.mk q34 [y12] [vr 167,y12] 166 q34 true [] [vr 188,vr 207] false none false)) (A [none,none,some (vs q34 332),some (vs q34 340),some y18,some vT])
def c4_172:=m10 167
def c4_174:=m12 P 400 q29 330 402 q48 401 404 43 403 q35 411 185 412 186
def c4_176:=m13 45 184
def c4_177:=m0 q48 395 396 397 43 175 176 398 399
def c4_178:=m1 177 174 q29 330
def c4_181:=m3 q25 408
def c4_183:=m4 q35 q50 (M 10 0)
def c4_184:=m5 q35 405 q50 406 407 45 1 179 180 181 182 183 409 410
def c4_185:=m6 q35 q50 (M 10 0) q29 330 184
def c4_187:=m15 P 400 q29 330 404 43 403 q35 411 185 412 186 413
def c4_188:=Obj.mk y9 none (Data.cls (ClassData.mk q48 [vr 167] [vr 188,vr 167,y12] 187 q48 true [] [] false none false)) (A [sr 172,none,some (vs q48 393),some (vs q48 401),some y18,some vT])
def c4_189:=m8 188
def c4_190:=m9 188
def c4_193:=m12 P 423 q29 330 425 q49 424 427 47 426 q35 434 204 435 205
def c4_195:=m13 49 203
def c4_196:=m0 q49 418 419 420 47 194 195 421 422
def c4_197:=m1 196 193 q29 330
def c4_200:=m3 q25 431
def c4_202:=m4 q35 q51 (M 11 0)
def c4_203:=m5 q35 428 q51 429 430 49 1 198 199 200 201 202 432 433
def c4_204:=m6 q35 q51 (M 11 0) q29 330 203
def c4_206:=m15 P 423 q29 330 427 47 426 q35 434 204 435 205 436
def c4_207:=Obj.mk y9 none (Data.cls (ClassData.mk q49 [vr 167] [vr 207,vr 167,y12] 206 q49 true [] [] false none false)) (A [sr 191,none,some (vs q49 416),some (vs q49 424),some y18,some vT])
def c4_208:=m8 207
def c4_209:=m9 207
def u1:=nd c0_35 (nd c1_79 (l1 c3_143) (l1 c4_207)) (nd a11 (l1 a11) .nil)
def u2:=nd (c0_43 P) (nd c1_75 (l1 c3_139) (l1 c4_203)) (nd a11 (l1 c3_171) .nil)
def u3:=nd (c1_49 P) (nd (c1_81 P) (l1 a12) (l1 c4_209)) (nd c2_113 (l1 c4_177) .nil)
def u4:=nd c0_41 (nd a11 (l1 a11) (l1 a11)) (nd c0_23 (l1 c3_169) .nil)
def u5:=nd (c0_37 P) (nd a11 (l1 a11) (l1 c4_197)) (nd c2_101 (l1 c3_165) .nil)
def u6:=nd c0_45 (nd c1_77 (l1 c3_141) (l1 a11)) (nd c2_109 (l1 c0_23) .nil)
def u7:=nd c0_23 (nd c1_80 (l1 a11) (l1 c4_208)) (nd a12 (l1 c4_176) .nil)
def u8:=nd c0_40 (nd c1_72 (l1 c3_136) (l1 c4_200)) (nd c0_35 (l1 c3_168) .nil)
def u9:=nd c0_44 (nd a11 (l1 a11) (l1 c4_204)) (nd c2_108 (l1 c4_172) .nil)
def u10:=nd a11 (nd a12 (l1 a12) (l1 c4_202)) (nd (c2_106 P) (l1 c3_170) .nil)
def u11:=nd a11 (nd c1_70 (l1 c3_134) (l1 a11)) (nd c2_102 (l1 (c3_166 P)) .nil)
def u12:=nd c0_46 (nd c1_78 (l1 c3_142) (l1 (c4_206 P))) (nd c2_110 (l1 (c4_174 P)) .nil)
def tc4_:=nd (boot_o_0 P) (nd (boot_o_1 P) (nd (c4_3 P) (nd (boot_o_7 P) (nd a11 (nd c2_31 (nd c1_63 (l1 c3_127) (l1 c4_172)) (nd a11 (l1 a12) .nil)) u1) (nd c0_23 (nd a12 (nd c1_71 (l1 c3_135) (l1 a12)) (nd c2_103 (l1 c4_167) .nil)) (nd a12 (nd (c2_87 P) (l1 a11) .nil) (nd (c2_119 P) (l1 c4_183) .nil)))) (nd a11 (nd c0_19 (nd c0_35 (nd c0_23 (l1 a12) (l1 c4_195)) (nd c2_99 (l1 c3_163) .nil)) (nd c1_51 (nd c1_83 (l1 a11) .nil) (nd c2_115 (l1 a11) .nil))) (nd c0_27 (u2 P) (nd c1_59 (nd c2_91 (l1 c3_155) .nil) (nd a11 (l1 (c4_187 P)) .nil))))) (nd (boot_o_5 P) (nd (boot_o_9 P) (nd c0_17 (nd c0_33 (nd c1_65 (l1 c3_129) (l1 (c4_193 P))) (nd c2_97 (l1 a11) .nil)) (u3 P)) (nd a11 u4 (nd a11 (nd c2_89 (l1 c3_153) .nil) (nd c2_121 (l1 c4_185) .nil)))) (nd a13 (nd c0_21 (u5 P) (nd c1_53 (nd c0_35 (l1 c3_149) .nil) (nd c2_117 (l1 c4_181) .nil))) (nd a11 u6 (nd c1_61 (nd a12 (l1 c3_157) .nil) (nd (c3_125 P) (l1 c4_189) .nil)))))) (nd (boot_o_2 P) (nd (boot_o_4 P) (nd (boot_o_8 P) (nd a12 (nd c0_32 (nd c1_64 (l1 c3_128) (l1 c0_23)) (nd c2_96 (l1 c3_160) .nil)) u7) (nd (c0_24 P) u8 (nd c1_56 (nd a11 (l1 a12) .nil) (nd c2_120 (l1 c4_184) .nil)))) (nd c4_12 (nd c0_20 (nd c0_23 (nd (c1_68 P) (l1 c3_132) (l1 c4_196)) (nd (c2_100 P) (l1 c3_164) .nil)) (nd c1_52 (nd c1_84 (l1 c3_148) .nil) (nd c2_116 (l1 a12) .nil))) (nd c0_28 u9 (nd c1_60 (nd a11 (l1 c3_156) .nil) (nd c0_23 (l1 c4_188) .nil))))) (nd (boot_o_6 P) (nd (boot_o_10 P) (nd a11 (nd c0_34 (nd c0_35 (l1 a11) (l1 a11)) (nd c2_98 (l1 c3_162) .nil)) (nd a11 (nd c1_82 (l1 c3_146) .nil) (nd a11 (l1 c4_178) .nil))) (nd a12 (u10 P) (nd c1_58 (nd c2_90 (l1 a11) .nil) (nd c2_122 (l1 a11) .nil)))) (nd a14 (nd c0_22 (u11 P) (nd a11 (nd c0_23 (l1 c3_150) .nil) (nd c2_118 (l1 a11) .nil))) (nd (c0_30 P) (u12 P) (nd (c1_62 P) (nd c2_94 (l1 a11) .nil) (nd a11 (l1 c4_190) .nil))))))
def c5_3:=Obj.mk y3 none (Data.dict (A [de P q3 165 (vs q52 462),de P q5 166 vn,de P q6 167 vn,de P q7 168 y4,de P q8 169 vn,de P q9 170 (vr 6),de P q10 171 (vr 4),de P q11 173 (vs q1 172),de P q12 174 vn,de P q13 193 (vr 21),de P q14 213 (vr 31),de P q15 229 (vr 44),de P q22 254 (vr 63),de P q23 279 (vr 82),de P q30 304 (vr 101),de P q31 329 (vr 120),de P q34 392 (vr 167),de P q48 415 (vr 188),de P q49 438 (vr 207),de P q53 461 (vr 226)]) 20) E
def c5_12:=Obj.mk vn none (Data.fields (A [vi 1 0,vi 0 0,vr 20,vi 5 0,vi 0 0,vr 27,vi 7 0,vi 0 0,vr 40,vi 9 0,vi 0 0,vr 52,vi 13 0,vi 0 0,vr 71,vi 17 0,vi 0 0,vr 90,vi 21 0,vi 0 0,vr 109,vi 26 0,vi 0 0,vr 128,vi 43 0,vi 0 0,vr 177,vi 47 0,vi 0 0,vr 196,vi 51 0,vi 0 0,vr 215])) E
def c5_167:=Obj.mk y9 none (Data.cls (ClassData.mk q34 [y12] [vr 167,y12] 166 q34 true [] [vr 188,vr 207,vr 226] false none false)) (A [none,none,some (vs q34 332),some (vs q34 340),some y18,some vT])
def c5_212:=m12 P 446 q29 330 448 q53 447 450 51 449 q35 457 223 458 224
def c5_214:=m13 53 222
def c5_215:=m0 q53 441 442 443 51 213 214 444 445
def c5_216:=m1 215 212 q29 330
def c5_219:=m3 q25 454
def c5_221:=m4 q35 q54 (M 12 0)
def c5_222:=m5 q35 451 q54 452 453 53 1 217 218 219 220 221 455 456
def c5_223:=m6 q35 q54 (M 12 0) q29 330 222
def c5_225:=m15 P 446 q29 330 450 51 449 q35 457 223 458 224 459
def c5_226:=Obj.mk y9 none (Data.cls (ClassData.mk q53 [vr 167] [vr 226,vr 167,y12] 225 q53 true [] [] false none false)) (A [sr 210,none,some (vs q53 439),some (vs q53 447),some y18,some vT])
def c5_227:=m8 226
def c5_228:=m9 226
def tc5_:=nd (boot_o_0 P) (nd (boot_o_1 P) (nd (c5_3 P) (nd (boot_o_7 P) (nd a11 (nd c2_31 (nd c1_63 (l1 c3_127) (l1 c4_172)) (nd a11 (l1 a12) (l1 c5_223))) u1) (nd c0_23 (nd a12 (nd c1_71 (l1 c3_135) (l1 a12)) (nd c2_103 (l1 c5_167) .nil)) (nd a12 (nd (c2_87 P) (l1 a11) (l1 c5_215)) (nd (c2_119 P) (l1 c4_183) .nil)))) (nd a11 (nd c0_19 (nd c0_35 (nd c0_23 (l1 a12) (l1 c4_195)) (nd c2_99 (l1 c3_163) (l1 c5_227))) (nd c1_51 (nd c1_83 (l1 a11) (l1 c0_23)) (nd c2_115 (l1 a11) .nil))) (nd c0_27 (u2 P) (nd c1_59 (nd c2_91 (l1 c3_155) (l1 c5_219)) (nd a11 (l1 (c4_187 P)) .nil))))) (nd (boot_o_5 P) (nd (boot_o_9 P) (nd c0_17 (nd c0_33 (nd c1_65 (l1 c3_129) (l1 (c4_193 P))) (nd c2_97 (l1 a11) (l1 (c5_225 P)))) (u3 P)) (nd a11 u4 (nd a11 (nd c2_89 (l1 c3_153) (l1 a11)) (nd c2_121 (l1 c4_185) .nil)))) (nd a13 (nd c0_21 (u5 P) (nd c1_53 (nd c0_35 (l1 c3_149) (l1 a11)) (nd c2_117 (l1 c4_181) .nil))) (nd a11 u6 (nd c1_61 (nd a12 (l1 c3_157) (l1 c5_221)) (nd (c3_125 P) (l1 c4_189) .nil)))))) (nd (boot_o_2 P) (nd (boot_o_4 P) (nd (boot_o_8 P) (nd a12 (nd c0_32 (nd c1_64 (l1 c3_128) (l1 c0_23)) (nd c2_96 (l1 c3_160) (l1 a11))) u7) (nd (c0_24 P) u8 (nd c1_56 (nd a11 (l1 a12) (l1 c5_216)) (nd c2_120 (l1 c4_184) .nil)))) (nd c5_12 (nd c0_20 (nd c0_23 (nd (c1_68 P) (l1 c3_132) (l1 c4_196)) (nd (c2_100 P) (l1 c3_164) (l1 c5_228))) (nd c1_52 (nd c1_84 (l1 c3_148) (l1 (c5_212 P))) (nd c2_116 (l1 a12) .nil))) (nd c0_28 u9 (nd c1_60 (nd a11 (l1 c3_156) (l1 a11)) (nd c0_23 (l1 c4_188) .nil))))) (nd (boot_o_6 P) (nd (boot_o_10 P) (nd a11 (nd c0_34 (nd c0_35 (l1 a11) (l1 a11)) (nd c2_98 (l1 c3_162) (l1 c5_226))) (nd a11 (nd c1_82 (l1 c3_146) (l1 c4_172)) (nd a11 (l1 c4_178) .nil))) (nd a12 (u10 P) (nd c1_58 (nd c2_90 (l1 a11) (l1 a12)) (nd c2_122 (l1 a11) .nil)))) (nd a14 (nd c0_22 (u11 P) (nd a11 (nd c0_23 (l1 c3_150) (l1 c5_214)) (nd c2_118 (l1 a11) .nil))) (nd (c0_30 P) (u12 P) (nd (c1_62 P) (nd c2_94 (l1 a11) (l1 c5_222)) (nd a11 (l1 c4_190) .nil))))))
def c6_3:=Obj.mk y3 none (Data.dict (A [de P q3 165 (vs q52 462),de P q5 166 vn,de P q6 167 vn,de P q7 168 y4,de P q8 169 vn,de P q9 170 (vr 6),de P q10 171 (vr 4),de P q11 173 (vs q1 172),de P q12 174 vn,de P q13 193 (vr 21),de P q14 213 (vr 31),de P q15 229 (vr 44),de P q22 254 (vr 63),de P q23 279 (vr 82),de P q30 304 (vr 101),de P q31 329 (vr 120),de P q34 392 (vr 167),de P q48 415 (vr 188),de P q49 438 (vr 207),de P q53 461 (vr 226),de P q55 528 (vr 280)]) 21) E
def c6_12:=Obj.mk vn none (Data.fields (A [vi 1 0,vi 0 0,vr 20,vi 5 0,vi 0 0,vr 27,vi 7 0,vi 0 0,vr 40,vi 9 0,vi 0 0,vr 52,vi 13 0,vi 0 0,vr 71,vi 17 0,vi 0 0,vr 90,vi 21 0,vi 0 0,vr 109,vi 26 0,vi 0 0,vr 128,vi 43 0,vi 0 0,vr 177,vi 47 0,vi 0 0,vr 196,vi 51 0,vi 0 0,vr 215,vi 56 0,vi 0 0,vr 234])) E
def c6_231:=Obj.mk y3 none (Data.dict (A [de P q17 471 (vs q52 462),de P q18 473 (vs q55 472),de P q19 475 (vi 56 474),de P q56 482 (vr 242),de P q57 489 (vr 249),de P q58 498 (vr 256),de P q59 506 (vr 263),de P q60 513 (vr 270),de P q61 520 (vr 277),de P q20 521 (vr 278)]) 10) E
def c6_233:=Obj.mk vn none (Data.fields (A [vi 58 0,vi 4 0,vr 241,vi 61 0,vi 4 0,vr 248,vi 64 0,vi 4 0,vr 255,vi 67 0,vi 4 0,vr 262,vi 70 0,vi 4 0,vr 269,vi 73 0,vi 4 0,vr 276])) E
def c6_234:=m0 q55 466 467 468 56 232 233 469 470
def c6_235:=m1 234 231 q52 462
def c6_238:=m3 q25 479
def c6_240:=m4 q56 q62 (M 14 0)
def c6_241:=m5 q56 476 q62 477 478 58 1 236 237 238 239 240 480 481
def c6_242:=m6 q56 q62 (M 14 0) q52 462 241
def c6_245:=m3 q25 486
def c6_247:=m4 q57 q63 (M 14 1)
def c6_248:=m5 q57 483 q63 484 485 61 1 243 244 245 246 247 487 488
def c6_249:=m6 q57 q63 (M 14 1) q52 462 248
def c6_252:=m16 q25 493 q64 494 q65 495
def c6_254:=m4 q58 q66 (M 14 2)
def c6_255:=m5 q58 490 q66 491 492 64 3 250 251 252 253 254 496 497
def c6_256:=m6 q58 q66 (M 14 2) q52 462 255
def c6_259:=m14 q25 502 q65 503
def c6_261:=m4 q59 q67 (M 14 3)
def c6_262:=m5 q59 499 q67 500 501 67 2 257 258 259 260 261 504 505
def c6_263:=m6 q59 q67 (M 14 3) q52 462 262
def c6_266:=m3 q25 510
def c6_268:=m4 q60 q68 (M 14 4)
def c6_269:=m5 q60 507 q68 508 509 70 1 264 265 266 267 268 511 512
def c6_270:=m6 q60 q68 (M 14 4) q52 462 269
def c6_273:=m3 q25 517
def c6_275:=m4 q61 q69 (M 14 5)
def c6_276:=m5 q61 514 q69 515 516 73 1 271 272 273 274 275 518 519
def c6_277:=m6 q61 q69 (M 14 5) q52 462 276
def c6_279:=Obj.mk y3 none (Data.dict (A [de P q17 471 (vs q52 462),de P q19 475 (vi 56 474),de P q56 482 (vr 242),de P q57 489 (vr 249),de P q58 498 (vr 256),de P q59 506 (vr 263),de P q60 513 (vr 270),de P q61 520 (vr 277),de P q20 521 (vr 278),de P q47 523 (vr 281),de P q21 525 (vr 282),de P q5 526 vn]) 4) E
def c6_280:=Obj.mk y9 none (Data.cls (ClassData.mk q55 [y12] [vr 280,y12] 279 q55 true [] [] false none false)) (A [none,none,some (vs q55 464),some (vs q55 472),some y18,some vT])
def c6_281:=Obj.mk y14 none (Data.fields (A [vs q47 522,vr 280,y19,y20])) E
def c6_282:=m7 524 280
def c6_283:=m8 280
def c6_284:=m9 280
def u13:=nd c1_63 (nd c3_127 (l1 c6_255) .nil) (l1 c4_172)
def u14:=nd c1_79 (nd c3_143 (l1 a11) .nil) (l1 c4_207)
def u15:=nd c1_71 (nd c3_135 (l1 c6_263) .nil) (l1 a12)
def u16:=nd a12 (nd (c2_87 P) (nd a11 (l1 (c6_279 P)) .nil) (l1 c5_215)) (nd (c2_119 P) (l1 c4_183) (l1 c6_247))
def u17:=nd c0_23 (nd a12 (l1 c6_259) .nil) (l1 c4_195)
def u18:=nd c1_83 (nd a11 (l1 c6_275) .nil) (l1 c0_23)
def u19:=nd c1_75 (nd c3_139 (l1 a11) .nil) (l1 c4_203)
def u20:=nd c2_91 (nd c3_155 (l1 c6_283) .nil) (l1 c5_219)
def u21:=nd c1_59 u20 (nd a11 (l1 (c4_187 P)) (l1 a12))
def u22:=nd c1_65 (nd c3_129 (l1 a11) .nil) (l1 (c4_193 P))
def u23:=nd (c1_81 P) (nd a12 (l1 c6_273) .nil) (l1 c4_209)
def u24:=nd c2_89 (nd c3_153 (l1 c6_281) .nil) (l1 a11)
def u25:=nd a11 u24 (nd c2_121 (l1 c4_185) (l1 c6_249))
def u26:=nd a11 (nd a11 (l1 c6_261) .nil) (l1 c4_197)
def u27:=nd c0_35 (nd c3_149 (l1 c6_277) .nil) (l1 a11)
def u28:=nd c1_77 (nd c3_141 (l1 c6_269) .nil) (l1 a11)
def u29:=nd c1_64 (nd c3_128 (l1 c6_256) .nil) (l1 c0_23)
def u30:=nd c1_80 (nd a11 (l1 a12) .nil) (l1 c4_208)
def u31:=nd c1_72 (nd c3_136 (l1 a11) .nil) (l1 c4_200)
def u32:=nd (c1_68 P) (nd c3_132 (l1 a11) .nil) (l1 c4_196)
def u33:=nd c1_84 (nd c3_148 (l1 c6_276) .nil) (l1 (c5_212 P))
def u34:=nd a11 (nd a11 (l1 c6_268) .nil) (l1 c4_204)
def u35:=nd a11 (nd c3_156 (l1 c6_284) .nil) (l1 a11)
def u36:=nd c1_60 u35 (nd c0_23 (l1 c4_188) (l1 c6_252))
def u37:=nd c1_82 (nd c3_146 (l1 a11) .nil) (l1 c4_172)
def u38:=nd a12 (nd a12 (l1 c6_266) .nil) (l1 c4_202)
def u39:=nd c2_90 (nd a11 (l1 c6_282) .nil) (l1 a12)
def u40:=nd c1_58 u39 (nd c2_122 (l1 a11) (l1 a11))
def u41:=nd c1_70 (nd c3_134 (l1 c6_262) .nil) (l1 a11)
def u42:=nd c0_23 (nd c3_150 (l1 a11) .nil) (l1 c5_214)
def u43:=nd c1_78 (nd c3_142 (l1 c6_270) .nil) (l1 (c4_206 P))
def tc6_:=nd (boot_o_0 P) (nd (boot_o_1 P) (nd (c6_3 P) (nd (boot_o_7 P) (nd a11 (nd c2_31 u13 (nd a11 (l1 a12) (l1 c5_223))) (nd c0_35 u14 (nd a11 (l1 a11) (l1 a11)))) (nd c0_23 (nd a12 u15 (nd c2_103 (l1 c5_167) (l1 (c6_231 P)))) (u16 P))) (nd a11 (nd c0_19 (nd c0_35 u17 (nd c2_99 (l1 c3_163) (l1 c5_227))) (nd c1_51 u18 (nd c2_115 (l1 a11) (l1 a11)))) (nd c0_27 (nd (c0_43 P) u19 (nd a11 (l1 c3_171) (l1 c6_235))) (u21 P)))) (nd (boot_o_5 P) (nd (boot_o_9 P) (nd c0_17 (nd c0_33 (u22 P) (nd c2_97 (l1 a11) (l1 (c5_225 P)))) (nd (c1_49 P) (u23 P) (nd c2_113 (l1 c4_177) (l1 c6_241)))) (nd a11 (nd c0_41 (nd a11 (nd a11 (l1 a12) .nil) (l1 a11)) (nd c0_23 (l1 c3_169) (l1 c6_233))) u25)) (nd a13 (nd c0_21 (nd (c0_37 P) u26 (nd c2_101 (l1 c3_165) (l1 a11))) (nd c1_53 u27 (nd c2_117 (l1 c4_181) (l1 c6_245)))) (nd a11 (nd c0_45 u28 (nd c2_109 (l1 c0_23) (l1 a12))) (nd c1_61 (nd a12 (l1 c3_157) (l1 c5_221)) (nd (c3_125 P) (l1 c4_189) (l1 a11))))))) (nd (boot_o_2 P) (nd (boot_o_4 P) (nd (boot_o_8 P) (nd a12 (nd c0_32 u29 (nd c2_96 (l1 c3_160) (l1 a11))) (nd c0_23 u30 (nd a12 (l1 c4_176) (l1 c6_240)))) (nd (c0_24 P) (nd c0_40 u31 (nd c0_35 (l1 c3_168) (l1 a11))) (nd c1_56 (nd a11 (nd a12 (l1 c6_280) .nil) (l1 c5_216)) (nd c2_120 (l1 c4_184) (l1 c6_248))))) (nd c6_12 (nd c0_20 (nd c0_23 (u32 P) (nd (c2_100 P) (l1 c3_164) (l1 c5_228))) (nd c1_52 (u33 P) (nd c2_116 (l1 a12) (l1 a12)))) (nd c0_28 (nd c0_44 u34 (nd c2_108 (l1 c4_172) (l1 a11))) u36))) (nd (boot_o_6 P) (nd (boot_o_10 P) (nd a11 (nd c0_34 (nd c0_35 (nd a11 (l1 a12) .nil) (l1 a11)) (nd c2_98 (l1 c3_162) (l1 c5_226))) (nd a11 u37 (nd a11 (l1 c4_178) (l1 c6_242)))) (nd a12 (nd a11 u38 (nd (c2_106 P) (l1 c3_170) (l1 c6_234))) u40)) (nd a14 (nd c0_22 (nd a11 u41 (nd c2_102 (l1 (c3_166 P)) (l1 c0_23))) (nd a11 u42 (nd c2_118 (l1 a11) (l1 a11)))) (nd (c0_30 P) (nd c0_46 (u43 P) (nd c2_110 (l1 (c4_174 P)) (l1 c6_238))) (nd (c1_62 P) (nd c2_94 (l1 a11) (l1 c5_222)) (nd a11 (l1 c4_190) (l1 c6_254)))))))
def c7_3:=Obj.mk y3 none (Data.dict (A [de P q3 165 (vs q52 462),de P q5 166 vn,de P q6 167 vn,de P q7 168 y4,de P q8 169 vn,de P q9 170 (vr 6),de P q10 171 (vr 4),de P q11 173 (vs q1 172),de P q12 174 vn,de P q13 193 (vr 21),de P q14 213 (vr 31),de P q15 229 (vr 44),de P q22 254 (vr 63),de P q23 279 (vr 82),de P q30 304 (vr 101),de P q31 329 (vr 120),de P q34 392 (vr 167),de P q48 415 (vr 188),de P q49 438 (vr 207),de P q53 461 (vr 226),de P q55 528 (vr 280),de P q70 562 (vr 308)]) 22) E
def c7_12:=Obj.mk vn none (Data.fields (A [vi 1 0,vi 0 0,vr 20,vi 5 0,vi 0 0,vr 27,vi 7 0,vi 0 0,vr 40,vi 9 0,vi 0 0,vr 52,vi 13 0,vi 0 0,vr 71,vi 17 0,vi 0 0,vr 90,vi 21 0,vi 0 0,vr 109,vi 26 0,vi 0 0,vr 128,vi 43 0,vi 0 0,vr 177,vi 47 0,vi 0 0,vr 196,vi 51 0,vi 0 0,vr 215,vi 56 0,vi 0 0,vr 234,vi 75 0,vi 0 0,vr 290])) E
def c7_280:=Obj.mk y9 none (Data.cls (ClassData.mk q55 [y12] [vr 280,y12] 279 q55 true [] [vr 308] false none false)) (A [none,none,some (vs q55 464),some (vs q55 472),some y18,some vT])
def c7_285:=m10 280
def c7_287:=Obj.mk y3 none (Data.dict (A [de P q17 536 (vs q52 462),de P q18 538 (vs q70 537),de P q19 540 (vi 75 539),de P q24 549 (vr 298),de P q56 556 (vr 305),de P q20 559 (vr 306)]) 6) E
def c7_289:=Obj.mk vn none (Data.fields (A [vi 77 0,vi 4 0,vr 297,vi 81 0,vi 4 0,vr 304])) E
def c7_290:=m0 q70 531 532 533 75 288 289 534 535
def c7_291:=m1 290 287 q52 462
def c7_294:=m16 q25 544 q71 545 q72 546
def c7_296:=m4 q24 q73 (M 15 0)
def c7_297:=m5 q24 541 q73 542 543 77 3 292 293 294 295 296 547 548
def c7_298:=m6 q24 q73 (M 15 0) q52 462 297
def c7_301:=m3 q25 553
def c7_303:=m4 q56 q74 (M 15 1)
def c7_304:=m5 q56 550 q74 551 552 81 1 299 300 301 302 303 554 555
def c7_305:=m6 q56 q74 (M 15 1) q52 462 304
def c7_306:=m14 q72 557 q71 558
def c7_307:=Obj.mk y3 none (Data.dict (A [de P q17 536 (vs q52 462),de P q19 540 (vi 75 539),de P q24 549 (vr 298),de P q56 556 (vr 305),de P q20 559 (vr 306),de P q5 560 vn]) 2) E
def c7_308:=Obj.mk y9 none (Data.cls (ClassData.mk q70 [vr 280] [vr 308,vr 280,y12] 307 q70 true [] [] false none false)) (A [sr 285,none,some (vs q70 529),some (vs q70 537),some y18,some vT])
def c7_309:=m8 308
def c7_310:=m9 308
def u44:=nd a11 (nd a12 (l1 (c7_287 P)) .nil) (l1 c5_223)
def u45:=nd c2_103 (nd c5_167 (l1 a11) .nil) (l1 (c6_231 P))
def u46:=nd c2_99 (nd c3_163 (l1 c7_291) .nil) (l1 c5_227)
def u47:=nd c2_115 (nd a11 (l1 (c7_307 P)) .nil) (l1 a11)
def u48:=nd a11 (nd c3_171 (l1 a11) .nil) (l1 c6_235)
def u49:=nd c2_97 (nd a11 (l1 c7_289) .nil) (l1 (c5_225 P))
def u50:=nd c2_113 (nd c4_177 (l1 c7_305) .nil) (l1 c6_241)
def u51:=nd c0_23 (nd c3_169 (l1 c7_297) .nil) (l1 c6_233)
def u52:=nd c2_101 (nd c3_165 (l1 a12) .nil) (l1 a11)
def u53:=nd c2_117 (nd c4_181 (l1 c7_309) .nil) (l1 c6_245)
def u54:=nd c2_109 (nd c0_23 (l1 c7_301) .nil) (l1 a12)
def u55:=nd a12 (nd c3_157 (l1 c7_285) .nil) (l1 c5_221)
def u56:=nd c2_96 (nd c3_160 (l1 a11) .nil) (l1 a11)
def u57:=nd a12 (nd c4_176 (l1 c7_304) .nil) (l1 c6_240)
def u58:=nd c0_35 (nd c3_168 (l1 c7_296) .nil) (l1 a11)
def u59:=nd a11 (nd a12 (l1 c7_280) .nil) (l1 c5_216)
def u60:=nd (c2_100 P) (nd c3_164 (l1 a11) .nil) (l1 c5_228)
def u61:=nd c2_108 (nd c4_172 (l1 a12) .nil) (l1 a11)
def u62:=nd c2_98 (nd c3_162 (l1 c7_290) .nil) (l1 c5_226)
def u63:=nd a11 (nd c4_178 (l1 c7_306) .nil) (l1 c6_242)
def u64:=nd (c2_106 P) (nd c3_170 (l1 c7_298) .nil) (l1 c6_234)
def u65:=nd c2_102 (nd (c3_166 P) (l1 c7_294) .nil) (l1 c0_23)
def u66:=nd c2_118 (nd a11 (l1 c7_310) .nil) (l1 a11)
def u67:=nd c2_110 (nd (c4_174 P) (l1 a11) .nil) (l1 c6_238)
def u68:=nd c2_94 (nd a11 (l1 c0_23) .nil) (l1 c5_222)
def tc7_:=nd (boot_o_0 P) (nd (boot_o_1 P) (nd (c7_3 P) (nd (boot_o_7 P) (nd a11 (nd c2_31 u13 (u44 P)) (nd c0_35 u14 (nd a11 (nd a11 (l1 c7_303) .nil) (l1 a11)))) (nd c0_23 (nd a12 u15 (u45 P)) (u16 P))) (nd a11 (nd c0_19 (nd c0_35 u17 u46) (nd c1_51 u18 (u47 P))) (nd c0_27 (nd (c0_43 P) u19 u48) (u21 P)))) (nd (boot_o_5 P) (nd (boot_o_9 P) (nd c0_17 (nd c0_33 (u22 P) (u49 P)) (nd (c1_49 P) (u23 P) u50)) (nd a11 (nd c0_41 (nd a11 (nd a11 (l1 a12) .nil) (l1 a11)) u51) u25)) (nd a13 (nd c0_21 (nd (c0_37 P) u26 u52) (nd c1_53 u27 u53)) (nd a11 (nd c0_45 u28 u54) (nd c1_61 u55 (nd (c3_125 P) (l1 c4_189) (l1 a11))))))) (nd (boot_o_2 P) (nd (boot_o_4 P) (nd (boot_o_8 P) (nd a12 (nd c0_32 u29 u56) (nd c0_23 u30 u57)) (nd (c0_24 P) (nd c0_40 u31 u58) (nd c1_56 u59 (nd c2_120 (l1 c4_184) (l1 c6_248))))) (nd c7_12 (nd c0_20 (nd c0_23 (u32 P) (u60 P)) (nd c1_52 (u33 P) (nd c2_116 (nd a12 (l1 c7_308) .nil) (l1 a12)))) (nd c0_28 (nd c0_44 u34 u61) u36))) (nd (boot_o_6 P) (nd (boot_o_10 P) (nd a11 (nd c0_34 (nd c0_35 (nd a11 (l1 a12) .nil) (l1 a11)) u62) (nd a11 u37 u63)) (nd a12 (nd a11 u38 (u64 P)) u40)) (nd a14 (nd c0_22 (nd a11 u41 (u65 P)) (nd a11 u42 u66)) (nd (c0_30 P) (nd c0_46 (u43 P) (u67 P)) (nd (c1_62 P) u68 (nd a11 (l1 c4_190) (l1 c6_254)))))))
def c8_3:=Obj.mk y3 none (Data.dict (A [de P q3 165 (vs q52 462),de P q5 166 vn,de P q6 167 vn,de P q7 168 y4,de P q8 169 vn,de P q9 170 (vr 6),de P q10 171 (vr 4),de P q11 173 (vs q1 172),de P q12 174 vn,de P q13 193 (vr 21),de P q14 213 (vr 31),de P q15 229 (vr 44),de P q22 254 (vr 63),de P q23 279 (vr 82),de P q30 304 (vr 101),de P q31 329 (vr 120),de P q34 392 (vr 167),de P q48 415 (vr 188),de P q49 438 (vr 207),de P q53 461 (vr 226),de P q55 528 (vr 280),de P q70 562 (vr 308),de P q75 601 (vr 341)]) 23) E
def c8_12:=Obj.mk vn none (Data.fields (A [vi 1 0,vi 0 0,vr 20,vi 5 0,vi 0 0,vr 27,vi 7 0,vi 0 0,vr 40,vi 9 0,vi 0 0,vr 52,vi 13 0,vi 0 0,vr 71,vi 17 0,vi 0 0,vr 90,vi 21 0,vi 0 0,vr 109,vi 26 0,vi 0 0,vr 128,vi 43 0,vi 0 0,vr 177,vi 47 0,vi 0 0,vr 196,vi 51 0,vi 0 0,vr 215,vi 56 0,vi 0 0,vr 234,vi 75 0,vi 0 0,vr 290,vi 83 0,vi 0 0,vr 316])) E
def c8_308:=Obj.mk y9 none (Data.cls (ClassData.mk q70 [vr 280] [vr 308,vr 280,y12] 307 q70 true [] [vr 341] false none false)) (A [sr 285,none,some (vs q70 529),some (vs q70 537),some y18,some vT])
def c8_311:=m10 308
def m17 (x0 : Nat) (x1 : Nat) (x2 : Str) (x3 : Nat) (x4 : Nat) (x5 : Int) (x6 : Nat) (x7 : Str) (x8 : Nat) (x9 : Nat) (x10 : Nat) (x11 : Nat) (x12 : Nat) (x13 : Nat) (x14 : Nat) (x15 : Nat):=Obj.mk y3 none (Data.dict (A [de P q17 x0 (vs q52 462),de P q18 x1 (vs x2 x3),de P q19 x4 (vi x5 x6),de P x7 x8 (vr x9),de P q58 x10 (vr x11),de P q61 x12 (vr x13),de P q20 x14 (vr x15)]) 7) E
def c8_313:=m17 P 570 572 q75 571 574 83 573 q57 581 324 590 331 597 338 598 339
def c8_315:=m2 85 4 323 88 330 91 337
def c8_316:=m0 q75 565 566 567 83 314 315 568 569
def c8_317:=m1 316 313 q52 462
def c8_320:=m3 q25 578
def c8_322:=m4 q57 q76 (M 16 0)
def c8_323:=m5 q57 575 q76 576 577 85 1 318 319 320 321 322 579 580
def c8_324:=m6 q57 q76 (M 16 0) q52 462 323
def c8_327:=m16 q25 585 q64 586 q65 587
def c8_329:=m4 q58 q77 (M 16 1)
def c8_330:=m5 q58 582 q77 583 584 88 3 325 326 327 328 329 588 589
def c8_331:=m6 q58 q77 (M 16 1) q52 462 330
def c8_334:=m3 q25 594
def c8_336:=m4 q61 q78 (M 16 2)
def c8_337:=m5 q61 591 q78 592 593 91 1 332 333 334 335 336 595 596
def c8_338:=m6 q61 q78 (M 16 2) q52 462 337
def m18 (x0 : Nat) (x1 : Nat) (x2 : Int) (x3 : Nat) (x4 : Str) (x5 : Nat) (x6 : Nat) (x7 : Nat) (x8 : Nat) (x9 : Nat) (x10 : Nat) (x11 : Nat) (x12 : Nat) (x13 : Nat):=Obj.mk y3 none (Data.dict (A [de P q17 x0 (vs q52 462),de P q19 x1 (vi x2 x3),de P x4 x5 (vr x6),de P q58 x7 (vr x8),de P q61 x9 (vr x10),de P q20 x11 (vr x12),de P q5 x13 vn]) 2) E
def c8_340:=m18 P 570 574 83 573 q57 581 324 590 331 597 338 598 339 599
def c8_341:=Obj.mk y9 none (Data.cls (ClassData.mk q75 [vr 308] [vr 341,vr 308,vr 280,y12] 340 q75 true [] [] false none false)) (A [sr 311,none,some (vs q75 563),some (vs q75 571),some y18,some vT])
def c8_342:=m8 341
def c8_343:=m9 341
def u69:=nd c1_63 (nd c3_127 (l1 c6_255) .nil) (nd c4_172 (l1 a12) .nil)
def u70:=nd c1_79 (nd c3_143 (l1 a11) .nil) (nd c4_207 (l1 a11) .nil)
def u71:=nd c1_71 (nd c3_135 (l1 c6_263) .nil) (nd a12 (l1 c8_327) .nil)
def u72:=nd (c2_87 P) (nd a11 (l1 (c6_279 P)) .nil) (nd c5_215 (l1 c8_343) .nil)
def u73:=nd c0_23 (nd a12 (l1 c6_259) .nil) (nd c4_195 (l1 c8_323) .nil)
def u74:=nd c1_83 (nd a11 (l1 c6_275) .nil) (nd c0_23 (l1 a11) .nil)
def u75:=nd c1_75 (nd c3_139 (l1 a11) .nil) (nd c4_203 (l1 c8_331) .nil)
def u76:=nd a11 (nd (c4_187 P) (l1 c8_315) .nil) (l1 a12)
def u77:=nd c1_65 (nd c3_129 (l1 a11) .nil) (nd (c4_193 P) (l1 a11) .nil)
def u78:=nd (c1_81 P) (nd a12 (l1 c6_273) .nil) (nd c4_209 (l1 c8_337) .nil)
def u79:=nd a11 (nd a11 (l1 a12) .nil) (nd a11 (l1 c8_329) .nil)
def u80:=nd c2_121 (nd c4_185 (l1 (c8_313 P)) .nil) (l1 c6_249)
def u81:=nd a11 (nd a11 (l1 c6_261) .nil) (nd c4_197 (l1 a11) .nil)
def u82:=nd c0_35 (nd c3_149 (l1 c6_277) .nil) (nd a11 (l1 c8_341) .nil)
def u83:=nd c1_77 (nd c3_141 (l1 c6_269) .nil) (nd a11 (l1 a12) .nil)
def u84:=nd (c3_125 P) (nd c4_189 (l1 c8_317) .nil) (l1 a11)
def u85:=nd c1_64 (nd c3_128 (l1 c6_256) .nil) (nd c0_23 (l1 c8_320) .nil)
def u86:=nd c1_80 (nd a11 (l1 a12) .nil) (nd c4_208 (l1 c8_336) .nil)
def u87:=nd c1_72 (nd c3_136 (l1 a11) .nil) (nd c4_200 (l1 a11) .nil)
def u88:=nd (c1_68 P) (nd c3_132 (l1 a11) .nil) (nd c4_196 (l1 c8_324) .nil)
def u89:=nd c1_84 (nd c3_148 (l1 c6_276) .nil) (nd (c5_212 P) (l1 (c8_340 P)) .nil)
def u90:=nd a11 (nd a11 (l1 c6_268) .nil) (nd c4_204 (l1 a11) .nil)
def u91:=nd c0_23 (nd c4_188 (l1 c8_316) .nil) (l1 c6_252)
def u92:=nd c0_35 (nd a11 (l1 a12) .nil) (nd a11 (l1 c8_322) .nil)
def u93:=nd c1_82 (nd c3_146 (l1 a11) .nil) (nd c4_172 (l1 c8_338) .nil)
def u94:=nd a12 (nd a12 (l1 c6_266) .nil) (nd c4_202 (l1 c8_330) .nil)
def u95:=nd c1_70 (nd c3_134 (l1 c6_262) .nil) (nd a11 (l1 a12) .nil)
def u96:=nd c0_23 (nd c3_150 (l1 a11) .nil) (nd c5_214 (l1 c8_342) .nil)
def u97:=nd c1_78 (nd c3_142 (l1 c6_270) .nil) (nd (c4_206 P) (l1 c8_334) .nil)
def u98:=nd a11 (nd c4_190 (l1 a11) .nil) (l1 c6_254)
def tc8_:=nd (boot_o_0 P) (nd (boot_o_1 P) (nd (c8_3 P) (nd (boot_o_7 P) (nd a11 (nd c2_31 u69 (u44 P)) (nd c0_35 u70 (nd a11 (nd a11 (l1 c7_303) .nil) (l1 a11)))) (nd c0_23 (nd a12 u71 (u45 P)) (nd a12 (u72 P) (nd (c2_119 P) (nd c4_183 (l1 c8_311) .nil) (l1 c6_247))))) (nd a11 (nd c0_19 (nd c0_35 u73 u46) (nd c1_51 u74 (u47 P))) (nd c0_27 (nd (c0_43 P) u75 u48) (nd c1_59 u20 (u76 P))))) (nd (boot_o_5 P) (nd (boot_o_9 P) (nd c0_17 (nd c0_33 (u77 P) (u49 P)) (nd (c1_49 P) (u78 P) u50)) (nd a11 (nd c0_41 u79 u51) (nd a11 u24 (u80 P)))) (nd a13 (nd c0_21 (nd (c0_37 P) u81 u52) (nd c1_53 u82 u53)) (nd a11 (nd c0_45 u83 u54) (nd c1_61 u55 (u84 P)))))) (nd (boot_o_2 P) (nd (boot_o_4 P) (nd (boot_o_8 P) (nd a12 (nd c0_32 u85 u56) (nd c0_23 u86 u57)) (nd (c0_24 P) (nd c0_40 u87 u58) (nd c1_56 u59 (nd c2_120 (nd c4_184 (l1 c0_23) .nil) (l1 c6_248))))) (nd c8_12 (nd c0_20 (nd c0_23 (u88 P) (u60 P)) (nd c1_52 (u89 P) (nd c2_116 (nd a12 (l1 c8_308) .nil) (l1 a12)))) (nd c0_28 (nd c0_44 u90 u61) (nd c1_60 u35 u91)))) (nd (boot_o_6 P) (nd (boot_o_10 P) (nd a11 (nd c0_34 u92 u62) (nd a11 u93 u63)) (nd a12 (nd a11 u94 (u64 P)) (nd c1_58 u39 (nd c2_122 (nd a11 (l1 a11) .nil) (l1 a11))))) (nd a14 (nd c0_22 (nd a11 u95 (u65 P)) (nd a11 u96 u66)) (nd (c0_30 P) (nd c0_46 (u97 P) (u67 P)) (nd (c1_62 P) u68 u98)))))
def c9_3:=Obj.mk y3 none (Data.dict (A [de P q3 165 (vs q52 462),de P q5 166 vn,de P q6 167 vn,de P q7 168 y4,de P q8 169 vn,de P q9 170 (vr 6),de P q10 171 (vr 4),de P q11 173 (vs q1 172),de P q12 174 vn,de P q13 193 (vr 21),de P q14 213 (vr 31),de P q15 229 (vr 44),de P q22 254 (vr 63),de P q23 279 (vr 82),de P q30 304 (vr 101),de P q31 329 (vr 120),de P q34 392 (vr 167),de P q48 415 (vr 188),de P q49 438 (vr 207),de P q53 461 (vr 226),de P q55 528 (vr 280),de P q70 562 (vr 308),de P q75 601 (vr 341),de P q79 640 (vr 374)]) 24) E
def c9_12:=Obj.mk vn none (Data.fields (A [vi 1 0,vi 0 0,vr 20,vi 5 0,vi 0 0,vr 27,vi 7 0,vi 0 0,vr 40,vi 9 0,vi 0 0,vr 52,vi 13 0,vi 0 0,vr 71,vi 17 0,vi 0 0,vr 90,vi 21 0,vi 0 0,vr 109,vi 26 0,vi 0 0,vr 128,vi 43 0,vi 0 0,vr 177,vi 47 0,vi 0 0,vr 196,vi 51 0,vi 0 0,vr 215,vi 56 0,vi 0 0,vr 234,vi 75 0,vi 0 0,vr 290,vi 83 0,vi 0 0,vr 316,vi 93 0,vi 0 0,vr 349])) E
def c9_308:=Obj.mk y9 none (Data.cls (ClassData.mk q70 [vr 280] [vr 308,vr 280,y12] 307 q70 true [] [vr 341,vr 374] false none false)) (A [sr 285,none,some (vs q70 529),some (vs q70 537),some y18,some vT])
def c9_346:=m17 P 609 611 q79 610 613 93 612 q57 620 357 629 364 636 371 637 372
def c9_348:=m2 95 4 356 98 363 101 370
def c9_349:=m0 q79 604 605 606 93 347 348 607 608
def c9_350:=m1 349 346 q52 462
def c9_353:=m3 q25 617
def c9_355:=m4 q57 q80 (M 17 0)
def c9_356:=m5 q57 614 q80 615 616 95 1 351 352 353 354 355 618 619
def c9_357:=m6 q57 q80 (M 17 0) q52 462 356
def c9_360:=m16 q25 624 q64 625 q65 626
def c9_362:=m4 q58 q81 (M 17 1)
def c9_363:=m5 q58 621 q81 622 623 98 3 358 359 360 361 362 627 628
def c9_364:=m6 q58 q81 (M 17 1) q52 462 363
def c9_367:=m3 q25 633
def c9_369:=m4 q61 q82 (M 17 2)
def c9_370:=m5 q61 630 q82 631 632 101 1 365 366 367 368 369 634 635
def c9_371:=m6 q61 q82 (M 17 2) q52 462 370
def c9_373:=m18 P 609 613 93 612 q57 620 357 629 364 636 371 637 372 638
def c9_374:=Obj.mk y9 none (Data.cls (ClassData.mk q79 [vr 308] [vr 374,vr 308,vr 280,y12] 373 q79 true [] [] false none false)) (A [sr 344,none,some (vs q79 602),some (vs q79 610),some y18,some vT])
def c9_375:=m8 374
def c9_376:=m9 374
def u99:=nd a11 (nd a11 (l1 c7_303) .nil) (nd a11 (l1 c9_367) .nil)
def u100:=nd c2_103 (nd c5_167 (l1 a11) .nil) (nd (c6_231 P) (l1 a12) .nil)
def u101:=nd (c2_119 P) (nd c4_183 (l1 c8_311) .nil) (nd c6_247 (l1 c9_375) .nil)
def u102:=nd c2_115 (nd a11 (l1 (c7_307 P)) .nil) (nd a11 (l1 c9_371) .nil)
def u103:=nd a11 (nd c3_171 (l1 a11) .nil) (nd c6_235 (l1 c9_363) .nil)
def u104:=nd c2_113 (nd c4_177 (l1 c7_305) .nil) (nd c6_241 (l1 c9_369) .nil)
def u105:=nd c0_23 (nd c3_169 (l1 c7_297) .nil) (nd c6_233 (l1 a11) .nil)
def u106:=nd c2_117 (nd c4_181 (l1 c7_309) .nil) (nd c6_245 (l1 (c9_373 P)) .nil)
def u107:=nd c2_109 (nd c0_23 (l1 c7_301) .nil) (nd a12 (l1 a11) .nil)
def u108:=nd a12 (nd c4_176 (l1 c7_304) .nil) (nd c6_240 (l1 a11) .nil)
def u109:=nd c0_35 (nd c3_168 (l1 c7_296) .nil) (nd a11 (l1 c9_360) .nil)
def u110:=nd c2_120 (nd c4_184 (l1 c0_23) .nil) (nd c6_248 (l1 c9_376) .nil)
def u111:=nd c2_116 (nd a12 (l1 c9_308) .nil) (nd a12 (l1 a11) .nil)
def u112:=nd c2_108 (nd c4_172 (l1 a12) .nil) (nd a11 (l1 c9_364) .nil)
def u113:=nd a11 (nd c4_178 (l1 c7_306) .nil) (nd c6_242 (l1 c9_370) .nil)
def u114:=nd (c2_106 P) (nd c3_170 (l1 c7_298) .nil) (nd c6_234 (l1 c9_362) .nil)
def u115:=nd c2_102 (nd (c3_166 P) (l1 c7_294) .nil) (nd c0_23 (l1 a11) .nil)
def u116:=nd c2_118 (nd a11 (l1 c7_310) .nil) (nd a11 (l1 c9_374) .nil)
def u117:=nd c2_110 (nd (c4_174 P) (l1 a11) .nil) (nd c6_238 (l1 a12) .nil)
def tc9_:=nd (boot_o_0 P) (nd (boot_o_1 P) (nd (c9_3 P) (nd (boot_o_7 P) (nd a11 (nd c2_31 u69 (nd a11 (nd a12 (l1 (c7_287 P)) .nil) (nd c5_223 (l1 a11) .nil))) (nd c0_35 u70 u99)) (nd c0_23 (nd a12 u71 (u100 P)) (nd a12 (u72 P) (u101 P)))) (nd a11 (nd c0_19 (nd c0_35 u73 (nd c2_99 (nd c3_163 (l1 c7_291) .nil) (nd c5_227 (l1 c9_355) .nil))) (nd c1_51 u74 (u102 P))) (nd c0_27 (nd (c0_43 P) u75 u103) (nd c1_59 (nd c2_91 (nd c3_155 (l1 c6_283) .nil) (nd c5_219 (l1 a11) .nil)) (u76 P))))) (nd (boot_o_5 P) (nd (boot_o_9 P) (nd c0_17 (nd c0_33 (u77 P) (nd c2_97 (nd a11 (l1 c7_289) .nil) (nd (c5_225 P) (l1 c9_353) .nil))) (nd (c1_49 P) (u78 P) u104)) (nd a11 (nd c0_41 u79 u105) (nd a11 (nd c2_89 (nd c3_153 (l1 c6_281) .nil) (nd a11 (l1 c0_23) .nil)) (u80 P)))) (nd a13 (nd c0_21 (nd (c0_37 P) u81 (nd c2_101 (nd c3_165 (l1 a12) .nil) (nd a11 (l1 c9_357) .nil))) (nd c1_53 u82 (u106 P))) (nd a11 (nd c0_45 u83 u107) (nd c1_61 (nd a12 (nd c3_157 (l1 c7_285) .nil) (nd c5_221 (l1 c9_349) .nil)) (u84 P)))))) (nd (boot_o_2 P) (nd (boot_o_4 P) (nd (boot_o_8 P) (nd a12 (nd c0_32 u85 (nd c2_96 (nd c3_160 (l1 a11) .nil) (nd a11 (l1 a12) .nil))) (nd c0_23 u86 u108)) (nd (c0_24 P) (nd c0_40 u87 u109) (nd c1_56 (nd a11 (nd a12 (l1 c7_280) .nil) (nd c5_216 (l1 c8_311) .nil)) u110))) (nd c9_12 (nd c0_20 (nd c0_23 (u88 P) (nd (c2_100 P) (nd c3_164 (l1 a11) .nil) (nd c5_228 (l1 c9_356) .nil))) (nd c1_52 (u89 P) u111)) (nd c0_28 (nd c0_44 u90 u112) (nd c1_60 (nd a11 (nd c3_156 (l1 c6_284) .nil) (nd a11 (l1 c9_348) .nil)) u91)))) (nd (boot_o_6 P) (nd (boot_o_10 P) (nd a11 (nd c0_34 u92 (nd c2_98 (nd c3_162 (l1 c7_290) .nil) (nd c5_226 (l1 a11) .nil))) (nd a11 u93 u113)) (nd a12 (nd a11 u94 (u114 P)) (nd c1_58 (nd c2_90 (nd a11 (l1 c6_282) .nil) (nd a12 (l1 (c9_346 P)) .nil)) (nd c2_122 (nd a11 (l1 a11) .nil) (l1 a11))))) (nd a14 (nd c0_22 (nd a11 u95 (u115 P)) (nd a11 u96 u116)) (nd (c0_30 P) (nd c0_46 (u97 P) (u117 P)) (nd (c1_62 P) (nd c2_94 (nd a11 (l1 c0_23) .nil) (nd c5_222 (l1 c9_350) .nil)) u98)))))
def c10_3:=Obj.mk y3 none (Data.dict (A [de P q3 165 (vs q52 462),de P q5 166 vn,de P q6 167 vn,de P q7 168 y4,de P q8 169 vn,de P q9 170 (vr 6),de P q10 171 (vr 4),de P q11 173 (vs q1 172),de P q12 174 vn,de P q13 193 (vr 21),de P q14 213 (vr 31),de P q15 229 (vr 44),de P q22 254 (vr 63),de P q23 279 (vr 82),de P q30 304 (vr 101),de P q31 329 (vr 120),de P q34 392 (vr 167),de P q48 415 (vr 188),de P q49 438 (vr 207),de P q53 461 (vr 226),de P q55 528 (vr 280),de P q70 562 (vr 308),de P q75 601 (vr 341),de P q79 640 (vr 374),de P q83 696 (vr 419)]) 25) E
def c10_12:=Obj.mk vn none (Data.fields (A [vi 1 0,vi 0 0,vr 20,vi 5 0,vi 0 0,vr 27,vi 7 0,vi 0 0,vr 40,vi 9 0,vi 0 0,vr 52,vi 13 0,vi 0 0,vr 71,vi 17 0,vi 0 0,vr 90,vi 21 0,vi 0 0,vr 109,vi 26 0,vi 0 0,vr 128,vi 43 0,vi 0 0,vr 177,vi 47 0,vi 0 0,vr 196,vi 51 0,vi 0 0,vr 215,vi 56 0,vi 0 0,vr 234,vi 75 0,vi 0 0,vr 290,vi 83 0,vi 0 0,vr 316,vi 93 0,vi 0 0,vr 349,vi 103 0,vi 0 0,vr 382])) E
def c10_280:=Obj.mk y9 none (Data.cls (ClassData.mk q55 [y12] [vr 280,y12] 279 q55 true [] [vr 308,vr 419] false none false)) (A [none,none,some (vs q55 464),some (vs q55 472),some y18,some vT])
def c10_379:=Obj.mk y3 none (Data.dict (A [de P q17 648 (vs q52 462),de P q18 650 (vs q83 649),de P q19 652 (vi 103 651),de P q24 662 (vr 390),de P q56 669 (vr 397),de P q57 676 (vr 404),de P q58 682 (vr 409),de P q61 689 (vr 416),de P q20 693 (vr 417)]) 9) E
def c10_381:=m11 105 4 389 110 396 113 403 116 408 119 415
def c10_382:=m0 q83 643 644 645 103 380 381 646 647
def c10_383:=m1 382 379 q52 462
def m19 (x0 : Str) (x1 : Nat) (x2 : Str) (x3 : Nat) (x4 : Str) (x5 : Nat) (x6 : Str) (x7 : Nat):=Obj.mk y0 none (Data.seq (A [vs x0 x1,vs x2 x3,vs x4 x5,vs x6 x7]) 0) E
def c10_386:=m19 q25 656 q71 657 q84 658 q85 659
def c10_388:=m4 q24 q86 (M 18 0)
def c10_389:=m5 q24 653 q86 654 655 105 4 384 385 386 387 388 660 661
def c10_390:=m6 q24 q86 (M 18 0) q52 462 389
def c10_393:=m3 q25 666
def c10_395:=m4 q56 q87 (M 18 1)
def c10_396:=m5 q56 663 q87 664 665 110 1 391 392 393 394 395 667 668
def c10_397:=m6 q56 q87 (M 18 1) q52 462 396
def c10_400:=m3 q25 673
def c10_402:=m4 q57 q88 (M 18 2)
def c10_403:=m5 q57 670 q88 671 672 113 1 398 399 400 401 402 674 675
def c10_404:=m6 q57 q88 (M 18 2) q52 462 403
def c10_407:=m4 q58 q89 (M 18 3)
def m20 (x0 : Str) (x1 : Nat) (x2 : Str) (x3 : Nat) (x4 : Nat) (x5 : Int) (x6 : Int) (x7 : Nat) (x8 : Nat) (x9 : Nat) (x10 : Int) (x11 : Nat):=Obj.mk y1 none (Data.fields (A [vs x0 x1,vs x2 x3,vs q1 x4,vi x5 0,vi x6 0,vi 0 0,vi 0 0,vi 3 0,vr x7,vT,vi 181 0,vr x8,vn,vn,vn,vr x9,vi x10 0,vi x5 0,vs q1 x11])) E
def c10_408:=m20 q58 677 q89 678 679 116 3 405 406 407 680 681
def c10_409:=m6 q58 q89 (M 18 3) q52 462 408
def c10_412:=m3 q25 686
def c10_414:=m4 q61 q90 (M 18 4)
def c10_415:=m5 q61 683 q90 684 685 119 1 410 411 412 413 414 687 688
def c10_416:=m6 q61 q90 (M 18 4) q52 462 415
def c10_417:=m16 q85 690 q84 691 q71 692
def c10_418:=Obj.mk y3 none (Data.dict (A [de P q17 648 (vs q52 462),de P q19 652 (vi 103 651),de P q24 662 (vr 390),de P q56 669 (vr 397),de P q57 676 (vr 404),de P q58 682 (vr 409),de P q61 689 (vr 416),de P q20 693 (vr 417),de P q5 694 vn]) 2) E
def c10_419:=Obj.mk y9 none (Data.cls (ClassData.mk q83 [vr 280] [vr 419,vr 280,y12] 418 q83 true [] [] false none false)) (A [sr 377,none,some (vs q83 641),some (vs q83 649),some y18,some vT])
def c10_420:=m8 419
def c10_421:=m9 419
def u118:=nd a11 (nd a12 (l1 (c7_287 P)) (l1 c10_415)) (nd c5_223 (l1 a11) .nil)
def u119:=nd c1_79 (nd c3_143 (l1 a11) (l1 a12)) (nd c4_207 (l1 a11) .nil)
def u120:=nd (c2_87 P) (nd a11 (l1 (c6_279 P)) (l1 c10_407)) (nd c5_215 (l1 c8_343) .nil)
def u121:=nd c2_99 (nd c3_163 (l1 c7_291) (l1 c10_419)) (nd c5_227 (l1 c9_355) .nil)
def u122:=nd c1_83 (nd a11 (l1 c6_275) (l1 c10_403)) (nd c0_23 (l1 a11) .nil)
def u123:=nd c2_91 (nd c3_155 (l1 c6_283) (l1 a12)) (nd c5_219 (l1 a11) .nil)
def u124:=nd c2_97 (nd a11 (l1 c7_289) (l1 c10_417)) (nd (c5_225 P) (l1 c9_353) .nil)
def u125:=nd (c1_81 P) (nd a12 (l1 c6_273) (l1 a11)) (nd c4_209 (l1 c8_337) .nil)
def u126:=nd c2_89 (nd c3_153 (l1 c6_281) (l1 c10_409)) (nd a11 (l1 c0_23) .nil)
def u127:=nd c2_101 (nd c3_165 (l1 a12) (l1 c10_421)) (nd a11 (l1 c9_357) .nil)
def u128:=nd c0_35 (nd c3_149 (l1 c6_277) (l1 a11)) (nd a11 (l1 c8_341) .nil)
def u129:=nd a12 (nd c3_157 (l1 c7_285) (l1 a11)) (nd c5_221 (l1 c9_349) .nil)
def u130:=nd c2_96 (nd c3_160 (l1 a11) (l1 c10_416)) (nd a11 (l1 a12) .nil)
def u131:=nd c1_80 (nd a11 (l1 a12) (l1 c10_400)) (nd c4_208 (l1 c8_336) .nil)
def u132:=nd a11 (nd a12 (l1 c10_280) (l1 c10_408)) (nd c5_216 (l1 c8_311) .nil)
def u133:=nd (c2_100 P) (nd c3_164 (l1 a11) (l1 c10_420)) (nd c5_228 (l1 c9_356) .nil)
def u134:=nd c1_84 (nd c3_148 (l1 c6_276) (l1 c10_404)) (nd (c5_212 P) (l1 (c8_340 P)) .nil)
def u135:=nd a11 (nd c3_156 (l1 c6_284) (l1 c10_412)) (nd a11 (l1 c9_348) .nil)
def u136:=nd c2_98 (nd c3_162 (l1 c7_290) (l1 (c10_418 P))) (nd c5_226 (l1 a11) .nil)
def u137:=nd c1_82 (nd c3_146 (l1 a11) (l1 c10_402)) (nd c4_172 (l1 c8_338) .nil)
def u138:=nd c2_90 (nd a11 (l1 c6_282) (l1 a11)) (nd a12 (l1 (c9_346 P)) .nil)
def u139:=nd c0_23 (nd c3_150 (l1 a11) (l1 a12)) (nd c5_214 (l1 c8_342) .nil)
def u140:=nd c1_78 (nd c3_142 (l1 c6_270) (l1 a11)) (nd (c4_206 P) (l1 c8_334) .nil)
def u141:=nd c2_94 (nd a11 (l1 c0_23) (l1 c10_414)) (nd c5_222 (l1 c9_350) .nil)
def tc10_:=nd (boot_o_0 P) (nd (boot_o_1 P) (nd (c10_3 P) (nd (boot_o_7 P) (nd a11 (nd c2_31 (nd c1_63 (nd c3_127 (l1 c6_255) (l1 c10_383)) (nd c4_172 (l1 a12) .nil)) (u118 P)) (nd c0_35 u119 u99)) (nd c0_23 (nd a12 (nd c1_71 (nd c3_135 (l1 c6_263) (l1 a11)) (nd a12 (l1 c8_327) .nil)) (u100 P)) (nd a12 (u120 P) (u101 P)))) (nd a11 (nd c0_19 (nd c0_35 (nd c0_23 (nd a12 (l1 c6_259) (l1 a11)) (nd c4_195 (l1 c8_323) .nil)) u121) (nd c1_51 u122 (u102 P))) (nd c0_27 (nd (c0_43 P) (nd c1_75 (nd c3_139 (l1 a11) (l1 c10_395)) (nd c4_203 (l1 c8_331) .nil)) u103) (nd c1_59 u123 (nd a11 (nd (c4_187 P) (l1 c8_315) .nil) (nd a12 (l1 (c10_379 P)) .nil)))))) (nd (boot_o_5 P) (nd (boot_o_9 P) (nd c0_17 (nd c0_33 (nd c1_65 (nd c3_129 (l1 a11) (l1 a12)) (nd (c4_193 P) (l1 a11) .nil)) (u124 P)) (nd (c1_49 P) (u125 P) u104)) (nd a11 (nd c0_41 (nd a11 (nd a11 (l1 a12) (l1 c10_393)) (nd a11 (l1 c8_329) .nil)) u105) (nd a11 u126 (nd c2_121 (nd c4_185 (l1 (c8_313 P)) .nil) (nd c6_249 (l1 c7_285) .nil))))) (nd a13 (nd c0_21 (nd (c0_37 P) (nd a11 (nd a11 (l1 c6_261) (l1 c10_389)) (nd c4_197 (l1 a11) .nil)) u127) (nd c1_53 u128 (u106 P))) (nd a11 (nd c0_45 (nd c1_77 (nd c3_141 (l1 c6_269) (l1 c10_397)) (nd a11 (l1 a12) .nil)) u107) (nd c1_61 u129 (nd (c3_125 P) (nd c4_189 (l1 c8_317) .nil) (nd a11 (l1 c10_381) .nil))))))) (nd (boot_o_2 P) (nd (boot_o_4 P) (nd (boot_o_8 P) (nd a12 (nd c0_32 (nd c1_64 (nd c3_128 (l1 c6_256) (l1 a11)) (nd c0_23 (l1 c8_320) .nil)) u130) (nd c0_23 u131 u108)) (nd (c0_24 P) (nd c0_40 (nd c1_72 (nd c3_136 (l1 a11) (l1 a12)) (nd c4_200 (l1 a11) .nil)) u109) (nd c1_56 u132 u110))) (nd c10_12 (nd c0_20 (nd c0_23 (nd (c1_68 P) (nd c3_132 (l1 a11) (l1 c10_388)) (nd c4_196 (l1 c8_324) .nil)) (u133 P)) (nd c1_52 (u134 P) u111)) (nd c0_28 (nd c0_44 (nd a11 (nd a11 (l1 c6_268) (l1 c10_396)) (nd c4_204 (l1 a11) .nil)) u112) (nd c1_60 u135 (nd c0_23 (nd c4_188 (l1 c8_316) .nil) (nd c6_252 (l1 a11) .nil)))))) (nd (boot_o_6 P) (nd (boot_o_10 P) (nd a11 (nd c0_34 (nd c0_35 (nd a11 (l1 a12) (l1 c10_386)) (nd a11 (l1 c8_322) .nil)) (u136 P)) (nd a11 u137 u113)) (nd a12 (nd a11 (nd a12 (nd a12 (l1 c6_266) (l1 a11)) (nd c4_202 (l1 c8_330) .nil)) (u114 P)) (nd c1_58 (u138 P) (nd c2_122 (nd a11 (l1 a11) .nil) (nd a11 (l1 c0_23) .nil))))) (nd a14 (nd c0_22 (nd a11 (nd c1_70 (nd c3_134 (l1 c6_262) (l1 c10_390)) (nd a11 (l1 a12) .nil)) (u115 P)) (nd a11 u139 u116)) (nd (c0_30 P) (nd c0_46 (u140 P) (u117 P)) (nd (c1_62 P) u141 (nd a11 (nd c4_190 (l1 a11) .nil) (nd c6_254 (l1 c10_382) .nil)))))))
def c11_3:=Obj.mk y3 none (Data.dict (A [de P q3 165 (vs q52 462),de P q5 166 vn,de P q6 167 vn,de P q7 168 y4,de P q8 169 vn,de P q9 170 (vr 6),de P q10 171 (vr 4),de P q11 173 (vs q1 172),de P q12 174 vn,de P q13 193 (vr 21),de P q14 213 (vr 31),de P q15 229 (vr 44),de P q22 254 (vr 63),de P q23 279 (vr 82),de P q30 304 (vr 101),de P q31 329 (vr 120),de P q34 392 (vr 167),de P q48 415 (vr 188),de P q49 438 (vr 207),de P q53 461 (vr 226),de P q55 528 (vr 280),de P q70 562 (vr 308),de P q75 601 (vr 341),de P q79 640 (vr 374),de P q83 696 (vr 419),de P q91 742 (vr 459)]) 26) E
def c11_12:=Obj.mk vn none (Data.fields (A [vi 1 0,vi 0 0,vr 20,vi 5 0,vi 0 0,vr 27,vi 7 0,vi 0 0,vr 40,vi 9 0,vi 0 0,vr 52,vi 13 0,vi 0 0,vr 71,vi 17 0,vi 0 0,vr 90,vi 21 0,vi 0 0,vr 109,vi 26 0,vi 0 0,vr 128,vi 43 0,vi 0 0,vr 177,vi 47 0,vi 0 0,vr 196,vi 51 0,vi 0 0,vr 215,vi 56 0,vi 0 0,vr 234,vi 75 0,vi 0 0,vr 290,vi 83 0,vi 0 0,vr 316,vi 93 0,vi 0 0,vr 349,vi 103 0,vi 0 0,vr 382,vi 121 0,vi 0 0,vr 427])) E
def c11_308:=Obj.mk y9 none (Data.cls (ClassData.mk q70 [vr 280] [vr 308,vr 280,y12] 307 q70 true [] [vr 341,vr 374,vr 459] false none false)) (A [sr 285,none,some (vs q70 529),some (vs q70 537),some y18,some vT])
def c11_424:=Obj.mk y3 none (Data.dict (A [de P q17 704 (vs q52 462),de P q18 706 (vs q91 705),de P q19 708 (vi 121 707),de P q57 715 (vr 435),de P q58 724 (vr 442),de P q60 731 (vr 449),de P q61 738 (vr 456),de P q20 739 (vr 457)]) 8) E
def c11_426:=Obj.mk vn none (Data.fields (A [vi 123 0,vi 4 0,vr 434,vi 126 0,vi 4 0,vr 441,vi 129 0,vi 4 0,vr 448,vi 132 0,vi 4 0,vr 455])) E
def c11_427:=m0 q91 699 700 701 121 425 426 702 703
def c11_428:=m1 427 424 q52 462
def c11_431:=m3 q25 712
def c11_433:=m4 q57 q92 (M 19 0)
def c11_434:=m5 q57 709 q92 710 711 123 1 429 430 431 432 433 713 714
def c11_435:=m6 q57 q92 (M 19 0) q52 462 434
def c11_438:=m16 q25 719 q64 720 q65 721
def c11_440:=m4 q58 q93 (M 19 1)
def c11_441:=m5 q58 716 q93 717 718 126 3 436 437 438 439 440 722 723
def c11_442:=m6 q58 q93 (M 19 1) q52 462 441
def c11_445:=m3 q25 728
def c11_447:=m4 q60 q94 (M 19 2)
def c11_448:=m5 q60 725 q94 726 727 129 1 443 444 445 446 447 729 730
def c11_449:=m6 q60 q94 (M 19 2) q52 462 448
def c11_452:=m3 q25 735
def c11_454:=m4 q61 q95 (M 19 3)
def c11_455:=m5 q61 732 q95 733 734 132 1 450 451 452 453 454 736 737
def c11_456:=m6 q61 q95 (M 19 3) q52 462 455
def c11_458:=Obj.mk y3 none (Data.dict (A [de P q17 704 (vs q52 462),de P q19 708 (vi 121 707),de P q57 715 (vr 435),de P q58 724 (vr 442),de P q60 731 (vr 449),de P q61 738 (vr 456),de P q20 739 (vr 457),de P q5 740 vn]) 2) E
def c11_459:=Obj.mk y9 none (Data.cls (ClassData.mk q91 [vr 308] [vr 459,vr 308,vr 280,y12] 458 q91 true [] [] false none false)) (A [sr 422,none,some (vs q91 697),some (vs q91 705),some y18,some vT])
def c11_460:=m8 459
def c11_461:=m9 459
def u142:=nd c1_63 (nd c3_127 (l1 c6_255) (l1 c10_383)) (nd c4_172 (l1 a12) (l1 c11_447))
def u143:=nd c1_71 (nd c3_135 (l1 c6_263) (l1 a11)) (nd a12 (l1 c8_327) (l1 c11_455))
def u144:=nd c0_23 (nd a12 (l1 c6_259) (l1 a11)) (nd c4_195 (l1 c8_323) (l1 a12))
def u145:=nd c1_75 (nd c3_139 (l1 a11) (l1 c10_395)) (nd c4_203 (l1 c8_331) (l1 c11_459))
def u146:=nd c1_65 (nd c3_129 (l1 a11) (l1 a12)) (nd (c4_193 P) (l1 a11) (l1 c11_449))
def u147:=nd a11 (nd a11 (l1 a12) (l1 c10_393)) (nd a11 (l1 c8_329) (l1 a11))
def u148:=nd a11 (nd a11 (l1 c6_261) (l1 c10_389)) (nd c4_197 (l1 a11) (l1 a11))
def u149:=nd c1_77 (nd c3_141 (l1 c6_269) (l1 c10_397)) (nd a11 (l1 a12) (l1 c11_461))
def u150:=nd (c3_125 P) (nd c4_189 (l1 c8_317) (l1 c11_445)) (nd a11 (l1 c10_381) .nil)
def u151:=nd c1_64 (nd c3_128 (l1 c6_256) (l1 a11)) (nd c0_23 (l1 c8_320) (l1 c11_448))
def u152:=nd c1_72 (nd c3_136 (l1 a11) (l1 a12)) (nd c4_200 (l1 a11) (l1 c11_456))
def u153:=nd (c1_68 P) (nd c3_132 (l1 a11) (l1 c10_388)) (nd c4_196 (l1 c8_324) (l1 c11_452))
def u154:=nd a11 (nd a11 (l1 c6_268) (l1 c10_396)) (nd c4_204 (l1 a11) (l1 c11_460))
def u155:=nd c0_35 (nd a11 (l1 a12) (l1 c10_386)) (nd a11 (l1 c8_322) (l1 a11))
def u156:=nd a12 (nd a12 (l1 c6_266) (l1 a11)) (nd c4_202 (l1 c8_330) (l1 (c11_458 P)))
def u157:=nd c1_70 (nd c3_134 (l1 c6_262) (l1 c10_390)) (nd a11 (l1 a12) (l1 c11_454))
def u158:=nd a11 (nd c4_190 (l1 a11) (l1 a11)) (nd c6_254 (l1 c10_382) .nil)
def tc11_:=nd (boot_o_0 P) (nd (boot_o_1 P) (nd (c11_3 P) (nd (boot_o_7 P) (nd a11 (nd c2_31 u142 (u118 P)) (nd c0_35 u119 (nd a11 (nd a11 (l1 c7_303) (l1 c11_431)) (nd a11 (l1 c9_367) .nil)))) (nd c0_23 (nd a12 u143 (nd c2_103 (nd c5_167 (l1 a11) (l1 c0_23)) (nd (c6_231 P) (l1 a12) .nil))) (nd a12 (u120 P) (nd (c2_119 P) (nd c4_183 (l1 c8_311) (l1 a11)) (nd c6_247 (l1 c9_375) .nil))))) (nd a11 (nd c0_19 (nd c0_35 u144 u121) (nd c1_51 u122 (nd c2_115 (nd a11 (l1 (c7_307 P)) (l1 c11_435)) (nd a11 (l1 c9_371) .nil)))) (nd c0_27 (nd (c0_43 P) u145 (nd a11 (nd c3_171 (l1 a11) (l1 c11_427)) (nd c6_235 (l1 c9_363) .nil))) (nd c1_59 u123 (nd a11 (nd (c4_187 P) (l1 c8_315) (l1 a11)) (nd a12 (l1 (c10_379 P)) .nil)))))) (nd (boot_o_5 P) (nd (boot_o_9 P) (nd c0_17 (nd c0_33 (u146 P) (u124 P)) (nd (c1_49 P) (u125 P) (nd c2_113 (nd c4_177 (l1 c7_305) (l1 c11_433)) (nd c6_241 (l1 c9_369) .nil)))) (nd a11 (nd c0_41 u147 (nd c0_23 (nd c3_169 (l1 c7_297) (l1 a11)) (nd c6_233 (l1 a11) .nil))) (nd a11 u126 (nd c2_121 (nd c4_185 (l1 (c8_313 P)) (l1 c11_441)) (nd c6_249 (l1 c7_285) .nil))))) (nd a13 (nd c0_21 (nd (c0_37 P) u148 u127) (nd c1_53 u128 (nd c2_117 (nd c4_181 (l1 c7_309) (l1 a12)) (nd c6_245 (l1 (c9_373 P)) .nil)))) (nd a11 (nd c0_45 u149 (nd c2_109 (nd c0_23 (l1 c7_301) (l1 a11)) (nd a12 (l1 a11) .nil))) (nd c1_61 u129 (u150 P)))))) (nd (boot_o_2 P) (nd (boot_o_4 P) (nd (boot_o_8 P) (nd a12 (nd c0_32 u151 u130) (nd c0_23 u131 (nd a12 (nd c4_176 (l1 c7_304) (l1 a11)) (nd c6_240 (l1 a11) .nil)))) (nd (c0_24 P) (nd c0_40 u152 (nd c0_35 (nd c3_168 (l1 c7_296) (l1 (c11_424 P))) (nd a11 (l1 c9_360) .nil))) (nd c1_56 u132 (nd c2_120 (nd c4_184 (l1 c0_23) (l1 c11_440)) (nd c6_248 (l1 c9_376) .nil))))) (nd c11_12 (nd c0_20 (nd c0_23 (u153 P) (u133 P)) (nd c1_52 (u134 P) (nd c2_116 (nd a12 (l1 c11_308) (l1 a11)) (nd a12 (l1 a11) .nil)))) (nd c0_28 (nd c0_44 u154 (nd c2_108 (nd c4_172 (l1 a12) (l1 c11_428)) (nd a11 (l1 c9_364) .nil))) (nd c1_60 u135 (nd c0_23 (nd c4_188 (l1 c8_316) (l1 a12)) (nd c6_252 (l1 a11) .nil)))))) (nd (boot_o_6 P) (nd (boot_o_10 P) (nd a11 (nd c0_34 u155 (u136 P)) (nd a11 u137 (nd a11 (nd c4_178 (l1 c7_306) (l1 c11_434)) (nd c6_242 (l1 c9_370) .nil)))) (nd a12 (nd a11 (u156 P) (nd (c2_106 P) (nd c3_170 (l1 c7_298) (l1 c11_426)) (nd c6_234 (l1 c9_362) .nil))) (nd c1_58 (u138 P) (nd c2_122 (nd a11 (l1 a11) (l1 c11_442)) (nd a11 (l1 c0_23) .nil))))) (nd a14 (nd c0_22 (nd a11 u157 (nd c2_102 (nd (c3_166 P) (l1 c7_294) (l1 c8_311)) (nd c0_23 (l1 a11) .nil))) (nd a11 u139 (nd c2_118 (nd a11 (l1 c7_310) (l1 c11_438)) (nd a11 (l1 c9_374) .nil)))) (nd (c0_30 P) (nd c0_46 (u140 P) (nd c2_110 (nd (c4_174 P) (l1 a11) (l1 a12)) (nd c6_238 (l1 a12) .nil))) (nd (c1_62 P) u141 u158)))))
def c12_3:=Obj.mk y3 none (Data.dict (A [de P q3 165 (vs q52 462),de P q5 166 vn,de P q6 167 vn,de P q7 168 y4,de P q8 169 vn,de P q9 170 (vr 6),de P q10 171 (vr 4),de P q11 173 (vs q1 172),de P q12 174 vn,de P q13 193 (vr 21),de P q14 213 (vr 31),de P q15 229 (vr 44),de P q22 254 (vr 63),de P q23 279 (vr 82),de P q30 304 (vr 101),de P q31 329 (vr 120),de P q34 392 (vr 167),de P q48 415 (vr 188),de P q49 438 (vr 207),de P q53 461 (vr 226),de P q55 528 (vr 280),de P q70 562 (vr 308),de P q75 601 (vr 341),de P q79 640 (vr 374),de P q83 696 (vr 419),de P q91 742 (vr 459),de P q96 800 (vr 506)]) 27) E
def c12_12:=Obj.mk vn none (Data.fields (A [vi 1 0,vi 0 0,vr 20,vi 5 0,vi 0 0,vr 27,vi 7 0,vi 0 0,vr 40,vi 9 0,vi 0 0,vr 52,vi 13 0,vi 0 0,vr 71,vi 17 0,vi 0 0,vr 90,vi 21 0,vi 0 0,vr 109,vi 26 0,vi 0 0,vr 128,vi 43 0,vi 0 0,vr 177,vi 47 0,vi 0 0,vr 196,vi 51 0,vi 0 0,vr 215,vi 56 0,vi 0 0,vr 234,vi 75 0,vi 0 0,vr 290,vi 83 0,vi 0 0,vr 316,vi 93 0,vi 0 0,vr 349,vi 103 0,vi 0 0,vr 382,vi 121 0,vi 0 0,vr 427,vi 134 0,vi 0 0,vr 467])) E
def c12_308:=Obj.mk y9 none (Data.cls (ClassData.mk q70 [vr 280] [vr 308,vr 280,y12] 307 q70 true [] [vr 341,vr 374,vr 459,vr 506] false none false)) (A [sr 285,none,some (vs q70 529),some (vs q70 537),some y18,some vT])
def c12_464:=Obj.mk y3 none (Data.dict (A [de P q17 750 (vs q52 462),de P q18 752 (vs q96 751),de P q19 754 (vi 134 753),de P q24 764 (vr 475),de P q57 771 (vr 482),de P q58 780 (vr 489),de P q59 788 (vr 496),de P q61 795 (vr 503),de P q20 797 (vr 504)]) 9) E
def c12_466:=m11 136 4 474 140 481 143 488 146 495 149 502
def c12_467:=m0 q96 745 746 747 134 465 466 748 749
def c12_468:=m1 467 464 q52 462
def c12_471:=m19 q25 758 q71 759 q72 760 q97 761
def c12_473:=m4 q24 q98 (M 20 0)
def c12_474:=m5 q24 755 q98 756 757 136 4 469 470 471 472 473 762 763
def c12_475:=m6 q24 q98 (M 20 0) q52 462 474
def c12_478:=m3 q25 768
def c12_480:=m4 q57 q99 (M 20 1)
def c12_481:=m5 q57 765 q99 766 767 140 1 476 477 478 479 480 769 770
def c12_482:=m6 q57 q99 (M 20 1) q52 462 481
def c12_485:=m16 q25 775 q64 776 q65 777
def c12_487:=m4 q58 q100 (M 20 2)
def c12_488:=m5 q58 772 q100 773 774 143 3 483 484 485 486 487 778 779
def c12_489:=m6 q58 q100 (M 20 2) q52 462 488
def c12_492:=m14 q25 784 q65 785
def c12_494:=m4 q59 q101 (M 20 3)
def c12_495:=m5 q59 781 q101 782 783 146 2 490 491 492 493 494 786 787
def c12_496:=m6 q59 q101 (M 20 3) q52 462 495
def c12_499:=m3 q25 792
def c12_501:=m4 q61 q102 (M 20 4)
def c12_502:=m5 q61 789 q102 790 791 149 1 497 498 499 500 501 793 794
def c12_503:=m6 q61 q102 (M 20 4) q52 462 502
def c12_504:=m3 q97 796
def c12_505:=Obj.mk y3 none (Data.dict (A [de P q17 750 (vs q52 462),de P q19 754 (vi 134 753),de P q24 764 (vr 475),de P q57 771 (vr 482),de P q58 780 (vr 489),de P q59 788 (vr 496),de P q61 795 (vr 503),de P q20 797 (vr 504),de P q5 798 vn]) 2) E
def c12_506:=Obj.mk y9 none (Data.cls (ClassData.mk q96 [vr 308] [vr 506,vr 308,vr 280,y12] 505 q96 true [] [] false none false)) (A [sr 462,none,some (vs q96 743),some (vs q96 751),some y18,some vT])
def c12_507:=m8 506
def c12_508:=m9 506
def u159:=nd a11 (nd a12 (l1 (c7_287 P)) (l1 c10_415)) (nd c5_223 (l1 a11) (l1 a11))
def u160:=nd a11 (nd a11 (l1 c7_303) (l1 c11_431)) (nd a11 (l1 c9_367) (l1 c12_495))
def u161:=nd c2_103 (nd c5_167 (l1 a11) (l1 c0_23)) (nd (c6_231 P) (l1 a12) (l1 c12_487))
def u162:=nd (c2_119 P) (nd c4_183 (l1 c8_311) (l1 a11)) (nd c6_247 (l1 c9_375) (l1 c12_503))
def u163:=nd c2_99 (nd c3_163 (l1 c7_291) (l1 c10_419)) (nd c5_227 (l1 c9_355) (l1 a11))
def u164:=nd c2_115 (nd a11 (l1 (c7_307 P)) (l1 c11_435)) (nd a11 (l1 c9_371) (l1 c12_499))
def u165:=nd a11 (nd c3_171 (l1 a11) (l1 c11_427)) (nd c6_235 (l1 c9_363) (l1 a12))
def u166:=nd a11 (nd (c4_187 P) (l1 c8_315) (l1 a11)) (nd a12 (l1 (c10_379 P)) (l1 c12_507))
def u167:=nd c2_97 (nd a11 (l1 c7_289) (l1 c10_417)) (nd (c5_225 P) (l1 c9_353) (l1 c12_481))
def u168:=nd c2_113 (nd c4_177 (l1 c7_305) (l1 c11_433)) (nd c6_241 (l1 c9_369) (l1 a11))
def u169:=nd c0_23 (nd c3_169 (l1 c7_297) (l1 a11)) (nd c6_233 (l1 a11) (l1 c12_489))
def u170:=nd c2_121 (nd c4_185 (l1 (c8_313 P)) (l1 c11_441)) (nd c6_249 (l1 c7_285) (l1 (c12_505 P)))
def u171:=nd c2_101 (nd c3_165 (l1 a12) (l1 c10_421)) (nd a11 (l1 c9_357) (l1 c12_485))
def u172:=nd c2_117 (nd c4_181 (l1 c7_309) (l1 a12)) (nd c6_245 (l1 (c9_373 P)) (l1 c12_501))
def u173:=nd c2_109 (nd c0_23 (l1 c7_301) (l1 a11)) (nd a12 (l1 a11) (l1 a11))
def u174:=nd c2_96 (nd c3_160 (l1 a11) (l1 c10_416)) (nd a11 (l1 a12) (l1 c12_480))
def u175:=nd a12 (nd c4_176 (l1 c7_304) (l1 a11)) (nd c6_240 (l1 a11) (l1 c12_496))
def u176:=nd c0_35 (nd c3_168 (l1 c7_296) (l1 (c11_424 P))) (nd a11 (l1 c9_360) (l1 c12_488))
def u177:=nd c2_120 (nd c4_184 (l1 c0_23) (l1 c11_440)) (nd c6_248 (l1 c9_376) (l1 c12_504))
def u178:=nd (c2_100 P) (nd c3_164 (l1 a11) (l1 c10_420)) (nd c5_228 (l1 c9_356) (l1 a12))
def u179:=nd c2_116 (nd a12 (l1 c12_308) (l1 a11)) (nd a12 (l1 a11) (l1 a11))
def u180:=nd c2_108 (nd c4_172 (l1 a12) (l1 c11_428)) (nd a11 (l1 c9_364) (l1 c12_492))
def u181:=nd c0_23 (nd c4_188 (l1 c8_316) (l1 a12)) (nd c6_252 (l1 a11) (l1 c12_508))
def u182:=nd c2_98 (nd c3_162 (l1 c7_290) (l1 (c10_418 P))) (nd c5_226 (l1 a11) (l1 c12_482))
def u183:=nd a11 (nd c4_178 (l1 c7_306) (l1 c11_434)) (nd c6_242 (l1 c9_370) (l1 a12))
def u184:=nd (c2_106 P) (nd c3_170 (l1 c7_298) (l1 c11_426)) (nd c6_234 (l1 c9_362) (l1 a11))
def u185:=nd c2_122 (nd a11 (l1 a11) (l1 c11_442)) (nd a11 (l1 c0_23) (l1 c12_506))
def u186:=nd c2_102 (nd (c3_166 P) (l1 c7_294) (l1 c8_311)) (nd c0_23 (l1 a11) (l1 a11))
def u187:=nd c2_118 (nd a11 (l1 c7_310) (l1 c11_438)) (nd a11 (l1 c9_374) (l1 c12_502))
def u188:=nd c2_110 (nd (c4_174 P) (l1 a11) (l1 a12)) (nd c6_238 (l1 a12) (l1 c12_494))
def u189:=nd c2_94 (nd a11 (l1 c0_23) (l1 c10_414)) (nd c5_222 (l1 c9_350) (l1 c12_478))
def tc12_:=nd (boot_o_0 P) (nd (boot_o_1 P) (nd (c12_3 P) (nd (boot_o_7 P) (nd a11 (nd c2_31 u142 (u159 P)) (nd c0_35 (nd c1_79 (nd c3_143 (l1 a11) (l1 a12)) (nd c4_207 (l1 a11) (l1 c0_23))) u160)) (nd c0_23 (nd a12 u143 (u161 P)) (nd a12 (nd (c2_87 P) (nd a11 (l1 (c6_279 P)) (l1 c10_407)) (nd c5_215 (l1 c8_343) (l1 c12_471))) (u162 P)))) (nd a11 (nd c0_19 (nd c0_35 u144 u163) (nd c1_51 (nd c1_83 (nd a11 (l1 c6_275) (l1 c10_403)) (nd c0_23 (l1 a11) (l1 c12_467))) (u164 P))) (nd c0_27 (nd (c0_43 P) u145 u165) (nd c1_59 (nd c2_91 (nd c3_155 (l1 c6_283) (l1 a12)) (nd c5_219 (l1 a11) (l1 c12_475))) (u166 P))))) (nd (boot_o_5 P) (nd (boot_o_9 P) (nd c0_17 (nd c0_33 (u146 P) (u167 P)) (nd (c1_49 P) (nd (c1_81 P) (nd a12 (l1 c6_273) (l1 a11)) (nd c4_209 (l1 c8_337) (l1 a11))) u168)) (nd a11 (nd c0_41 u147 u169) (nd a11 (nd c2_89 (nd c3_153 (l1 c6_281) (l1 c10_409)) (nd a11 (l1 c0_23) (l1 c12_473))) (u170 P)))) (nd a13 (nd c0_21 (nd (c0_37 P) u148 u171) (nd c1_53 (nd c0_35 (nd c3_149 (l1 c6_277) (l1 a11)) (nd a11 (l1 c8_341) (l1 a11))) (u172 P))) (nd a11 (nd c0_45 u149 u173) (nd c1_61 (nd a12 (nd c3_157 (l1 c7_285) (l1 a11)) (nd c5_221 (l1 c9_349) (l1 a12))) (u150 P)))))) (nd (boot_o_2 P) (nd (boot_o_4 P) (nd (boot_o_8 P) (nd a12 (nd c0_32 u151 u174) (nd c0_23 (nd c1_80 (nd a11 (l1 a12) (l1 c10_400)) (nd c4_208 (l1 c8_336) (l1 (c12_464 P)))) u175)) (nd (c0_24 P) (nd c0_40 u152 (u176 P)) (nd c1_56 (nd a11 (nd a12 (l1 c10_280) (l1 c10_408)) (nd c5_216 (l1 c8_311) (l1 a11))) u177))) (nd c12_12 (nd c0_20 (nd c0_23 (u153 P) (u178 P)) (nd c1_52 (nd c1_84 (nd c3_148 (l1 c6_276) (l1 c10_404)) (nd (c5_212 P) (l1 (c8_340 P)) (l1 c12_468))) u179)) (nd c0_28 (nd c0_44 u154 u180) (nd c1_60 (nd a11 (nd c3_156 (l1 c6_284) (l1 c10_412)) (nd a11 (l1 c9_348) (l1 a11))) u181)))) (nd (boot_o_6 P) (nd (boot_o_10 P) (nd a11 (nd c0_34 u155 (u182 P)) (nd a11 (nd c1_82 (nd c3_146 (l1 a11) (l1 c10_402)) (nd c4_172 (l1 c8_338) (l1 c12_466))) u183)) (nd a12 (nd a11 (u156 P) (u184 P)) (nd c1_58 (nd c2_90 (nd a11 (l1 c6_282) (l1 a11)) (nd a12 (l1 (c9_346 P)) (l1 c12_474))) u185))) (nd a14 (nd c0_22 (nd a11 u157 (u186 P)) (nd a11 (nd c0_23 (nd c3_150 (l1 a11) (l1 a12)) (nd c5_214 (l1 c8_342) (l1 a12))) u187)) (nd (c0_30 P) (nd c0_46 (nd c1_78 (nd c3_142 (l1 c6_270) (l1 a11)) (nd (c4_206 P) (l1 c8_334) (l1 c8_311))) (u188 P)) (nd (c1_62 P) u189 u158)))))
def c13_3:=Obj.mk y3 none (Data.dict (A [de P q3 165 (vs q52 462),de P q5 166 vn,de P q6 167 vn,de P q7 168 y4,de P q8 169 vn,de P q9 170 (vr 6),de P q10 171 (vr 4),de P q11 173 (vs q1 172),de P q12 174 vn,de P q13 193 (vr 21),de P q14 213 (vr 31),de P q15 229 (vr 44),de P q22 254 (vr 63),de P q23 279 (vr 82),de P q30 304 (vr 101),de P q31 329 (vr 120),de P q34 392 (vr 167),de P q48 415 (vr 188),de P q49 438 (vr 207),de P q53 461 (vr 226),de P q55 528 (vr 280),de P q70 562 (vr 308),de P q75 601 (vr 341),de P q79 640 (vr 374),de P q83 696 (vr 419),de P q91 742 (vr 459),de P q96 800 (vr 506),de P q103 841 (vr 539)]) 28) E
def c13_12:=Obj.mk vn none (Data.fields (A [vi 1 0,vi 0 0,vr 20,vi 5 0,vi 0 0,vr 27,vi 7 0,vi 0 0,vr 40,vi 9 0,vi 0 0,vr 52,vi 13 0,vi 0 0,vr 71,vi 17 0,vi 0 0,vr 90,vi 21 0,vi 0 0,vr 109,vi 26 0,vi 0 0,vr 128,vi 43 0,vi 0 0,vr 177,vi 47 0,vi 0 0,vr 196,vi 51 0,vi 0 0,vr 215,vi 56 0,vi 0 0,vr 234,vi 75 0,vi 0 0,vr 290,vi 83 0,vi 0 0,vr 316,vi 93 0,vi 0 0,vr 349,vi 103 0,vi 0 0,vr 382,vi 121 0,vi 0 0,vr 427,vi 134 0,vi 0 0,vr 467,vi 151 0,vi 0 0,vr 514])) E
def c13_280:=Obj.mk y9 none (Data.cls (ClassData.mk q55 [y12] [vr 280,y12] 279 q55 true [] [vr 308,vr 419,vr 539] false none false)) (A [none,none,some (vs q55 464),some (vs q55 472),some y18,some vT])
def c13_511:=m17 P 808 810 q103 809 812 151 811 q24 820 522 829 529 836 536 838 537
def c13_513:=m2 153 4 521 156 528 159 535
def c13_514:=m0 q103 803 804 805 151 512 513 806 807
def c13_515:=m1 514 511 q52 462
def c13_518:=m14 q25 816 q97 817
def c13_520:=m4 q24 q104 (M 21 0)
def c13_521:=m5 q24 813 q104 814 815 153 2 516 517 518 519 520 818 819
def c13_522:=m6 q24 q104 (M 21 0) q52 462 521
def c13_525:=m16 q25 824 q64 825 q65 826
def c13_527:=m4 q58 q105 (M 21 1)
def c13_528:=m5 q58 821 q105 822 823 156 3 523 524 525 526 527 827 828
def c13_529:=m6 q58 q105 (M 21 1) q52 462 528
def c13_532:=m3 q25 833
def c13_534:=m4 q61 q106 (M 21 2)
def c13_535:=m5 q61 830 q106 831 832 159 1 530 531 532 533 534 834 835
def c13_536:=m6 q61 q106 (M 21 2) q52 462 535
def c13_537:=m3 q97 837
def c13_538:=m18 P 808 812 151 811 q24 820 522 829 529 836 536 838 537 839
def c13_539:=Obj.mk y9 none (Data.cls (ClassData.mk q103 [vr 280] [vr 539,vr 280,y12] 538 q103 true [] [] false none false)) (A [sr 509,none,some (vs q103 801),some (vs q103 809),some y18,some vT])
def c13_540:=m8 539
def c13_541:=m9 539
def u190:=nd c3_127 (nd c6_255 (l1 (c13_511 P)) .nil) (l1 c10_383)
def u191:=nd c3_143 (nd a11 (l1 c13_527) .nil) (l1 a12)
def u192:=nd c3_135 (nd c6_263 (l1 a11) .nil) (l1 a11)
def u193:=nd a11 (nd (c6_279 P) (l1 c13_535) .nil) (l1 c10_407)
def u194:=nd a12 (nd c6_259 (l1 c13_515) .nil) (l1 a11)
def u195:=nd a11 (nd c6_275 (l1 a12) .nil) (l1 c10_403)
def u196:=nd c3_139 (nd a11 (l1 a11) .nil) (l1 c10_395)
def u197:=nd c3_155 (nd c6_283 (l1 c13_539) .nil) (l1 a12)
def u198:=nd c3_129 (nd a11 (l1 c13_513) .nil) (l1 a12)
def u199:=nd a12 (nd c6_273 (l1 c13_529) .nil) (l1 a11)
def u200:=nd a11 (nd a12 (l1 c13_521) .nil) (l1 c10_393)
def u201:=nd c3_153 (nd c6_281 (l1 c13_537) .nil) (l1 c10_409)
def u202:=nd a11 (nd c6_261 (l1 a12) .nil) (l1 c10_389)
def u203:=nd c3_149 (nd c6_277 (l1 a11) .nil) (l1 a11)
def u204:=nd c3_141 (nd c6_269 (l1 c13_525) .nil) (l1 c10_397)
def u205:=nd c3_157 (nd c7_285 (l1 c13_541) .nil) (l1 a11)
def u206:=nd c3_128 (nd c6_256 (l1 a11) .nil) (l1 a11)
def u207:=nd a11 (nd a12 (l1 c13_528) .nil) (l1 c10_400)
def u208:=nd c3_136 (nd a11 (l1 c13_520) .nil) (l1 a12)
def u209:=nd c3_132 (nd a11 (l1 a11) .nil) (l1 c10_388)
def u210:=nd c3_148 (nd c6_276 (l1 c13_532) .nil) (l1 c10_404)
def u211:=nd a11 (nd c6_268 (l1 a12) .nil) (l1 c10_396)
def u212:=nd c3_156 (nd c6_284 (l1 c13_540) .nil) (l1 c10_412)
def u213:=nd a11 (nd a12 (l1 c13_514) .nil) (l1 c10_386)
def u214:=nd c3_146 (nd a11 (l1 a11) .nil) (l1 c10_402)
def u215:=nd a12 (nd c6_266 (l1 c13_522) .nil) (l1 a11)
def u216:=nd a11 (nd c6_282 (l1 (c13_538 P)) .nil) (l1 a11)
def u217:=nd c3_134 (nd c6_262 (l1 c13_518) .nil) (l1 c10_390)
def u218:=nd c3_150 (nd a11 (l1 c13_534) .nil) (l1 a12)
def u219:=nd c3_142 (nd c6_270 (l1 a11) .nil) (l1 a11)
def tc13_:=nd (boot_o_0 P) (nd (boot_o_1 P) (nd (c13_3 P) (nd (boot_o_7 P) (nd a11 (nd c2_31 (nd c1_63 (u190 P) (nd c4_172 (l1 a12) (l1 c11_447))) (u159 P)) (nd c0_35 (nd c1_79 u191 (nd c4_207 (l1 a11) (l1 c0_23))) u160)) (nd c0_23 (nd a12 (nd c1_71 u192 (nd a12 (l1 c8_327) (l1 c11_455))) (u161 P)) (nd a12 (nd (c2_87 P) (u193 P) (nd c5_215 (l1 c8_343) (l1 c12_471))) (u162 P)))) (nd a11 (nd c0_19 (nd c0_35 (nd c0_23 u194 (nd c4_195 (l1 c8_323) (l1 a12))) u163) (nd c1_51 (nd c1_83 u195 (nd c0_23 (l1 a11) (l1 c12_467))) (u164 P))) (nd c0_27 (nd (c0_43 P) (nd c1_75 u196 (nd c4_203 (l1 c8_331) (l1 c11_459))) u165) (nd c1_59 (nd c2_91 u197 (nd c5_219 (l1 a11) (l1 c12_475))) (u166 P))))) (nd (boot_o_5 P) (nd (boot_o_9 P) (nd c0_17 (nd c0_33 (nd c1_65 u198 (nd (c4_193 P) (l1 a11) (l1 c11_449))) (u167 P)) (nd (c1_49 P) (nd (c1_81 P) u199 (nd c4_209 (l1 c8_337) (l1 a11))) u168)) (nd a11 (nd c0_41 (nd a11 u200 (nd a11 (l1 c8_329) (l1 a11))) u169) (nd a11 (nd c2_89 u201 (nd a11 (l1 c0_23) (l1 c12_473))) (u170 P)))) (nd a13 (nd c0_21 (nd (c0_37 P) (nd a11 u202 (nd c4_197 (l1 a11) (l1 a11))) u171) (nd c1_53 (nd c0_35 u203 (nd a11 (l1 c8_341) (l1 a11))) (u172 P))) (nd a11 (nd c0_45 (nd c1_77 u204 (nd a11 (l1 a12) (l1 c11_461))) u173) (nd c1_61 (nd a12 u205 (nd c5_221 (l1 c9_349) (l1 a12))) (nd (c3_125 P) (nd c4_189 (l1 c8_317) (l1 c11_445)) (nd a11 (l1 c10_381) (l1 c7_285)))))))) (nd (boot_o_2 P) (nd (boot_o_4 P) (nd (boot_o_8 P) (nd a12 (nd c0_32 (nd c1_64 u206 (nd c0_23 (l1 c8_320) (l1 c11_448))) u174) (nd c0_23 (nd c1_80 u207 (nd c4_208 (l1 c8_336) (l1 (c12_464 P)))) u175)) (nd (c0_24 P) (nd c0_40 (nd c1_72 u208 (nd c4_200 (l1 a11) (l1 c11_456))) (u176 P)) (nd c1_56 (nd a11 (nd a12 (nd c13_280 (l1 c13_536) .nil) (l1 c10_408)) (nd c5_216 (l1 c8_311) (l1 a11))) u177))) (nd c13_12 (nd c0_20 (nd c0_23 (nd (c1_68 P) u209 (nd c4_196 (l1 c8_324) (l1 c11_452))) (u178 P)) (nd c1_52 (nd c1_84 u210 (nd (c5_212 P) (l1 (c8_340 P)) (l1 c12_468))) u179)) (nd c0_28 (nd c0_44 (nd a11 u211 (nd c4_204 (l1 a11) (l1 c11_460))) u180) (nd c1_60 (nd a11 u212 (nd a11 (l1 c9_348) (l1 a11))) u181)))) (nd (boot_o_6 P) (nd (boot_o_10 P) (nd a11 (nd c0_34 (nd c0_35 u213 (nd a11 (l1 c8_322) (l1 a11))) (u182 P)) (nd a11 (nd c1_82 u214 (nd c4_172 (l1 c8_338) (l1 c12_466))) u183)) (nd a12 (nd a11 (nd a12 u215 (nd c4_202 (l1 c8_330) (l1 (c11_458 P)))) (u184 P)) (nd c1_58 (nd c2_90 (u216 P) (nd a12 (l1 (c9_346 P)) (l1 c12_474))) u185))) (nd a14 (nd c0_22 (nd a11 (nd c1_70 u217 (nd a11 (l1 a12) (l1 c11_454))) (u186 P)) (nd a11 (nd c0_23 u218 (nd c5_214 (l1 c8_342) (l1 a12))) u187)) (nd (c0_30 P) (nd c0_46 (nd c1_78 u219 (nd (c4_206 P) (l1 c8_334) (l1 c8_311))) (u188 P)) (nd (c1_62 P) u189 (nd a11 (nd c4_190 (l1 a11) (l1 a11)) (nd c6_254 (l1 c10_382) (l1 c0_23))))))))
def c14_3:=Obj.mk y3 none (Data.dict (A [de P q3 165 (vs q107 883),de P q5 166 vn,de P q6 167 vn,de P q7 168 y4,de P q8 169 vn,de P q9 170 (vr 6),de P q10 171 (vr 4),de P q11 173 (vs q1 172),de P q12 174 vn,de P q13 193 (vr 21),de P q14 213 (vr 31),de P q15 229 (vr 44),de P q22 254 (vr 63),de P q23 279 (vr 82),de P q30 304 (vr 101),de P q31 329 (vr 120),de P q34 392 (vr 167),de P q48 415 (vr 188),de P q49 438 (vr 207),de P q53 461 (vr 226),de P q55 528 (vr 280),de P q70 562 (vr 308),de P q75 601 (vr 341),de P q79 640 (vr 374),de P q83 696 (vr 419),de P q91 742 (vr 459),de P q96 800 (vr 506),de P q103 841 (vr 539),de P q108 882 (vr 572),de P q109 892 (vr 581),de P q110 899 (vr 588),de P q111 908 (vr 595),de P q112 918 (vr 602),de P q113 926 (vr 609),de P q114 937 (vr 616),de P q115 943 (vr 621)]) 36) E
def c14_12:=Obj.mk vn none (Data.fields (A [vi 1 0,vi 0 0,vr 20,vi 5 0,vi 0 0,vr 27,vi 7 0,vi 0 0,vr 40,vi 9 0,vi 0 0,vr 52,vi 13 0,vi 0 0,vr 71,vi 17 0,vi 0 0,vr 90,vi 21 0,vi 0 0,vr 109,vi 26 0,vi 0 0,vr 128,vi 43 0,vi 0 0,vr 177,vi 47 0,vi 0 0,vr 196,vi 51 0,vi 0 0,vr 215,vi 56 0,vi 0 0,vr 234,vi 75 0,vi 0 0,vr 290,vi 83 0,vi 0 0,vr 316,vi 93 0,vi 0 0,vr 349,vi 103 0,vi 0 0,vr 382,vi 121 0,vi 0 0,vr 427,vi 134 0,vi 0 0,vr 467,vi 151 0,vi 0 0,vr 514,vi 161 0,vi 0 0,vr 547,vi 174 0,vi 0 0,vr 580,vi 178 0,vi 0 0,vr 587,vi 180 0,vi 0 0,vr 594,vi 183 0,vi 0 0,vr 601,vi 194 0,vi 0 0,vr 608,vi 198 0,vi 0 0,vr 615,vi 210 0,vi 0 0,vr 620])) E
def c14_280:=Obj.mk y9 none (Data.cls (ClassData.mk q55 [y12] [vr 280,y12] 279 q55 true [] [vr 308,vr 419,vr 539,vr 572] false none false)) (A [none,none,some (vs q55 464),some (vs q55 472),some y18,some vT])
def c14_544:=m17 P 849 851 q108 850 853 161 852 q24 861 555 870 562 877 569 879 570
def c14_546:=m2 163 4 554 166 561 171 568
def c14_547:=m0 q108 844 845 846 161 545 546 847 848
def c14_548:=m1 547 544 q52 462
def c14_551:=m14 q25 857 q97 858
def c14_553:=m4 q24 q116 (M 22 0)
def c14_554:=m5 q24 854 q116 855 856 163 2 549 550 551 552 553 859 860
def c14_555:=m6 q24 q116 (M 22 0) q52 462 554
def c14_558:=m16 q25 865 q64 866 q65 867
def c14_560:=m4 q58 q117 (M 22 1)
def c14_561:=m5 q58 862 q117 863 864 166 3 556 557 558 559 560 868 869
def c14_562:=m6 q58 q117 (M 22 1) q52 462 561
def c14_565:=m3 q25 874
def c14_567:=m4 q61 q118 (M 22 2)
def c14_568:=m5 q61 871 q118 872 873 171 1 563 564 565 566 567 875 876
def c14_569:=m6 q61 q118 (M 22 2) q52 462 568
def c14_570:=m3 q97 878
def c14_571:=m18 P 849 853 161 852 q24 861 555 870 562 877 569 879 570 880
def c14_572:=Obj.mk y9 none (Data.cls (ClassData.mk q108 [vr 280] [vr 572,vr 280,y12] 571 q108 true [] [] false none false)) (A [sr 542,none,some (vs q108 842),some (vs q108 850),some y18,some vT])
def c14_573:=m8 572
def c14_574:=m9 572
def c14_577:=m14 q119 888 q120 889
def c14_579:=m4 q109 q109 (B 24)
def c14_580:=m5 q109 885 q109 886 887 174 2 575 576 577 578 579 890 891
def c14_581:=m6 q109 q109 (B 24) q107 883 580
def c14_584:=m3 q121 896
def c14_586:=m4 q110 q110 (B 25)
def c14_587:=m5 q110 893 q110 894 895 178 1 582 583 584 585 586 897 898
def c14_588:=m6 q110 q110 (B 25) q107 883 587
def c14_591:=m16 q122 903 q120 904 q123 905
def c14_593:=m4 q111 q111 (B 26)
def c14_594:=m5 q111 900 q111 901 902 180 2 589 590 591 592 593 906 907
def c14_595:=m6 q111 q111 (B 26) q107 883 594
def c14_598:=m19 q122 912 q120 913 q123 914 q124 915
def c14_600:=m4 q112 q112 (B 27)
def c14_601:=m5 q112 909 q112 910 911 183 2 596 597 598 599 600 916 917
def c14_602:=m6 q112 q112 (B 27) q107 883 601
def c14_605:=m14 q122 922 q120 923
def c14_607:=m4 q113 q113 (B 28)
def c14_608:=m5 q113 919 q113 920 921 194 2 603 604 605 606 607 924 925
def c14_609:=m6 q113 q113 (B 28) q107 883 608
def c14_612:=Obj.mk y0 none (Data.seq (A [vs q122 930,vs q125 931,vs q126 932,vs q127 933,vs q128 934]) 0) E
def c14_614:=m4 q114 q114 (B 29)
def c14_615:=m5 q114 927 q114 928 929 198 1 610 611 612 613 614 935 936
def c14_616:=m6 q114 q114 (B 29) q107 883 615
def c14_619:=m4 q115 q115 (B 30)
def c14_620:=m20 q115 938 q115 939 940 210 1 617 618 619 941 942
def c14_621:=m6 q115 q115 (B 30) q107 883 620
def u220:=nd c4_172 (nd a12 (l1 a11) .nil) (l1 c11_447)
def u221:=nd a11 (nd a12 (nd (c7_287 P) (l1 c0_23) .nil) (l1 c10_415)) (nd c5_223 (nd a11 (l1 c14_607) .nil) (l1 a11))
def u222:=nd c4_207 (nd a11 (l1 c14_591) .nil) (l1 c0_23)
def u223:=nd a11 (nd c7_303 (l1 a11) .nil) (l1 c11_431)
def u224:=nd a12 (nd c8_327 (l1 a12) .nil) (l1 c11_455)
def u225:=nd c2_103 (nd c5_167 (nd a11 (l1 c14_551) .nil) (l1 c0_23)) (nd (c6_231 P) (nd a12 (l1 c14_615) .nil) (l1 c12_487))
def u226:=nd (c2_87 P) (u193 P) (nd c5_215 (nd c8_343 (l1 a11) .nil) (l1 c12_471))
def u227:=nd c4_183 (nd c8_311 (l1 c14_567) .nil) (l1 a11)
def u228:=nd c4_195 (nd c8_323 (l1 c14_579) .nil) (l1 a12)
def u229:=nd c2_99 (nd c3_163 (nd c7_291 (l1 c14_547) .nil) (l1 c10_419)) (nd c5_227 (nd c9_355 (l1 a12) .nil) (l1 a11))
def u230:=nd c0_23 (nd a11 (l1 c14_595) .nil) (l1 c12_467)
def u231:=nd a11 (nd (c7_307 P) (l1 a11) .nil) (l1 c11_435)
def u232:=nd c4_203 (nd c8_331 (l1 c14_587) .nil) (l1 c11_459)
def u233:=nd a11 (nd c3_171 (nd a11 (l1 c14_555) .nil) (l1 c11_427)) (nd c6_235 (nd c9_363 (l1 c14_619) .nil) (l1 a12))
def u234:=nd c2_91 u197 (nd c5_219 (nd a11 (l1 a11) .nil) (l1 c12_475))
def u235:=nd (c4_187 P) (nd c8_315 (l1 (c14_571 P)) .nil) (l1 a11)
def u236:=nd (c4_193 P) (nd a11 (l1 c14_577) .nil) (l1 c11_449)
def u237:=nd c2_97 (nd a11 (nd c7_289 (l1 a11) .nil) (l1 c10_417)) (nd (c5_225 P) (nd c9_353 (l1 c14_609) .nil) (l1 c12_481))
def u238:=nd c4_209 (nd c8_337 (l1 c14_593) .nil) (l1 a11)
def u239:=nd c4_177 (nd c7_305 (l1 c14_561) .nil) (l1 c11_433)
def u240:=nd c0_23 (nd c3_169 (nd c7_297 (l1 c14_553) .nil) (l1 a11)) (nd c6_233 (nd a11 (l1 a11) .nil) (l1 c12_489))
def u241:=nd c2_89 u201 (nd a11 (nd c0_23 (l1 c14_601) .nil) (l1 c12_473))
def u242:=nd c4_185 (nd (c8_313 P) (l1 c14_569) .nil) (l1 c11_441)
def u243:=nd c4_197 (nd a11 (l1 c14_581) .nil) (l1 a11)
def u244:=nd c2_101 (nd c3_165 (nd a12 (l1 a11) .nil) (l1 c10_421)) (nd a11 (nd c9_357 (l1 a11) .nil) (l1 c12_485))
def u245:=nd c4_181 (nd c7_309 (l1 c14_565) .nil) (l1 a12)
def u246:=nd c2_109 (nd c0_23 (nd c7_301 (l1 a12) .nil) (l1 a11)) (nd a12 (nd a11 (l1 c14_621) .nil) (l1 a11))
def u247:=nd a12 u205 (nd c5_221 (nd c9_349 (l1 c14_605) .nil) (l1 a12))
def u248:=nd c4_189 (nd c8_317 (l1 c14_573) .nil) (l1 c11_445)
def u249:=nd c0_23 (nd c8_320 (l1 a12) .nil) (l1 c11_448)
def u250:=nd c2_96 (nd c3_160 (nd a11 (l1 (c14_544 P)) .nil) (l1 c10_416)) (nd a11 (nd a12 (l1 c14_608) .nil) (l1 c12_480))
def u251:=nd c4_208 (nd c8_336 (l1 a11) .nil) (l1 (c12_464 P))
def u252:=nd c4_176 (nd c7_304 (l1 c14_560) .nil) (l1 a11)
def u253:=nd c4_200 (nd a11 (l1 c14_584) .nil) (l1 c11_456)
def u254:=nd c0_35 (nd c3_168 (nd c7_296 (l1 a11) .nil) (l1 (c11_424 P))) (nd a11 (nd c9_360 (l1 c14_616) .nil) (l1 c12_488))
def u255:=nd a11 (nd a12 (nd c14_280 (l1 c13_536) .nil) (l1 c10_408)) (nd c5_216 (nd c8_311 (l1 c14_600) .nil) (l1 a11))
def u256:=nd c4_184 (nd c0_23 (l1 c14_568) .nil) (l1 c11_440)
def u257:=nd c4_196 (nd c8_324 (l1 c14_580) .nil) (l1 c11_452)
def u258:=nd (c2_100 P) (nd c3_164 (nd a11 (l1 c14_548) .nil) (l1 c10_420)) (nd c5_228 (nd c9_356 (l1 c14_612) .nil) (l1 a12))
def u259:=nd (c5_212 P) (nd (c8_340 P) (l1 a11) .nil) (l1 c12_468)
def u260:=nd c4_204 (nd a11 (l1 c14_588) .nil) (l1 c11_460)
def u261:=nd c2_108 (nd c4_172 (nd a12 (l1 a11) .nil) (l1 c11_428)) (nd a11 (nd c9_364 (l1 c14_620) .nil) (l1 c12_492))
def u262:=nd a11 u212 (nd a11 (nd c9_348 (l1 a12) .nil) (l1 a11))
def u263:=nd c4_188 (nd c8_316 (l1 c14_572) .nil) (l1 a12)
def u264:=nd c2_98 (nd c3_162 (nd c7_290 (l1 c14_546) .nil) (l1 (c10_418 P))) (nd c5_226 (nd a11 (l1 a11) .nil) (l1 c12_482))
def u265:=nd c4_172 (nd c8_338 (l1 c14_594) .nil) (l1 c12_466)
def u266:=nd c4_178 (nd c7_306 (l1 c14_562) .nil) (l1 c11_434)
def u267:=nd c4_202 (nd c8_330 (l1 c14_586) .nil) (l1 (c11_458 P))
def u268:=nd (c2_106 P) (nd c3_170 (nd c7_298 (l1 c14_554) .nil) (l1 c11_426)) (nd c6_234 (nd c9_362 (l1 a12) .nil) (l1 a11))
def u269:=nd c2_90 (u216 P) (nd a12 (nd (c9_346 P) (l1 c14_602) .nil) (l1 c12_474))
def u270:=nd a11 (nd a11 (l1 c14_570) .nil) (l1 c11_442)
def u271:=nd c2_102 (nd (c3_166 P) (nd c7_294 (l1 a12) .nil) (l1 c8_311)) (nd c0_23 (nd a11 (l1 c14_614) .nil) (l1 a11))
def u272:=nd c0_23 u218 (nd c5_214 (nd c8_342 (l1 c14_598) .nil) (l1 a12))
def u273:=nd a11 (nd c7_310 (l1 a11) .nil) (l1 c11_438)
def u274:=nd (c4_206 P) (nd c8_334 (l1 a12) .nil) (l1 c8_311)
def u275:=nd (c4_174 P) (nd a11 (l1 c14_558) .nil) (l1 a12)
def u276:=nd c2_94 (nd a11 (nd c0_23 (l1 c7_285) .nil) (l1 c10_414)) (nd c5_222 (nd c9_350 (l1 a11) .nil) (l1 c12_478))
def u277:=nd c4_190 (nd a11 (l1 c14_574) .nil) (l1 a11)
def tc14_:=nd (boot_o_0 P) (nd (boot_o_1 P) (nd (c14_3 P) (nd (boot_o_7 P) (nd a11 (nd c2_31 (nd c1_63 (u190 P) u220) (u221 P)) (nd c0_35 (nd c1_79 u191 u222) (nd a11 u223 (nd a11 (l1 c9_367) (l1 c12_495))))) (nd c0_23 (nd a12 (nd c1_71 u192 u224) (u225 P)) (nd a12 (u226 P) (nd (c2_119 P) u227 (nd c6_247 (l1 c9_375) (l1 c12_503)))))) (nd a11 (nd c0_19 (nd c0_35 (nd c0_23 u194 u228) u229) (nd c1_51 (nd c1_83 u195 u230) (nd c2_115 (u231 P) (nd a11 (l1 c9_371) (l1 c12_499))))) (nd c0_27 (nd (c0_43 P) (nd c1_75 u196 u232) u233) (nd c1_59 u234 (nd a11 (u235 P) (nd a12 (l1 (c10_379 P)) (l1 c12_507))))))) (nd (boot_o_5 P) (nd (boot_o_9 P) (nd c0_17 (nd c0_33 (nd c1_65 u198 (u236 P)) (u237 P)) (nd (c1_49 P) (nd (c1_81 P) u199 u238) (nd c2_113 u239 (nd c6_241 (l1 c9_369) (l1 a11))))) (nd a11 (nd c0_41 (nd a11 u200 (nd a11 (nd c8_329 (l1 a11) .nil) (l1 a11))) u240) (nd a11 u241 (nd c2_121 (u242 P) (nd c6_249 (l1 c7_285) (l1 (c12_505 P))))))) (nd a13 (nd c0_21 (nd (c0_37 P) (nd a11 u202 u243) u244) (nd c1_53 (nd c0_35 u203 (nd a11 (nd c8_341 (l1 a12) .nil) (l1 a11))) (nd c2_117 u245 (nd c6_245 (l1 (c9_373 P)) (l1 c12_501))))) (nd a11 (nd c0_45 (nd c1_77 u204 (nd a11 (nd a12 (l1 a11) .nil) (l1 c11_461))) u246) (nd c1_61 u247 (nd (c3_125 P) u248 (nd a11 (l1 c10_381) (l1 c7_285)))))))) (nd (boot_o_2 P) (nd (boot_o_4 P) (nd (boot_o_8 P) (nd a12 (nd c0_32 (nd c1_64 u206 u249) (u250 P)) (nd c0_23 (nd c1_80 u207 (u251 P)) (nd a12 u252 (nd c6_240 (l1 a11) (l1 c12_496))))) (nd (c0_24 P) (nd c0_40 (nd c1_72 u208 u253) (u254 P)) (nd c1_56 u255 (nd c2_120 u256 (nd c6_248 (l1 c9_376) (l1 c12_504)))))) (nd c14_12 (nd c0_20 (nd c0_23 (nd (c1_68 P) u209 u257) (u258 P)) (nd c1_52 (nd c1_84 u210 (u259 P)) (nd c2_116 (nd a12 (nd c12_308 (l1 a12) .nil) (l1 a11)) (nd a12 (l1 a11) (l1 a11))))) (nd c0_28 (nd c0_44 (nd a11 u211 u260) u261) (nd c1_60 u262 (nd c0_23 u263 (nd c6_252 (l1 a11) (l1 c12_508))))))) (nd (boot_o_6 P) (nd (boot_o_10 P) (nd a11 (nd c0_34 (nd c0_35 u213 (nd a11 (nd c8_322 (l1 a11) .nil) (l1 a11))) (u264 P)) (nd a11 (nd c1_82 u214 u265) (nd a11 u266 (nd c6_242 (l1 c9_370) (l1 a12))))) (nd a12 (nd a11 (nd a12 u215 (u267 P)) (u268 P)) (nd c1_58 (u269 P) (nd c2_122 u270 (nd a11 (l1 c0_23) (l1 c12_506)))))) (nd a14 (nd c0_22 (nd a11 (nd c1_70 u217 (nd a11 (nd a12 (l1 a11) .nil) (l1 c11_454))) (u271 P)) (nd a11 u272 (nd c2_118 u273 (nd a11 (l1 c9_374) (l1 c12_502))))) (nd (c0_30 P) (nd c0_46 (nd c1_78 u219 (u274 P)) (nd c2_110 (u275 P) (nd c6_238 (l1 a12) (l1 c12_494)))) (nd (c1_62 P) u276 (nd a11 u277 (nd c6_254 (l1 c10_382) (l1 c0_23))))))))
def c15_3:=Obj.mk y3 none (Data.dict (A [de P q3 165 (vs q107 883),de P q5 166 vn,de P q6 167 vn,de P q7 168 y4,de P q8 169 vn,de P q9 170 (vr 6),de P q10 171 (vr 4),de P q11 173 (vs q1 172),de P q12 174 vn,de P q13 193 (vr 21),de P q14 213 (vr 31),de P q15 229 (vr 44),de P q22 254 (vr 63),de P q23 279 (vr 82),de P q30 304 (vr 101),de P q31 329 (vr 120),de P q34 392 (vr 167),de P q48 415 (vr 188),de P q49 438 (vr 207),de P q53 461 (vr 226),de P q55 528 (vr 280),de P q70 562 (vr 308),de P q75 601 (vr 341),de P q79 640 (vr 374),de P q83 696 (vr 419),de P q91 742 (vr 459),de P q96 800 (vr 506),de P q103 841 (vr 539),de P q108 882 (vr 572),de P q109 892 (vr 581),de P q110 899 (vr 588),de P q111 908 (vr 595),de P q112 918 (vr 602),de P q113 926 (vr 609),de P q114 937 (vr 616),de P q115 943 (vr 621),de P q129 950 (vr 628),de P q130 960 (vr 635),de P q131 966 (vr 640),de P q132 975 (vr 647),de P q133 985 (vr 654),de P q134 1002 (vr 661)]) 42) E
def c15_12:=Obj.mk vn none (Data.fields (A [vi 1 0,vi 0 0,vr 20,vi 5 0,vi 0 0,vr 27,vi 7 0,vi 0 0,vr 40,vi 9 0,vi 0 0,vr 52,vi 13 0,vi 0 0,vr 71,vi 17 0,vi 0 0,vr 90,vi 21 0,vi 0 0,vr 109,vi 26 0,vi 0 0,vr 128,vi 43 0,vi 0 0,vr 177,vi 47 0,vi 0 0,vr 196,vi 51 0,vi 0 0,vr 215,vi 56 0,vi 0 0,vr 234,vi 75 0,vi 0 0,vr 290,vi 83 0,vi 0 0,vr 316,vi 93 0,vi 0 0,vr 349,vi 103 0,vi 0 0,vr 382,vi 121 0,vi 0 0,vr 427,vi 134 0,vi 0 0,vr 467,vi 151 0,vi 0 0,vr 514,vi 161 0,vi 0 0,vr 547,vi 174 0,vi 0 0,vr 580,vi 178 0,vi 0 0,vr 587,vi 180 0,vi 0 0,vr 594,vi 183 0,vi 0 0,vr 601,vi 194 0,vi 0 0,vr 608,vi 198 0,vi 0 0,vr 615,vi 210 0,vi 0 0,vr 620,vi 212 0,vi 0 0,vr 627,vi 226 0,vi 0 0,vr 634,vi 233 0,vi 0 0,vr 639,vi 247 0,vi 0 0,vr 646,vi 258 0,vi 0 0,vr 653,vi 264 0,vi 0 0,vr 660])) E
def c15_624:=m3 q135 947
def c15_626:=m4 q129 q129 (B 31)
def c15_627:=m5 q129 944 q129 945 946 212 1 622 623 624 625 626 948 949
def c15_628:=m6 q129 q129 (B 31) q107 883 627
def c15_631:=m19 q135 954 q122 955 q136 956 q137 957
def c15_633:=m4 q130 q130 (B 32)
def c15_634:=m5 q130 951 q130 952 953 226 3 629 630 631 632 633 958 959
def c15_635:=m6 q130 q130 (B 32) q107 883 634
def c15_638:=m4 q131 q131 (B 33)
def c15_639:=m20 q131 961 q131 962 963 233 3 636 637 638 964 965
def c15_640:=m6 q131 q131 (B 33) q107 883 639
def c15_643:=m16 q121 970 q138 971 q139 972
def c15_645:=m4 q132 q132 (B 34)
def c15_646:=m5 q132 967 q132 968 969 247 2 641 642 643 644 645 973 974
def c15_647:=m6 q132 q132 (B 34) q107 883 646
def c15_650:=m19 q140 979 q136 980 q141 981 q142 982
def c15_652:=m4 q133 q133 (B 35)
def c15_653:=m5 q133 976 q133 977 978 258 3 648 649 650 651 652 983 984
def c15_654:=m6 q133 q133 (B 35) q107 883 653
def c15_657:=Obj.mk y0 none (Data.seq (A [vs q119 989,vs q136 990,vs q143 991,vs q144 992,vs q122 993,vs q135 994,vs q140 995,vs q138 996,vs q127 997]) 0) E
def c15_658:=m14 q145 998 q146 999
def c15_659:=m4 q134 q134 (B 36)
def c15_660:=m5 q134 986 q134 987 988 264 1 655 656 657 658 659 1000 1001
def c15_661:=m6 q134 q134 (B 36) q107 883 660
def u278:=nd (boot_o_0 P) (nd (boot_o_1 P) (nd (c15_3 P) (nd (boot_o_7 P) (nd a11 (nd c2_31 (nd c1_63 (nd c3_127 (nd c6_255 (l1 (c13_511 P)) .nil) (nd c10_383 (l1 c15_639) .nil)) u220) (u221 P)) (nd c0_35 (nd c1_79 (nd c3_143 (nd a11 (l1 c13_527) .nil) (nd a12 (l1 a11) .nil)) u222) (nd a11 u223 (nd a11 (nd c9_367 (l1 a12) .nil) (l1 c12_495))))) (nd c0_23 (nd a12 (nd c1_71 (nd c3_135 (nd c6_263 (l1 a11) .nil) (nd a11 (l1 c15_647) .nil)) u224) (u225 P)) (nd a12 (u226 P) (nd (c2_119 P) u227 (nd c6_247 (nd c9_375 (l1 c15_631) .nil) (l1 c12_503)))))) (nd a11 (nd c0_19 (nd c0_35 (nd c0_23 (nd a12 (nd c6_259 (l1 c13_515) .nil) (nd a11 (l1 c15_643) .nil)) u228) u229) (nd c1_51 (nd c1_83 (nd a11 (nd c6_275 (l1 a12) .nil) (nd c10_403 (l1 c15_659) .nil)) u230) (nd c2_115 (u231 P) (nd a11 (nd c9_371 (l1 c15_627) .nil) (l1 c12_499))))) (nd c0_27 (nd (c0_43 P) (nd c1_75 (nd c3_139 (nd a11 (l1 a11) .nil) (nd c10_395 (l1 a11) .nil)) u232) u233) (nd c1_59 u234 (nd a11 (u235 P) (nd a12 (nd (c10_379 P) (l1 c15_635) .nil) (l1 c12_507))))))) (nd (boot_o_5 P) (nd (boot_o_9 P) (nd c0_17 (nd c0_33 (nd c1_65 (nd c3_129 (nd a11 (l1 c13_513) .nil) (nd a12 (l1 a11) .nil)) (u236 P)) (u237 P)) (nd (c1_49 P) (nd (c1_81 P) (nd a12 (nd c6_273 (l1 c13_529) .nil) (nd a11 (l1 c15_657) .nil)) u238) (nd c2_113 u239 (nd c6_241 (nd c9_369 (l1 a11) .nil) (l1 a11))))) (nd a11 (nd c0_41 (nd a11 (nd a11 (nd a12 (l1 c13_521) .nil) (nd c10_393 (l1 a12) .nil)) (nd a11 (nd c8_329 (l1 a11) .nil) (l1 a11))) u240) (nd a11 u241 (nd c2_121 (u242 P) (nd c6_249 (nd c7_285 (l1 c15_633) .nil) (l1 (c12_505 P))))))) (nd a13 (nd c0_21 (nd (c0_37 P) (nd a11 (nd a11 (nd c6_261 (l1 a12) .nil) (nd c10_389 (l1 c15_645) .nil)) u243) u244) (nd c1_53 (nd c0_35 (nd c3_149 (nd c6_277 (l1 a11) .nil) (nd a11 (l1 c15_661) .nil)) (nd a11 (nd c8_341 (l1 a12) .nil) (l1 a11))) (nd c2_117 u245 (nd c6_245 (nd (c9_373 P) (l1 a11) .nil) (l1 c12_501))))) (nd a11 (nd c0_45 (nd c1_77 (nd c3_141 (nd c6_269 (l1 c13_525) .nil) (nd c10_397 (l1 c15_653) .nil)) (nd a11 (nd a12 (l1 a11) .nil) (l1 c11_461))) u246) (nd c1_61 u247 (nd (c3_125 P) u248 (nd a11 (nd c10_381 (l1 a12) .nil) (l1 c7_285)))))))) (nd (boot_o_2 P) (nd (boot_o_4 P) (nd (boot_o_8 P) (nd a12 (nd c0_32 (nd c1_64 (nd c3_128 (nd c6_256 (l1 a11) .nil) (nd a11 (l1 c15_640) .nil)) u249) (u250 P)) (nd c0_23 (nd c1_80 (nd a11 (nd a12 (l1 c13_528) .nil) (nd c10_400 (l1 a12) .nil)) (u251 P)) (nd a12 u252 (nd c6_240 (nd a11 (l1 c15_624) .nil) (l1 c12_496))))) (nd (c0_24 P) (nd c0_40 (nd c1_72 (nd c3_136 (nd a11 (l1 c13_520) .nil) (nd a12 (l1 a11) .nil)) u253) (u254 P)) (nd c1_56 u255 (nd c2_120 u256 (nd c6_248 (nd c9_376 (l1 a11) .nil) (l1 c12_504)))))) (nd c15_12 (nd c0_20 (nd c0_23 (nd (c1_68 P) (nd c3_132 (nd a11 (l1 a11) .nil) (nd c10_388 (l1 a11) .nil)) u257) (u258 P)) (nd c1_52 (nd c1_84 (nd c3_148 (nd c6_276 (l1 c13_532) .nil) (nd c10_404 (l1 c15_660) .nil)) (u259 P)) (nd c2_116 (nd a12 (nd c12_308 (l1 a12) .nil) (l1 a11)) (nd a12 (nd a11 (l1 c15_628) .nil) (l1 a11))))) (nd c0_28 (nd c0_44 (nd a11 (nd a11 (nd c6_268 (l1 a12) .nil) (nd c10_396 (l1 c15_652) .nil)) u260) u261) (nd c1_60 u262 (nd c0_23 u263 (nd c6_252 (nd a11 (l1 a11) .nil) (l1 c12_508))))))) (nd (boot_o_6 P) (nd (boot_o_10 P) (nd a11 (nd c0_34 (nd c0_35 (nd a11 (nd a12 (l1 c13_514) .nil) (nd c10_386 (l1 a12) .nil)) (nd a11 (nd c8_322 (l1 a11) .nil) (l1 a11))) (u264 P)) (nd a11 (nd c1_82 (nd c3_146 (nd a11 (l1 a11) .nil) (nd c10_402 (l1 c15_658) .nil)) u265) (nd a11 u266 (nd c6_242 (nd c9_370 (l1 c15_626) .nil) (l1 a12))))) (nd a12 (nd a11 (nd a12 (nd a12 (nd c6_266 (l1 c13_522) .nil) (nd a11 (l1 c15_650) .nil)) (u267 P)) (u268 P)) (nd c1_58 (u269 P) (nd c2_122 u270 (nd a11 (nd c0_23 (l1 c15_634) .nil) (l1 c12_506)))))) (nd a14 (nd c0_22 (nd a11 (nd c1_70 (nd c3_134 (nd c6_262 (l1 c13_518) .nil) (nd c10_390 (l1 c15_646) .nil)) (nd a11 (nd a12 (l1 a11) .nil) (l1 c11_454))) (u271 P)) (nd a11 u272 (nd c2_118 u273 (nd a11 (nd c9_374 (l1 a12) .nil) (l1 c12_502))))) (nd (c0_30 P) (nd c0_46 (nd c1_78 (nd c3_142 (nd c6_270 (l1 a11) .nil) (nd a11 (l1 c15_654) .nil)) (u274 P)) (nd c2_110 (u275 P) (nd c6_238 (nd a12 (l1 a11) .nil) (l1 c12_494)))) (nd (c1_62 P) u276 (nd a11 u277 (nd c6_254 (nd c10_382 (l1 c15_638) .nil) (l1 c0_23))))))))
def tc15_:=u278 P
def tz:=u278 P
end
noncomputable def sa (w : World) (os : OsState) : SharedT := SharedT.mk (ta w.params) 15 (@Life.mk [] [] [] 0 [] [] false E [] 0 false false false 0 [2000, 10, 10] false 0 true [] [] 0 false) E (@Drawn.mk 0 0 0 0) 187 os
noncomputable def sb (w : World) (os : OsState) : SharedT := SharedT.mk (tb w.params) 15 (@Life.mk [] [] [] 0 [] [] false E [] 0 false false false 0 [2000, 10, 10] false 0 true [] [] 0 false) E (@Drawn.mk 0 0 0 0) 187 os
noncomputable def sc0_ (w : World) (os : OsState) : SharedT := SharedT.mk (tc0_ w.params) 47 (@Life.mk [] [] [] 0 [] [] false E [] 0 false false false 0 [2000, 10, 10] false 0 true [] [] 0 false) E (@Drawn.mk 0 0 0 0) 230 os
noncomputable def sc1_ (w : World) (os : OsState) : SharedT := SharedT.mk (tc1_ w.params) 85 (@Life.mk [] [] [] 0 [] [] false E [] 0 false false false 0 [2000, 10, 10] false 0 true [] [] 0 false) E (@Drawn.mk 0 0 0 0) 280 os
noncomputable def sc2_ (w : World) (os : OsState) : SharedT := SharedT.mk (tc2_ w.params) 123 (@Life.mk [] [] [] 0 [] [] false E [] 0 false false false 0 [2000, 10, 10] false 0 true [] [] 0 false) E (@Drawn.mk 0 0 0 0) 332 os
noncomputable def sc3_ (w : World) (os : OsState) : SharedT := SharedT.mk (tc3_ w.params) 172 (@Life.mk [] [] [] 0 [] [] false E [] 0 false false false 0 [2000, 10, 10] false 0 true [] [] 0 false) E (@Drawn.mk 0 0 0 0) 393 os
noncomputable def sc4_ (w : World) (os : OsState) : SharedT := SharedT.mk (tc4_ w.params) 210 (@Life.mk [] [] [] 0 [] [] false E [] 0 false false false 0 [2000, 10, 10] false 0 true [] [] 0 false) E (@Drawn.mk 0 0 0 0) 439 os
noncomputable def sc5_ (w : World) (os : OsState) : SharedT := SharedT.mk (tc5_ w.params) 229 (@Life.mk [] [] [] 0 [] [] false E [] 0 false false false 0 [2000, 10, 10] false 0 true [] [] 0 false) E (@Drawn.mk 0 0 0 0) 464 os
noncomputable def sc6_ (w : World) (os : OsState) : SharedT := SharedT.mk (tc6_ w.params) 285 (@Life.mk [] [] [] 0 [] [] false E [] 0 false false false 0 [2000, 10, 10] false 0 true [] [] 0 false) E (@Drawn.mk 0 0 0 0) 529 os
noncomputable def sc7_ (w : World) (os : OsState) : SharedT := SharedT.mk (tc7_ w.params) 311 (@Life.mk [] [] [] 0 [] [] false E [] 0 false false false 0 [2000, 10, 10] false 0 true [] [] 0 false) E (@Drawn.mk 0 0 0 0) 563 os
noncomputable def sc8_ (w : World) (os : OsState) : SharedT := SharedT.mk (tc8_ w.params) 344 (@Life.mk [] [] [] 0 [] [] false E [] 0 false false false 0 [2000, 10, 10] false 0 true [] [] 0 false) E (@Drawn.mk 0 0 0 0) 602 os
noncomputable def sc9_ (w : World) (os : OsState) : SharedT := SharedT.mk (tc9_ w.params) 377 (@Life.mk [] [] [] 0 [] [] false E [] 0 false false false 0 [2000, 10, 10] false 0 true [] [] 0 false) E (@Drawn.mk 0 0 0 0) 641 os
noncomputable def sc10_ (w : World) (os : OsState) : SharedT := SharedT.mk (tc10_ w.params) 422 (@Life.mk [] [] [] 0 [] [] false E [] 0 false false false 0 [2000, 10, 10] false 0 true [] [] 0 false) E (@Drawn.mk 0 0 0 0) 697 os
noncomputable def sc11_ (w : World) (os : OsState) : SharedT := SharedT.mk (tc11_ w.params) 462 (@Life.mk [] [] [] 0 [] [] false E [] 0 false false false 0 [2000, 10, 10] false 0 true [] [] 0 false) E (@Drawn.mk 0 0 0 0) 743 os
noncomputable def sc12_ (w : World) (os : OsState) : SharedT := SharedT.mk (tc12_ w.params) 509 (@Life.mk [] [] [] 0 [] [] false E [] 0 false false false 0 [2000, 10, 10] false 0 true [] [] 0 false) E (@Drawn.mk 0 0 0 0) 801 os
noncomputable def sc13_ (w : World) (os : OsState) : SharedT := SharedT.mk (tc13_ w.params) 542 (@Life.mk [] [] [] 0 [] [] false E [] 0 false false false 0 [2000, 10, 10] false 0 true [] [] 0 false) E (@Drawn.mk 0 0 0 0) 842 os
noncomputable def sc14_ (w : World) (os : OsState) : SharedT := SharedT.mk (tc14_ w.params) 622 (@Life.mk [] [] [] 0 [] [] false E [] 0 false false false 0 [2000, 10, 10] false 0 true [] [] 0 false) E (@Drawn.mk 0 0 0 0) 944 os
noncomputable def sc15_ (w : World) (os : OsState) : SharedT := SharedT.mk (tc15_ w.params) 662 (@Life.mk [] [] [] 0 [] [] false E [] 0 false false false 0 [2000, 10, 10] false 0 true [] [] 0 false) E (@Drawn.mk 0 0 0 0) 1003 os
noncomputable abbrev e0 : Env := { scope := p0.main.scope, locals := mainNs, globals := mainNs, cells := [], code := (vr 13), frame := some 14 }
noncomputable abbrev en : Env := { scope := pq.main.scope, locals := mainNs, globals := mainNs, cells := [], code := (vr 13), frame := some 14 }
theorem bs : behindTheImports p0 = ((p0.main.body.drop 0).take 4 ++ ((p0.main.body.drop 4).take 2 ++ ((p0.main.body.drop 6).take 3 ++ ((p0.main.body.drop 9).take 1 ++ ((p0.main.body.drop 10).take 2 ++ ((p0.main.body.drop 12).take 2 ++ ((p0.main.body.drop 14).take 1 ++ ((p0.main.body.drop 15).take 1 ++ ((p0.main.body.drop 16).take 1 ++ ((p0.main.body.drop 17).take 1 ++ ((p0.main.body.drop 18).take 1 ++ ((p0.main.body.drop 19).take 1 ++ ((p0.main.body.drop 20).take 1 ++ ((p0.main.body.drop 21).take 1 ++ ((p0.main.body.drop 22).take 9 ++ ((p0.main.body.drop 31).take 6 ++ [])))))))))))))))) := by kernel_rfl
theorem pre_l (w : World) (os : OsState) : topGo treeTable p0 w 11 (sr 6) 12 ⟨boot_heap w.params, Array.mk [], boot_drawn, boot_toks, os⟩ (topStub p0) = some ((sa w os).abs, ⟨denote treeTable (Code.body (behindTheImports p0) e0), Code.body (behindTheImports p0) e0, (@Pos.mk 0 0 0 0), [topFrame (@Pos.mk 0 0 0 0)]⟩) := by
  rw [PySem.W.Fast.te15667345088766844465, PySem.W.Fast.te14364793385576792824, PySem.W.Fast.te11892475500146522536, pe]
  kernel_rfl
theorem blk_l (w : World) (os : OsState) : segRun treeTable p0 w 11 (sr 6) 1 1 (sa w os).abs (blockOf (behindTheImports p0) e0 (Code.body (behindTheImports p0) e0) (@Pos.mk 0 0 0 0) [topFrame (@Pos.mk 0 0 0 0)]) = some (Flow.next, (sb w os).abs, Code.body (behindTheImports p0) e0, (@Pos.mk 0 0 0 0)) := by
  refine segRun_of ?_
  rw [PySem.W.Fast.te10110043849684766642, PySem.W.Fast.te14364793385576792824, pe]
  kernel_rfl
theorem g0 (p : Program) (b : List Stmt) : ∀ w : World, (fun os => PySem.W.Fast.tw10110043849684766642 PySem.W.Fast.tw14364793385576792824 p w 11 (sr 6) 1 438 (sb w os) (piecesOf ((pq.main.body.drop 0).take 4) en (Code.body b en) (@Pos.mk 0 0 0 0) [topFrame (@Pos.mk 0 0 0 0)])) = (fun os => some (Flow.next, sc0_ w os, Code.body b en, (@Pos.mk 7 0 8 8))) := fun w => by kernel_rfl
theorem h0 (b : List Stmt) (w : World) (os : OsState) : segRun treeTable p0 w 11 (sr 6) 1 438 (sb w os).abs (piecesOf ((p0.main.body.drop 0).take 4) e0 (Code.body b e0) (@Pos.mk 0 0 0 0) [topFrame (@Pos.mk 0 0 0 0)]) = some (Flow.next, (sc0_ w os).abs, Code.body b e0, (@Pos.mk 7 0 8 8)) := by
  refine segRun_of ?_
  rw [PySem.W.Fast.te10110043849684766642, PySem.W.Fast.te14364793385576792824, pe]
  exact congrFun (g0 pq b w) os
theorem g1 (p : Program) (b : List Stmt) : ∀ w : World, (fun os => PySem.W.Fast.tw10110043849684766642 PySem.W.Fast.tw14364793385576792824 p w 11 (sr 6) 1 491 (sc0_ w os) (piecesOf ((pq.main.body.drop 4).take 2) en (Code.body b en) (@Pos.mk 7 0 8 8) [topFrame (@Pos.mk 0 0 0 0)])) = (fun os => some (Flow.next, sc1_ w os, Code.body b en, (@Pos.mk 13 0 16 20))) := fun w => by kernel_rfl
theorem h1 (b : List Stmt) (w : World) (os : OsState) : segRun treeTable p0 w 11 (sr 6) 1 491 (sc0_ w os).abs (piecesOf ((p0.main.body.drop 4).take 2) e0 (Code.body b e0) (@Pos.mk 7 0 8 8) [topFrame (@Pos.mk 0 0 0 0)]) = some (Flow.next, (sc1_ w os).abs, Code.body b e0, (@Pos.mk 13 0 16 20)) := by
  refine segRun_of ?_
  rw [PySem.W.Fast.te10110043849684766642, PySem.W.Fast.te14364793385576792824, pe]
  exact congrFun (g1 pq b w) os
theorem g2 (p : Program) (b : List Stmt) : ∀ w : World, (fun os => PySem.W.Fast.tw10110043849684766642 PySem.W.Fast.tw14364793385576792824 p w 11 (sr 6) 1 500 (sc1_ w os) (piecesOf ((pq.main.body.drop 6).take 3) en (Code.body b en) (@Pos.mk 13 0 16 20) [topFrame (@Pos.mk 0 0 0 0)])) = (fun os => some (Flow.next, sc2_ w os, Code.body b en, (@Pos.mk 25 0 25 8))) := fun w => by kernel_rfl
theorem h2 (b : List Stmt) (w : World) (os : OsState) : segRun treeTable p0 w 11 (sr 6) 1 500 (sc1_ w os).abs (piecesOf ((p0.main.body.drop 6).take 3) e0 (Code.body b e0) (@Pos.mk 13 0 16 20) [topFrame (@Pos.mk 0 0 0 0)]) = some (Flow.next, (sc2_ w os).abs, Code.body b e0, (@Pos.mk 25 0 25 8)) := by
  refine segRun_of ?_
  rw [PySem.W.Fast.te10110043849684766642, PySem.W.Fast.te14364793385576792824, pe]
  exact congrFun (g2 pq b w) os
theorem g3 (p : Program) (b : List Stmt) : ∀ w : World, (fun os => PySem.W.Fast.tw10110043849684766642 PySem.W.Fast.tw14364793385576792824 p w 11 (sr 6) 1 351 (sc2_ w os) (piecesOf ((pq.main.body.drop 9).take 1) en (Code.body b en) (@Pos.mk 25 0 25 8) [topFrame (@Pos.mk 0 0 0 0)])) = (fun os => some (Flow.next, sc3_ w os, Code.body b en, (@Pos.mk 26 0 42 51))) := fun w => by kernel_rfl
theorem h3 (b : List Stmt) (w : World) (os : OsState) : segRun treeTable p0 w 11 (sr 6) 1 351 (sc2_ w os).abs (piecesOf ((p0.main.body.drop 9).take 1) e0 (Code.body b e0) (@Pos.mk 25 0 25 8) [topFrame (@Pos.mk 0 0 0 0)]) = some (Flow.next, (sc3_ w os).abs, Code.body b e0, (@Pos.mk 26 0 42 51)) := by
  refine segRun_of ?_
  rw [PySem.W.Fast.te10110043849684766642, PySem.W.Fast.te14364793385576792824, pe]
  exact congrFun (g3 pq b w) os
theorem g4 (p : Program) (b : List Stmt) : ∀ w : World, (fun os => PySem.W.Fast.tw10110043849684766642 PySem.W.Fast.tw14364793385576792824 p w 11 (sr 6) 1 487 (sc3_ w os) (piecesOf ((pq.main.body.drop 10).take 2) en (Code.body b en) (@Pos.mk 26 0 42 51) [topFrame (@Pos.mk 0 0 0 0)])) = (fun os => some (Flow.next, sc4_ w os, Code.body b en, (@Pos.mk 47 0 50 21))) := fun w => by kernel_rfl
theorem h4 (b : List Stmt) (w : World) (os : OsState) : segRun treeTable p0 w 11 (sr 6) 1 487 (sc3_ w os).abs (piecesOf ((p0.main.body.drop 10).take 2) e0 (Code.body b e0) (@Pos.mk 26 0 42 51) [topFrame (@Pos.mk 0 0 0 0)]) = some (Flow.next, (sc4_ w os).abs, Code.body b e0, (@Pos.mk 47 0 50 21)) := by
  refine segRun_of ?_
  rw [PySem.W.Fast.te10110043849684766642, PySem.W.Fast.te14364793385576792824, pe]
  exact congrFun (g4 pq b w) os
theorem g5 (p : Program) (b : List Stmt) : ∀ w : World, (fun os => PySem.W.Fast.tw10110043849684766642 PySem.W.Fast.tw14364793385576792824 p w 11 (sr 6) 1 253 (sc4_ w os) (piecesOf ((pq.main.body.drop 12).take 2) en (Code.body b en) (@Pos.mk 47 0 50 21) [topFrame (@Pos.mk 0 0 0 0)])) = (fun os => some (Flow.next, sc5_ w os, Code.body b en, (@Pos.mk 55 0 55 8))) := fun w => by kernel_rfl
theorem h5 (b : List Stmt) (w : World) (os : OsState) : segRun treeTable p0 w 11 (sr 6) 1 253 (sc4_ w os).abs (piecesOf ((p0.main.body.drop 12).take 2) e0 (Code.body b e0) (@Pos.mk 47 0 50 21) [topFrame (@Pos.mk 0 0 0 0)]) = some (Flow.next, (sc5_ w os).abs, Code.body b e0, (@Pos.mk 55 0 55 8)) := by
  refine segRun_of ?_
  rw [PySem.W.Fast.te10110043849684766642, PySem.W.Fast.te14364793385576792824, pe]
  exact congrFun (g5 pq b w) os
theorem g6 (p : Program) (b : List Stmt) : ∀ w : World, (fun os => PySem.W.Fast.tw10110043849684766642 PySem.W.Fast.tw14364793385576792824 p w 11 (sr 6) 1 379 (sc5_ w os) (piecesOf ((pq.main.body.drop 14).take 1) en (Code.body b en) (@Pos.mk 55 0 55 8) [topFrame (@Pos.mk 0 0 0 0)])) = (fun os => some (Flow.next, sc6_ w os, Code.body b en, (@Pos.mk 56 0 74 16))) := fun w => by kernel_rfl
theorem h6 (b : List Stmt) (w : World) (os : OsState) : segRun treeTable p0 w 11 (sr 6) 1 379 (sc5_ w os).abs (piecesOf ((p0.main.body.drop 14).take 1) e0 (Code.body b e0) (@Pos.mk 55 0 55 8) [topFrame (@Pos.mk 0 0 0 0)]) = some (Flow.next, (sc6_ w os).abs, Code.body b e0, (@Pos.mk 56 0 74 16)) := by
  refine segRun_of ?_
  rw [PySem.W.Fast.te10110043849684766642, PySem.W.Fast.te14364793385576792824, pe]
  exact congrFun (g6 pq b w) os
theorem g7 (p : Program) (b : List Stmt) : ∀ w : World, (fun os => PySem.W.Fast.tw10110043849684766642 PySem.W.Fast.tw14364793385576792824 p w 11 (sr 6) 1 279 (sc6_ w os) (piecesOf ((pq.main.body.drop 15).take 1) en (Code.body b en) (@Pos.mk 56 0 74 16) [topFrame (@Pos.mk 0 0 0 0)])) = (fun os => some (Flow.next, sc7_ w os, Code.body b en, (@Pos.mk 75 0 82 16))) := fun w => by kernel_rfl
theorem h7 (b : List Stmt) (w : World) (os : OsState) : segRun treeTable p0 w 11 (sr 6) 1 279 (sc6_ w os).abs (piecesOf ((p0.main.body.drop 15).take 1) e0 (Code.body b e0) (@Pos.mk 56 0 74 16) [topFrame (@Pos.mk 0 0 0 0)]) = some (Flow.next, (sc7_ w os).abs, Code.body b e0, (@Pos.mk 75 0 82 16)) := by
  refine segRun_of ?_
  rw [PySem.W.Fast.te10110043849684766642, PySem.W.Fast.te14364793385576792824, pe]
  exact congrFun (g7 pq b w) os
theorem g8 (p : Program) (b : List Stmt) : ∀ w : World, (fun os => PySem.W.Fast.tw10110043849684766642 PySem.W.Fast.tw14364793385576792824 p w 11 (sr 6) 1 322 (sc7_ w os) (piecesOf ((pq.main.body.drop 16).take 1) en (Code.body b en) (@Pos.mk 75 0 82 16) [topFrame (@Pos.mk 0 0 0 0)])) = (fun os => some (Flow.next, sc8_ w os, Code.body b en, (@Pos.mk 83 0 92 16))) := fun w => by kernel_rfl
theorem h8 (b : List Stmt) (w : World) (os : OsState) : segRun treeTable p0 w 11 (sr 6) 1 322 (sc7_ w os).abs (piecesOf ((p0.main.body.drop 16).take 1) e0 (Code.body b e0) (@Pos.mk 75 0 82 16) [topFrame (@Pos.mk 0 0 0 0)]) = some (Flow.next, (sc8_ w os).abs, Code.body b e0, (@Pos.mk 83 0 92 16)) := by
  refine segRun_of ?_
  rw [PySem.W.Fast.te10110043849684766642, PySem.W.Fast.te14364793385576792824, pe]
  exact congrFun (g8 pq b w) os
theorem g9 (p : Program) (b : List Stmt) : ∀ w : World, (fun os => PySem.W.Fast.tw10110043849684766642 PySem.W.Fast.tw14364793385576792824 p w 11 (sr 6) 1 322 (sc8_ w os) (piecesOf ((pq.main.body.drop 17).take 1) en (Code.body b en) (@Pos.mk 83 0 92 16) [topFrame (@Pos.mk 0 0 0 0)])) = (fun os => some (Flow.next, sc9_ w os, Code.body b en, (@Pos.mk 93 0 102 16))) := fun w => by kernel_rfl
theorem h9 (b : List Stmt) (w : World) (os : OsState) : segRun treeTable p0 w 11 (sr 6) 1 322 (sc8_ w os).abs (piecesOf ((p0.main.body.drop 17).take 1) e0 (Code.body b e0) (@Pos.mk 83 0 92 16) [topFrame (@Pos.mk 0 0 0 0)]) = some (Flow.next, (sc9_ w os).abs, Code.body b e0, (@Pos.mk 93 0 102 16)) := by
  refine segRun_of ?_
  rw [PySem.W.Fast.te10110043849684766642, PySem.W.Fast.te14364793385576792824, pe]
  exact congrFun (g9 pq b w) os
theorem g10 (p : Program) (b : List Stmt) : ∀ w : World, (fun os => PySem.W.Fast.tw10110043849684766642 PySem.W.Fast.tw14364793385576792824 p w 11 (sr 6) 1 371 (sc9_ w os) (piecesOf ((pq.main.body.drop 18).take 1) en (Code.body b en) (@Pos.mk 93 0 102 16) [topFrame (@Pos.mk 0 0 0 0)])) = (fun os => some (Flow.next, sc10_ w os, Code.body b en, (@Pos.mk 103 0 120 17))) := fun w => by kernel_rfl
theorem h10 (b : List Stmt) (w : World) (os : OsState) : segRun treeTable p0 w 11 (sr 6) 1 371 (sc9_ w os).abs (piecesOf ((p0.main.body.drop 18).take 1) e0 (Code.body b e0) (@Pos.mk 93 0 102 16) [topFrame (@Pos.mk 0 0 0 0)]) = some (Flow.next, (sc10_ w os).abs, Code.body b e0, (@Pos.mk 103 0 120 17)) := by
  refine segRun_of ?_
  rw [PySem.W.Fast.te10110043849684766642, PySem.W.Fast.te14364793385576792824, pe]
  exact congrFun (g10 pq b w) os
theorem g11 (p : Program) (b : List Stmt) : ∀ w : World, (fun os => PySem.W.Fast.tw10110043849684766642 PySem.W.Fast.tw14364793385576792824 p w 11 (sr 6) 1 353 (sc10_ w os) (piecesOf ((pq.main.body.drop 19).take 1) en (Code.body b en) (@Pos.mk 103 0 120 17) [topFrame (@Pos.mk 0 0 0 0)])) = (fun os => some (Flow.next, sc11_ w os, Code.body b en, (@Pos.mk 121 0 133 17))) := fun w => by kernel_rfl
theorem h11 (b : List Stmt) (w : World) (os : OsState) : segRun treeTable p0 w 11 (sr 6) 1 353 (sc10_ w os).abs (piecesOf ((p0.main.body.drop 19).take 1) e0 (Code.body b e0) (@Pos.mk 103 0 120 17) [topFrame (@Pos.mk 0 0 0 0)]) = some (Flow.next, (sc11_ w os).abs, Code.body b e0, (@Pos.mk 121 0 133 17)) := by
  refine segRun_of ?_
  rw [PySem.W.Fast.te10110043849684766642, PySem.W.Fast.te14364793385576792824, pe]
  exact congrFun (g11 pq b w) os
theorem g12 (p : Program) (b : List Stmt) : ∀ w : World, (fun os => PySem.W.Fast.tw10110043849684766642 PySem.W.Fast.tw14364793385576792824 p w 11 (sr 6) 1 389 (sc11_ w os) (piecesOf ((pq.main.body.drop 20).take 1) en (Code.body b en) (@Pos.mk 121 0 133 17) [topFrame (@Pos.mk 0 0 0 0)])) = (fun os => some (Flow.next, sc12_ w os, Code.body b en, (@Pos.mk 134 0 150 17))) := fun w => by kernel_rfl
theorem h12 (b : List Stmt) (w : World) (os : OsState) : segRun treeTable p0 w 11 (sr 6) 1 389 (sc11_ w os).abs (piecesOf ((p0.main.body.drop 20).take 1) e0 (Code.body b e0) (@Pos.mk 121 0 133 17) [topFrame (@Pos.mk 0 0 0 0)]) = some (Flow.next, (sc12_ w os).abs, Code.body b e0, (@Pos.mk 134 0 150 17)) := by
  refine segRun_of ?_
  rw [PySem.W.Fast.te10110043849684766642, PySem.W.Fast.te14364793385576792824, pe]
  exact congrFun (g12 pq b w) os
theorem g13 (p : Program) (b : List Stmt) : ∀ w : World, (fun os => PySem.W.Fast.tw10110043849684766642 PySem.W.Fast.tw14364793385576792824 p w 11 (sr 6) 1 310 (sc12_ w os) (piecesOf ((pq.main.body.drop 21).take 1) en (Code.body b en) (@Pos.mk 134 0 150 17) [topFrame (@Pos.mk 0 0 0 0)])) = (fun os => some (Flow.next, sc13_ w os, Code.body b en, (@Pos.mk 151 0 160 17))) := fun w => by kernel_rfl
theorem h13 (b : List Stmt) (w : World) (os : OsState) : segRun treeTable p0 w 11 (sr 6) 1 310 (sc12_ w os).abs (piecesOf ((p0.main.body.drop 21).take 1) e0 (Code.body b e0) (@Pos.mk 134 0 150 17) [topFrame (@Pos.mk 0 0 0 0)]) = some (Flow.next, (sc13_ w os).abs, Code.body b e0, (@Pos.mk 151 0 160 17)) := by
  refine segRun_of ?_
  rw [PySem.W.Fast.te10110043849684766642, PySem.W.Fast.te14364793385576792824, pe]
  exact congrFun (g13 pq b w) os
theorem g14 (p : Program) (b : List Stmt) : ∀ w : World, (fun os => PySem.W.Fast.tw10110043849684766642 PySem.W.Fast.tw14364793385576792824 p w 11 (sr 6) 1 530 (sc13_ w os) (piecesOf ((pq.main.body.drop 22).take 9) en (Code.body b en) (@Pos.mk 151 0 160 17) [topFrame (@Pos.mk 0 0 0 0)])) = (fun os => some (Flow.next, sc14_ w os, Code.body b en, (@Pos.mk 210 0 211 109))) := fun w => by kernel_rfl
theorem h14 (b : List Stmt) (w : World) (os : OsState) : segRun treeTable p0 w 11 (sr 6) 1 530 (sc13_ w os).abs (piecesOf ((p0.main.body.drop 22).take 9) e0 (Code.body b e0) (@Pos.mk 151 0 160 17) [topFrame (@Pos.mk 0 0 0 0)]) = some (Flow.next, (sc14_ w os).abs, Code.body b e0, (@Pos.mk 210 0 211 109)) := by
  refine segRun_of ?_
  rw [PySem.W.Fast.te10110043849684766642, PySem.W.Fast.te14364793385576792824, pe]
  exact congrFun (g14 pq b w) os
theorem g15 (p : Program) (b : List Stmt) : ∀ w : World, (fun os => PySem.W.Fast.tw10110043849684766642 PySem.W.Fast.tw14364793385576792824 p w 11 (sr 6) 1 190 (sc14_ w os) (piecesOf ((pq.main.body.drop 31).take 6) en (Code.body b en) (@Pos.mk 210 0 211 109) [topFrame (@Pos.mk 0 0 0 0)])) = (fun os => some (Flow.next, sc15_ w os, Code.body b en, (@Pos.mk 264 0 290 15))) := fun w => by kernel_rfl
theorem h15 (b : List Stmt) (w : World) (os : OsState) : segRun treeTable p0 w 11 (sr 6) 1 190 (sc14_ w os).abs (piecesOf ((p0.main.body.drop 31).take 6) e0 (Code.body b e0) (@Pos.mk 210 0 211 109) [topFrame (@Pos.mk 0 0 0 0)]) = some (Flow.next, (sc15_ w os).abs, Code.body b e0, (@Pos.mk 264 0 290 15)) := by
  refine segRun_of ?_
  rw [PySem.W.Fast.te10110043849684766642, PySem.W.Fast.te14364793385576792824, pe]
  exact congrFun (g15 pq b w) os
noncomputable abbrev H1 : Params → Heap := fun P => absHeap (tz P) 662 (@Life.mk [] [] [] 0 [] [] false E [] 0 false false false 0 [2000, 10, 10] false 0 true [] [] 0 false)
theorem fin_l (b : List Stmt) (w : World) (os : OsState) : topRun treeTable p0 w 11 (sr 6) 2 (sc15_ w os).abs ⟨doneF .next, Code.body b e0, (@Pos.mk 264 0 290 15), [topFrame (@Pos.mk 0 0 0 0)]⟩ = some ⟨H1 w.params, Array.mk [], (@Drawn.mk 0 0 0 0), 1003, os⟩ := by
  rw [PySem.W.Fast.te14082659384304107361, PySem.W.Fast.te14364793385576792824, pe]
  kernel_rfl
theorem run_l (w : World) (os : OsState) : topRun treeTable p0 w 11 (sr 6) (12 + (1 + (438 + (491 + (500 + (351 + (487 + (253 + (379 + (279 + (322 + (322 + (371 + (353 + (389 + (310 + (530 + (190 + 2)))))))))))))))))) ⟨boot_heap w.params, Array.mk [], boot_drawn, boot_toks, os⟩ (topStub p0) = some ⟨H1 w.params, Array.mk [], (@Drawn.mk 0 0 0 0), 1003, os⟩ := by
  refine go_top (pre_l w os) (piece_block (blk_l w os) ?k)
  rw [bs]
  exact piece_app (h0 _ w os) (piece_app (h1 _ w os) (piece_app (h2 _ w os) (piece_app (h3 _ w os) (piece_app (h4 _ w os) (piece_app (h5 _ w os) (piece_app (h6 _ w os) (piece_app (h7 _ w os) (piece_app (h8 _ w os) (piece_app (h9 _ w os) (piece_app (h10 _ w os) (piece_app (h11 _ w os) (piece_app (h12 _ w os) (piece_app (h13 _ w os) (piece_app (h14 _ w os) (piece_app (h15 _ w os) (piece_nil (fin_l _ w os)))))))))))))))))
abbrev kF (a b : String) (s : Stmt) (m : String) (n v : Nat) : Params → Obj := fun P => (Obj.mk (@Value.type "function") none (Data.func (fk (@Str.ofString a) (@Str.ofString b) s 3 [] vn vn vn (@Value.str (@Str.ofString m) n) none (vr v) vn 0)) E)
abbrev k21:=kF "_wall" "_wall" (T 0) "__main__" 164 20
abbrev k60:=kF "__init__" "NoText.__init__" (N 4 0) "pactroom.errors" 194 59
abbrev k79:=kF "__init__" "NoPlace.__init__" (N 5 0) "pactroom.errors" 194 78
abbrev k98:=kF "__init__" "NoWayBack.__init__" (N 6 0) "pactroom.errors" 194 97
abbrev k117:=kF "__init__" "NoFit.__init__" (N 7 0) "pactroom.errors" 194 116
abbrev k136:=kF "__init__" "Lock.__init__" (N 9 0) "pactroom.kinds" 330 135
abbrev k143:=kF "kind" "Lock.kind" (N 9 1) "pactroom.kinds" 330 142
abbrev k150:=kF "beside" "Lock.beside" (N 9 2) "pactroom.kinds" 330 149
abbrev k157:=kF "covers" "Lock.covers" (N 9 3) "pactroom.kinds" 330 156
abbrev k164:=kF "told" "Lock.told" (N 9 4) "pactroom.kinds" 330 163
abbrev k185:=kF "kind" "Read.kind" (N 10 0) "pactroom.kinds" 330 184
abbrev k204:=kF "kind" "Mean.kind" (N 11 0) "pactroom.kinds" 330 203
abbrev k223:=kF "kind" "Change.kind" (N 12 0) "pactroom.kinds" 330 222
abbrev k242:=kF "house" "Step.house" (N 14 0) "pactroom.steps" 462 241
abbrev k249:=kF "lock" "Step.lock" (N 14 1) "pactroom.steps" 462 248
abbrev k256:=kF "step_done" "Step.step_done" (N 14 2) "pactroom.steps" 462 255
abbrev k263:=kF "back" "Step.back" (N 14 3) "pactroom.steps" 462 262
abbrev k270:=kF "sure" "Step.sure" (N 14 4) "pactroom.steps" 462 269
abbrev k277:=kF "spelled" "Step.spelled" (N 14 5) "pactroom.steps" 462 276
abbrev k298:=kF "__init__" "CellStep.__init__" (N 15 0) "pactroom.steps" 462 297
abbrev k305:=kF "house" "CellStep.house" (N 15 1) "pactroom.steps" 462 304
abbrev k324:=kF "lock" "TakeStep.lock" (N 16 0) "pactroom.steps" 462 323
abbrev k331:=kF "step_done" "TakeStep.step_done" (N 16 1) "pactroom.steps" 462 330
abbrev k338:=kF "spelled" "TakeStep.spelled" (N 16 2) "pactroom.steps" 462 337
abbrev k357:=kF "lock" "MeanStep.lock" (N 17 0) "pactroom.steps" 462 356
abbrev k364:=kF "step_done" "MeanStep.step_done" (N 17 1) "pactroom.steps" 462 363
abbrev k371:=kF "spelled" "MeanStep.spelled" (N 17 2) "pactroom.steps" 462 370
abbrev k390:=kF "__init__" "SumStep.__init__" (N 18 0) "pactroom.steps" 462 389
abbrev k397:=kF "house" "SumStep.house" (N 18 1) "pactroom.steps" 462 396
abbrev k404:=kF "lock" "SumStep.lock" (N 18 2) "pactroom.steps" 462 403
abbrev k409:=kF "step_done" "SumStep.step_done" (N 18 3) "pactroom.steps" 462 408
abbrev k416:=kF "spelled" "SumStep.spelled" (N 18 4) "pactroom.steps" 462 415
abbrev k435:=kF "lock" "GiveStep.lock" (N 19 0) "pactroom.steps" 462 434
abbrev k442:=kF "step_done" "GiveStep.step_done" (N 19 1) "pactroom.steps" 462 441
abbrev k449:=kF "sure" "GiveStep.sure" (N 19 2) "pactroom.steps" 462 448
abbrev k456:=kF "spelled" "GiveStep.spelled" (N 19 3) "pactroom.steps" 462 455
abbrev k475:=kF "__init__" "AddStep.__init__" (N 20 0) "pactroom.steps" 462 474
abbrev k482:=kF "lock" "AddStep.lock" (N 20 1) "pactroom.steps" 462 481
abbrev k489:=kF "step_done" "AddStep.step_done" (N 20 2) "pactroom.steps" 462 488
abbrev k496:=kF "back" "AddStep.back" (N 20 3) "pactroom.steps" 462 495
abbrev k503:=kF "spelled" "AddStep.spelled" (N 20 4) "pactroom.steps" 462 502
abbrev k522:=kF "__init__" "PlusStep.__init__" (N 21 0) "pactroom.steps" 462 521
abbrev k529:=kF "step_done" "PlusStep.step_done" (N 21 1) "pactroom.steps" 462 528
abbrev k536:=kF "spelled" "PlusStep.spelled" (N 21 2) "pactroom.steps" 462 535
abbrev k555:=kF "__init__" "NeedStep.__init__" (N 22 0) "pactroom.steps" 462 554
abbrev k562:=kF "step_done" "NeedStep.step_done" (N 22 1) "pactroom.steps" 462 561
abbrev k569:=kF "spelled" "NeedStep.spelled" (N 22 2) "pactroom.steps" 462 568
abbrev k581:=kF "_law_cell" "_law_cell" (T 24) "law_pactroom_k22_a_step_done" 883 580
abbrev k588:=kF "_law_whole" "_law_whole" (T 25) "law_pactroom_k22_a_step_done" 883 587
abbrev k595:=kF "_law_mixed" "_law_mixed" (T 26) "law_pactroom_k22_a_step_done" 883 594
abbrev k602:=kF "_law_number" "_law_number" (T 27) "law_pactroom_k22_a_step_done" 883 601
abbrev k609:=kF "_law_either" "_law_either" (T 28) "law_pactroom_k22_a_step_done" 883 608
abbrev k616:=kF "_law_step" "_law_step" (T 29) "law_pactroom_k22_a_step_done" 883 615
abbrev k628:=kF "_law_made" "_law_made" (T 31) "law_pactroom_k22_a_step_done" 883 627
abbrev k635:=kF "_law_near" "_law_near" (T 32) "law_pactroom_k22_a_step_done" 883 634
abbrev k640:=kF "_law_due" "_law_due" (T 33) "law_pactroom_k22_a_step_done" 883 639
abbrev k647:=kF "_law_alike" "_law_alike" (T 34) "law_pactroom_k22_a_step_done" 883 646
abbrev k654:=kF "_law_refused" "_law_refused" (T 35) "law_pactroom_k22_a_step_done" 883 653
abbrev k661:=kF "law" "law" (T 36) "law_pactroom_k22_a_step_done" 883 660
noncomputable def Kf : Params → Frag := fun P => (nat_lit 2, boot_o_2 P) :: (nat_lit 3, c15_3 P) :: (nat_lit 15, a11) :: (nat_lit 17, c0_17) :: (nat_lit 18, a11) :: (nat_lit 20, c0_20) :: (nat_lit 21, k21 P) :: (nat_lit 22, c0_22) :: (nat_lit 29, a11) :: (nat_lit 30, c0_30 P) :: (nat_lit 31, c2_31) :: (nat_lit 32, c0_32) :: (nat_lit 35, c0_35) :: (nat_lit 42, a11) :: (nat_lit 43, c0_43 P) :: (nat_lit 44, c0_44) :: (nat_lit 47, c0_35) :: (nat_lit 54, a11) :: (nat_lit 56, c1_56) :: (nat_lit 57, a11) :: (nat_lit 59, c1_59) :: (nat_lit 60, k60 P) :: (nat_lit 61, c1_61) :: (nat_lit 62, c1_62 P) :: (nat_lit 63, c1_63) :: (nat_lit 66, c0_35) :: (nat_lit 73, a11) :: (nat_lit 75, c1_75) :: (nat_lit 76, a11) :: (nat_lit 78, c1_78) :: (nat_lit 79, k79 P) :: (nat_lit 80, c1_80) :: (nat_lit 81, c1_81 P) :: (nat_lit 82, c1_82) :: (nat_lit 85, c0_35) :: (nat_lit 92, a11) :: (nat_lit 94, c2_94) :: (nat_lit 95, a11) :: (nat_lit 97, c2_97) :: (nat_lit 98, k98 P) :: (nat_lit 99, c2_99) :: (nat_lit 100, c2_100 P) :: (nat_lit 101, c2_101) :: (nat_lit 104, c0_35) :: (nat_lit 111, a11) :: (nat_lit 113, c2_113) :: (nat_lit 114, a11) :: (nat_lit 116, c2_116) :: (nat_lit 117, k117 P) :: (nat_lit 118, c2_118) :: (nat_lit 119, c2_119 P) :: (nat_lit 120, c2_120) :: (nat_lit 130, a11) :: (nat_lit 132, c3_132) :: (nat_lit 133, a11) :: (nat_lit 135, c3_135) :: (nat_lit 136, k136 P) :: (nat_lit 137, a11) :: (nat_lit 139, c3_139) :: (nat_lit 140, a11) :: (nat_lit 142, c3_142) :: (nat_lit 143, k143 P) :: (nat_lit 144, a11) :: (nat_lit 146, c3_146) :: (nat_lit 147, a11) :: (nat_lit 149, c3_149) :: (nat_lit 150, k150 P) :: (nat_lit 151, a11) :: (nat_lit 153, c3_153) :: (nat_lit 154, a11) :: (nat_lit 156, c3_156) :: (nat_lit 157, k157 P) :: (nat_lit 158, a11) :: (nat_lit 160, c3_160) :: (nat_lit 161, a11) :: (nat_lit 163, c3_163) :: (nat_lit 164, k164 P) :: (nat_lit 165, c3_165) :: (nat_lit 166, c3_166 P) :: (nat_lit 167, c5_167) :: (nat_lit 168, c3_168) :: (nat_lit 169, c3_169) :: (nat_lit 172, c4_172) :: (nat_lit 179, a11) :: (nat_lit 181, c4_181) :: (nat_lit 182, a11) :: (nat_lit 184, c4_184) :: (nat_lit 185, k185 P) :: (nat_lit 186, a11) :: (nat_lit 187, c4_187 P) :: (nat_lit 188, c4_188) :: (nat_lit 191, c4_172) :: (nat_lit 198, a11) :: (nat_lit 200, c4_200) :: (nat_lit 201, a11) :: (nat_lit 203, c4_203) :: (nat_lit 204, k204 P) :: (nat_lit 205, a11) :: (nat_lit 206, c4_206 P) :: (nat_lit 207, c4_207) :: (nat_lit 210, c4_172) :: (nat_lit 217, a11) :: (nat_lit 219, c5_219) :: (nat_lit 220, a11) :: (nat_lit 222, c5_222) :: (nat_lit 223, k223 P) :: (nat_lit 224, a11) :: (nat_lit 225, c5_225 P) :: (nat_lit 226, c5_226) :: (nat_lit 236, a11) :: (nat_lit 238, c6_238) :: (nat_lit 239, a11) :: (nat_lit 241, c6_241) :: (nat_lit 242, k242 P) :: (nat_lit 243, a11) :: (nat_lit 245, c6_245) :: (nat_lit 246, a11) :: (nat_lit 248, c6_248) :: (nat_lit 249, k249 P) :: (nat_lit 250, a11) :: (nat_lit 252, c6_252) :: (nat_lit 253, a11) :: (nat_lit 255, c6_255) :: (nat_lit 256, k256 P) :: (nat_lit 257, a11) :: (nat_lit 259, c6_259) :: (nat_lit 260, a11) :: (nat_lit 262, c6_262) :: (nat_lit 263, k263 P) :: (nat_lit 264, a11) :: (nat_lit 266, c6_266) :: (nat_lit 267, a11) :: (nat_lit 269, c6_269) :: (nat_lit 270, k270 P) :: (nat_lit 271, a11) :: (nat_lit 273, c6_273) :: (nat_lit 274, a11) :: (nat_lit 276, c6_276) :: (nat_lit 277, k277 P) :: (nat_lit 278, a11) :: (nat_lit 279, c6_279 P) :: (nat_lit 280, c14_280) :: (nat_lit 281, c6_281) :: (nat_lit 282, c6_282) :: (nat_lit 285, c7_285) :: (nat_lit 292, a11) :: (nat_lit 294, c7_294) :: (nat_lit 295, a11) :: (nat_lit 297, c7_297) :: (nat_lit 298, k298 P) :: (nat_lit 299, a11) :: (nat_lit 301, c7_301) :: (nat_lit 302, a11) :: (nat_lit 304, c7_304) :: (nat_lit 305, k305 P) :: (nat_lit 306, c7_306) :: (nat_lit 307, c7_307 P) :: (nat_lit 308, c12_308) :: (nat_lit 311, c8_311) :: (nat_lit 318, a11) :: (nat_lit 320, c8_320) :: (nat_lit 321, a11) :: (nat_lit 323, c8_323) :: (nat_lit 324, k324 P) :: (nat_lit 325, a11) :: (nat_lit 327, c8_327) :: (nat_lit 328, a11) :: (nat_lit 330, c8_330) :: (nat_lit 331, k331 P) :: (nat_lit 332, a11) :: (nat_lit 334, c8_334) :: (nat_lit 335, a11) :: (nat_lit 337, c8_337) :: (nat_lit 338, k338 P) :: (nat_lit 339, a11) :: (nat_lit 340, c8_340 P) :: (nat_lit 341, c8_341) :: (nat_lit 344, c8_311) :: (nat_lit 351, a11) :: (nat_lit 353, c9_353) :: (nat_lit 354, a11) :: (nat_lit 356, c9_356) :: (nat_lit 357, k357 P) :: (nat_lit 358, a11) :: (nat_lit 360, c9_360) :: (nat_lit 361, a11) :: (nat_lit 363, c9_363) :: (nat_lit 364, k364 P) :: (nat_lit 365, a11) :: (nat_lit 367, c9_367) :: (nat_lit 368, a11) :: (nat_lit 370, c9_370) :: (nat_lit 371, k371 P) :: (nat_lit 372, a11) :: (nat_lit 373, c9_373 P) :: (nat_lit 374, c9_374) :: (nat_lit 377, c7_285) :: (nat_lit 384, a11) :: (nat_lit 386, c10_386) :: (nat_lit 387, a11) :: (nat_lit 389, c10_389) :: (nat_lit 390, k390 P) :: (nat_lit 391, a11) :: (nat_lit 393, c10_393) :: (nat_lit 394, a11) :: (nat_lit 396, c10_396) :: (nat_lit 397, k397 P) :: (nat_lit 398, a11) :: (nat_lit 400, c10_400) :: (nat_lit 401, a11) :: (nat_lit 403, c10_403) :: (nat_lit 404, k404 P) :: (nat_lit 405, a11) :: (nat_lit 408, c10_408) :: (nat_lit 409, k409 P) :: (nat_lit 410, a11) :: (nat_lit 412, c10_412) :: (nat_lit 413, a11) :: (nat_lit 415, c10_415) :: (nat_lit 416, k416 P) :: (nat_lit 417, c10_417) :: (nat_lit 418, c10_418 P) :: (nat_lit 419, c10_419) :: (nat_lit 422, c8_311) :: (nat_lit 429, a11) :: (nat_lit 431, c11_431) :: (nat_lit 432, a11) :: (nat_lit 434, c11_434) :: (nat_lit 435, k435 P) :: (nat_lit 436, a11) :: (nat_lit 438, c11_438) :: (nat_lit 439, a11) :: (nat_lit 441, c11_441) :: (nat_lit 442, k442 P) :: (nat_lit 443, a11) :: (nat_lit 445, c11_445) :: (nat_lit 446, a11) :: (nat_lit 448, c11_448) :: (nat_lit 449, k449 P) :: (nat_lit 450, a11) :: (nat_lit 452, c11_452) :: (nat_lit 453, a11) :: (nat_lit 455, c11_455) :: (nat_lit 456, k456 P) :: (nat_lit 457, a11) :: (nat_lit 458, c11_458 P) :: (nat_lit 459, c11_459) :: (nat_lit 462, c8_311) :: (nat_lit 469, a11) :: (nat_lit 471, c12_471) :: (nat_lit 472, a11) :: (nat_lit 474, c12_474) :: (nat_lit 475, k475 P) :: (nat_lit 476, a11) :: (nat_lit 478, c12_478) :: (nat_lit 479, a11) :: (nat_lit 481, c12_481) :: (nat_lit 482, k482 P) :: (nat_lit 483, a11) :: (nat_lit 485, c12_485) :: (nat_lit 486, a11) :: (nat_lit 488, c12_488) :: (nat_lit 489, k489 P) :: (nat_lit 490, a11) :: (nat_lit 492, c12_492) :: (nat_lit 493, a11) :: (nat_lit 495, c12_495) :: (nat_lit 496, k496 P) :: (nat_lit 497, a11) :: (nat_lit 499, c12_499) :: (nat_lit 500, a11) :: (nat_lit 502, c12_502) :: (nat_lit 503, k503 P) :: (nat_lit 504, c12_504) :: (nat_lit 505, c12_505 P) :: (nat_lit 506, c12_506) :: (nat_lit 509, c7_285) :: (nat_lit 516, a11) :: (nat_lit 518, c13_518) :: (nat_lit 519, a11) :: (nat_lit 521, c13_521) :: (nat_lit 522, k522 P) :: (nat_lit 523, a11) :: (nat_lit 525, c13_525) :: (nat_lit 526, a11) :: (nat_lit 528, c13_528) :: (nat_lit 529, k529 P) :: (nat_lit 530, a11) :: (nat_lit 532, c13_532) :: (nat_lit 533, a11) :: (nat_lit 535, c13_535) :: (nat_lit 536, k536 P) :: (nat_lit 537, c13_537) :: (nat_lit 538, c13_538 P) :: (nat_lit 539, c13_539) :: (nat_lit 542, c7_285) :: (nat_lit 549, a11) :: (nat_lit 551, c14_551) :: (nat_lit 552, a11) :: (nat_lit 554, c14_554) :: (nat_lit 555, k555 P) :: (nat_lit 556, a11) :: (nat_lit 558, c14_558) :: (nat_lit 559, a11) :: (nat_lit 561, c14_561) :: (nat_lit 562, k562 P) :: (nat_lit 563, a11) :: (nat_lit 565, c14_565) :: (nat_lit 566, a11) :: (nat_lit 568, c14_568) :: (nat_lit 569, k569 P) :: (nat_lit 570, c14_570) :: (nat_lit 571, c14_571 P) :: (nat_lit 572, c14_572) :: (nat_lit 575, a11) :: (nat_lit 577, c14_577) :: (nat_lit 578, a11) :: (nat_lit 580, c14_580) :: (nat_lit 581, k581 P) :: (nat_lit 582, a11) :: (nat_lit 584, c14_584) :: (nat_lit 585, a11) :: (nat_lit 587, c14_587) :: (nat_lit 588, k588 P) :: (nat_lit 589, a11) :: (nat_lit 591, c14_591) :: (nat_lit 592, a11) :: (nat_lit 594, c14_594) :: (nat_lit 595, k595 P) :: (nat_lit 596, a11) :: (nat_lit 598, c14_598) :: (nat_lit 599, a11) :: (nat_lit 601, c14_601) :: (nat_lit 602, k602 P) :: (nat_lit 603, a11) :: (nat_lit 605, c14_605) :: (nat_lit 606, a11) :: (nat_lit 608, c14_608) :: (nat_lit 609, k609 P) :: (nat_lit 610, a11) :: (nat_lit 612, c14_612) :: (nat_lit 613, a11) :: (nat_lit 615, c14_615) :: (nat_lit 616, k616 P) :: (nat_lit 622, a11) :: (nat_lit 624, c15_624) :: (nat_lit 625, a11) :: (nat_lit 627, c15_627) :: (nat_lit 628, k628 P) :: (nat_lit 629, a11) :: (nat_lit 631, c15_631) :: (nat_lit 632, a11) :: (nat_lit 634, c15_634) :: (nat_lit 635, k635 P) :: (nat_lit 636, a11) :: (nat_lit 639, c15_639) :: (nat_lit 640, k640 P) :: (nat_lit 641, a11) :: (nat_lit 643, c15_643) :: (nat_lit 644, a11) :: (nat_lit 646, c15_646) :: (nat_lit 647, k647 P) :: (nat_lit 648, a11) :: (nat_lit 650, c15_650) :: (nat_lit 651, a11) :: (nat_lit 653, c15_653) :: (nat_lit 654, k654 P) :: (nat_lit 655, a11) :: (nat_lit 657, c15_657) :: (nat_lit 658, c15_658) :: (nat_lit 660, c15_660) :: (nat_lit 661, k661 P) :: []
noncomputable def Ka : List Addr := [2, 3, 15, 17, 18, 20, 21, 22, 29, 30, 31, 32, 35, 42, 43, 44, 47, 54, 56, 57, 59, 60, 61, 62, 63, 66, 73, 75, 76, 78, 79, 80, 81, 82, 85, 92, 94, 95, 97, 98, 99, 100, 101, 104, 111, 113, 114, 116, 117, 118, 119, 120, 130, 132, 133, 135, 136, 137, 139, 140, 142, 143, 144, 146, 147, 149, 150, 151, 153, 154, 156, 157, 158, 160, 161, 163, 164, 165, 166, 167, 168, 169, 172, 179, 181, 182, 184, 185, 186, 187, 188, 191, 198, 200, 201, 203, 204, 205, 206, 207, 210, 217, 219, 220, 222, 223, 224, 225, 226, 236, 238, 239, 241, 242, 243, 245, 246, 248, 249, 250, 252, 253, 255, 256, 257, 259, 260, 262, 263, 264, 266, 267, 269, 270, 271, 273, 274, 276, 277, 278, 279, 280, 281, 282, 285, 292, 294, 295, 297, 298, 299, 301, 302, 304, 305, 306, 307, 308, 311, 318, 320, 321, 323, 324, 325, 327, 328, 330, 331, 332, 334, 335, 337, 338, 339, 340, 341, 344, 351, 353, 354, 356, 357, 358, 360, 361, 363, 364, 365, 367, 368, 370, 371, 372, 373, 374, 377, 384, 386, 387, 389, 390, 391, 393, 394, 396, 397, 398, 400, 401, 403, 404, 405, 408, 409, 410, 412, 413, 415, 416, 417, 418, 419, 422, 429, 431, 432, 434, 435, 436, 438, 439, 441, 442, 443, 445, 446, 448, 449, 450, 452, 453, 455, 456, 457, 458, 459, 462, 469, 471, 472, 474, 475, 476, 478, 479, 481, 482, 483, 485, 486, 488, 489, 490, 492, 493, 495, 496, 497, 499, 500, 502, 503, 504, 505, 506, 509, 516, 518, 519, 521, 522, 523, 525, 526, 528, 529, 530, 532, 533, 535, 536, 537, 538, 539, 542, 549, 551, 552, 554, 555, 556, 558, 559, 561, 562, 563, 565, 566, 568, 569, 570, 571, 572, 575, 577, 578, 580, 581, 582, 584, 585, 587, 588, 589, 591, 592, 594, 595, 596, 598, 599, 601, 602, 603, 605, 606, 608, 609, 610, 612, 613, 615, 616, 622, 624, 625, 627, 628, 629, 631, 632, 634, 635, 636, 639, 640, 641, 643, 644, 646, 647, 648, 650, 651, 653, 654, 655, 657, 658, 660, 661]
theorem ke (P : Params) : Ka = (Kf P).map (·.1) := by kernel_rfl
noncomputable abbrev HK : Hook := kmHook Kf Ka ke [656]
noncomputable abbrev R : RowW := PySem.Challenge.rw_pactroom_k22_a_step_done.row.toRowW
noncomputable abbrev lo : List Str := []
noncomputable abbrev lvv : List (Str × WData) := []
noncomputable def qv : Program := { p0 with main := { p0.main with body := [T 0, T 2, T 3, T 4, T 5, T 6, T 7, T 9, T 10, T 11, T 12, T 14, T 15, T 16, T 17, T 18, T 19, T 20, T 21, T 22, T 24, T 25, T 26, T 27, T 28, T 29, T 30, T 31, T 32, T 33, T 34, T 35, T 36] } }
noncomputable abbrev Xt : Shared → Bool := fun s => xlAt qv lvv s && recOk (RowW.records R) s
theorem size_l (w : World) : ((boot_heap w.params).isNs mainGlobals && (A [] : Array GenState).size == 0, (boot_heap w.params).objs.size, (boot_heap w.params).nsMap mainGlobals "__annotations__") = (true, 11, (sr 6)) := by kernel_rfl
theorem look1 (w : World) (os : OsState) : (staticsOk (importedModules p0.main.body) (boot_heap w.params) (H1 w.params) && namesBound p0 (H1 w.params) && gensDone ⟨H1 w.params, Array.mk [], (@Drawn.mk 0 0 0 0), 1003, os⟩ && laidKept (boot_heap w.params) (H1 w.params)) = true := by kernel_rfl
theorem look2 (w : World) (os : OsState) : openSeen qv lo (importedModules p0.main.body) Xt true ⟨H1 w.params, Array.mk [], (@Drawn.mk 0 0 0 0), 1003, os⟩ = openGood qv lo := by kernel_rfl
theorem look3 (w : World) (os : OsState) : Hook.obs HK ⟨H1 w.params, Array.mk [], (@Drawn.mk 0 0 0 0), 1003, os⟩ = Hook.val HK w := by kernel_rfl
theorem left : LeftO p0 qv lo Xt (Hook.obs HK) (Hook.val HK) 12024 := LeftO.of_pieces (boot_open (by kernel_rfl) (by kernel_rfl) (fun s => by kernel_rfl)) size_l run_l (by decide) fun w => funext fun os => looks_pair (look1 w os) (looks_pair (look2 w os) (look3 w os))
end
end Q
end
set_option maxHeartbeats 4000000
namespace K22
open PySem L2 Lo St
def kmk (a b c : Addr) : Kd → Addr
  | .read => a
  | .mean => b
  | .change => c
def wmk (a b c d e f g : Addr) : Wd → Addr
  | .take => a
  | .mean => b
  | .sum => c
  | .give => d
  | .add => e
  | .plus => f
  | .need => g
abbrev bmV : List Value := [.type "ValueError", .type "Exception", .type "BaseException", .type "object"]
def fdOf {K : PySem.W.Frag} {x qual : Str} {st : Stmt} {f : Addr} {fd : FuncData} (_ : Fun K x qual st f fd) : FuncData := fd
theorem all_mk {l : PySem.W.OpenLaw} {w : World} {K : PySem.W.Frag} {h : Heap} {mg : Str → Option Value} {fa CR fkR CM fkM CC fkC fi ft WA fxiY fxlA fxdA WB fxlB fxdB WD fxiD fxlD fxdD WE fxlE fxdE WF fxiF fxlF fxdF WG fxiG fxlZ fxdG WN fxiN fxdN CY CE CN C1 C2 C3 C4 fA2 fW2 fX2 fN2 fE2 fS2 fM2 fR2 fD2 fK2 fF2 fZ cc Pt : Addr} (X : K.In h) (G : h.Ns mainGlobals mg) (hfa : mg "law" = some (.ref fa))
    {odkR ankR odkM ankM odkC ankC odi ani odt ant odxiY anxiY odxlA anxlA odxdA anxdA odxlB anxlB odxdB anxdB odxiD anxiD odxlD anxlD odxdD anxdD odxlE anxlE odxdE anxdE odxiF anxiF odxlF anxlF odxdF anxdF odxiG anxiG odxlZ anxlZ odxdG anxdG odxiN anxiN odxdN anxdN odA2 anA2 odW2 anW2 odX2 anX2 odN2 anN2 odE2 anE2 odS2 anS2 odM2 anM2 odR2 anR2 odD2 anD2 odK2 anK2 odF2 anF2 odZ anZ : Option Addr} {slkR slkM slkC sli slt slxiY slxlA slxdA slxlB slxdB slxiD slxlD slxdD slxlE slxdE slxiF slxlF slxdF slxiG slxlZ slxdG slxiN slxdN slA2 slW2 slX2 slN2 slE2 slS2 slM2 slR2 slD2 slK2 slF2 slZ : Array (Option Value)} {ockR kVkR dckR pmkR cdkR ctkR ockM kVkM dckM pmkM cdkM ctkM ockC kVkC dckC pmkC cdkC ctkC oci kVi dci pmi cdi cti oct kVt dct pmt cdt ctt ocxiY kVxiY dcxiY pmxiY cdxiY ctxiY ocxlA kVxlA dcxlA pmxlA cdxlA ctxlA ocxdA kVxdA dcxdA pmxdA cdxdA ctxdA ocxlB kVxlB dcxlB pmxlB cdxlB ctxlB ocxdB kVxdB dcxdB pmxdB cdxdB ctxdB ocxiD kVxiD dcxiD pmxiD cdxiD ctxiD ocxlD kVxlD dcxlD pmxlD cdxlD ctxlD ocxdD kVxdD dcxdD pmxdD cdxdD ctxdD ocxlE kVxlE dcxlE pmxlE cdxlE ctxlE ocxdE kVxdE dcxdE pmxdE cdxdE ctxdE ocxiF kVxiF dcxiF pmxiF cdxiF ctxiF ocxlF kVxlF dcxlF pmxlF cdxlF ctxlF ocxdF kVxdF dcxdF pmxdF cdxdF ctxdF ocxiG kVxiG dcxiG pmxiG cdxiG ctxiG ocxlZ kVxlZ dcxlZ pmxlZ cdxlZ ctxlZ ocxdG kVxdG dcxdG pmxdG cdxdG ctxdG ocxiN kVxiN dcxiN pmxiN cdxiN ctxiN ocxdN kVxdN dcxdN pmxdN cdxdN ctxdN ocA2 kVA2 dcA2 pmA2 cdA2 ctA2 ocW2 kVW2 dcW2 pmW2 cdW2 ctW2 ocX2 kVX2 dcX2 pmX2 cdX2 ctX2 ocN2 kVN2 dcN2 pmN2 cdN2 ctN2 ocE2 kVE2 dcE2 pmE2 cdE2 ctE2 ocS2 kVS2 dcS2 pmS2 cdS2 ctS2 ocM2 kVM2 dcM2 pmM2 cdM2 ctM2 ocR2 kVR2 dcR2 pmR2 cdR2 ctR2 ocD2 kVD2 dcD2 pmD2 cdD2 ctD2 ocK2 kVK2 dcK2 pmK2 cdK2 ctK2 ocF2 kVF2 dcF2 pmF2 cdF2 ctF2 ocZ kVZ dcZ pmZ cdZ ctZ : Value} {odC : Option Addr} {slC : Array (Option Value)} {vsC : Array Value}
    (nR : PySem.W.nsIn K mainGlobals "Read" = some (some (.ref CR)))
    (pgR : PySem.W.plainGet K CR Str.empty = true)
    (hdR : PySem.W.hasDictIn K CR = true)
    (poR : PySem.W.plainOver K CR = true)
    (saR : PySem.W.findIn K (.ref CR) "__setattr__" = some (some (.builtin "object.__setattr__")))
    (mkR : PySem.W.makesIn K CR = true)
    (kcR : PySem.W.keepIn K (.ref CR) = true)
    (nFR : PySem.W.findIn K (.ref CR) "first" = some none)
    (nLR : PySem.W.findIn K (.ref CR) "last" = some none)
    (akR : PySem.W.findIn K (.ref CR) "kind" = some (some (.ref fkR)))
    (jkR : PySem.W.isFn K (.ref fkR) = true)
    (lkR : K.lookup fkR = some ⟨ockR, odkR, .func (PySem.W.fnOf "kind" "Read.kind" (defArgs m_Read_kind) (defBody m_Read_kind) (defScope m_Read_kind) .none kVkR dckR pmkR ankR cdkR ctkR), slkR⟩)
    (ckR : PySem.W.codeIn K cdkR "Read.kind" = true)
    (ekR : PySem.W.keepIn K (.ref fkR) = true)
    (nM : PySem.W.nsIn K mainGlobals "Mean" = some (some (.ref CM)))
    (pgM : PySem.W.plainGet K CM Str.empty = true)
    (hdM : PySem.W.hasDictIn K CM = true)
    (poM : PySem.W.plainOver K CM = true)
    (saM : PySem.W.findIn K (.ref CM) "__setattr__" = some (some (.builtin "object.__setattr__")))
    (mkM : PySem.W.makesIn K CM = true)
    (kcM : PySem.W.keepIn K (.ref CM) = true)
    (nFM : PySem.W.findIn K (.ref CM) "first" = some none)
    (nLM : PySem.W.findIn K (.ref CM) "last" = some none)
    (akM : PySem.W.findIn K (.ref CM) "kind" = some (some (.ref fkM)))
    (jkM : PySem.W.isFn K (.ref fkM) = true)
    (lkM : K.lookup fkM = some ⟨ockM, odkM, .func (PySem.W.fnOf "kind" "Mean.kind" (defArgs m_Mean_kind) (defBody m_Mean_kind) (defScope m_Mean_kind) .none kVkM dckM pmkM ankM cdkM ctkM), slkM⟩)
    (ckM : PySem.W.codeIn K cdkM "Mean.kind" = true)
    (ekM : PySem.W.keepIn K (.ref fkM) = true)
    (nC : PySem.W.nsIn K mainGlobals "Change" = some (some (.ref CC)))
    (pgC : PySem.W.plainGet K CC Str.empty = true)
    (hdC : PySem.W.hasDictIn K CC = true)
    (poC : PySem.W.plainOver K CC = true)
    (saC : PySem.W.findIn K (.ref CC) "__setattr__" = some (some (.builtin "object.__setattr__")))
    (mkC : PySem.W.makesIn K CC = true)
    (kcC : PySem.W.keepIn K (.ref CC) = true)
    (nFC : PySem.W.findIn K (.ref CC) "first" = some none)
    (nLC : PySem.W.findIn K (.ref CC) "last" = some none)
    (akC : PySem.W.findIn K (.ref CC) "kind" = some (some (.ref fkC)))
    (jkC : PySem.W.isFn K (.ref fkC) = true)
    (lkC : K.lookup fkC = some ⟨ockC, odkC, .func (PySem.W.fnOf "kind" "Change.kind" (defArgs m_Change_kind) (defBody m_Change_kind) (defScope m_Change_kind) .none kVkC dckC pmkC ankC cdkC ctkC), slkC⟩)
    (ckC : PySem.W.codeIn K cdkC "Change.kind" = true)
    (ekC : PySem.W.keepIn K (.ref fkC) = true)
    (aiR : PySem.W.findIn K (.ref CR) "__init__" = some (some (.ref fi)))
    (aiM : PySem.W.findIn K (.ref CM) "__init__" = some (some (.ref fi)))
    (aiC : PySem.W.findIn K (.ref CC) "__init__" = some (some (.ref fi)))
    (ji : PySem.W.isFn K (.ref fi) = true)
    (li : K.lookup fi = some ⟨oci, odi, .func (PySem.W.fnOf "__init__" "Lock.__init__" (defArgs m_Lock_init) (defBody m_Lock_init) (defScope m_Lock_init) .none kVi dci pmi ani cdi cti), sli⟩)
    (ci : PySem.W.codeIn K cdi "Lock.__init__" = true)
    (ei : PySem.W.keepIn K (.ref fi) = true)
    (atR : PySem.W.findIn K (.ref CR) "told" = some (some (.ref ft)))
    (atM : PySem.W.findIn K (.ref CM) "told" = some (some (.ref ft)))
    (atC : PySem.W.findIn K (.ref CC) "told" = some (some (.ref ft)))
    (jt : PySem.W.isFn K (.ref ft) = true)
    (lt : K.lookup ft = some ⟨oct, odt, .func (PySem.W.fnOf "told" "Lock.told" (defArgs m_Lock_told) (defBody m_Lock_told) (defScope m_Lock_told) .none kVt dct pmt ant cdt ctt), slt⟩)
    (ct : PySem.W.codeIn K cdt "Lock.told" = true)
    (et : PySem.W.keepIn K (.ref ft) = true)
    (nwA : PySem.W.nsIn K mainGlobals "TakeStep" = some (some (.ref WA)))
    (pgwA : PySem.W.plainGet K WA Str.empty = true)
    (hdwA : PySem.W.hasDictIn K WA = true)
    (powA : PySem.W.plainOver K WA = true)
    (sawA : PySem.W.findIn K (.ref WA) "__setattr__" = some (some (.builtin "object.__setattr__")))
    (mkwA : PySem.W.makesIn K WA = true)
    (kcwA : PySem.W.keepIn K (.ref WA) = true)
    (nWwA : PySem.W.findIn K (.ref WA) "where" = some none)
    (nCwA : PySem.W.findIn K (.ref WA) "cell" = some none)
    (nLwA : PySem.W.findIn K (.ref WA) "low" = some none)
    (nHwA : PySem.W.findIn K (.ref WA) "high" = some none)
    (nAwA : PySem.W.findIn K (.ref WA) "amount" = some none)
    (uxiYA : PySem.W.findIn K (.ref WA) "__init__" = some (some (.ref fxiY)))
    (jxiY : PySem.W.isFn K (.ref fxiY) = true)
    (lxiY : K.lookup fxiY = some ⟨ocxiY, odxiY, .func (PySem.W.fnOf "__init__" "CellStep.__init__" (defArgs m_CellStep_init) (defBody m_CellStep_init) (defScope m_CellStep_init) .none kVxiY dcxiY pmxiY anxiY cdxiY ctxiY), slxiY⟩)
    (cxiY : PySem.W.codeIn K cdxiY "CellStep.__init__" = true)
    (exiY : PySem.W.keepIn K (.ref fxiY) = true)
    (uxlAA : PySem.W.findIn K (.ref WA) "lock" = some (some (.ref fxlA)))
    (jxlA : PySem.W.isFn K (.ref fxlA) = true)
    (lxlA : K.lookup fxlA = some ⟨ocxlA, odxlA, .func (PySem.W.fnOf "lock" "TakeStep.lock" (defArgs m_TakeStep_lock) (defBody m_TakeStep_lock) (defScope m_TakeStep_lock) .none kVxlA dcxlA pmxlA anxlA cdxlA ctxlA), slxlA⟩)
    (cxlA : PySem.W.codeIn K cdxlA "TakeStep.lock" = true)
    (exlA : PySem.W.keepIn K (.ref fxlA) = true)
    (uxdAA : PySem.W.findIn K (.ref WA) "step_done" = some (some (.ref fxdA)))
    (jxdA : PySem.W.isFn K (.ref fxdA) = true)
    (lxdA : K.lookup fxdA = some ⟨ocxdA, odxdA, .func (PySem.W.fnOf "step_done" "TakeStep.step_done" (defArgs m_TakeStep_step_done) (defBody m_TakeStep_step_done) (defScope m_TakeStep_step_done) .none kVxdA dcxdA pmxdA anxdA cdxdA ctxdA), slxdA⟩)
    (cxdA : PySem.W.codeIn K cdxdA "TakeStep.step_done" = true)
    (exdA : PySem.W.keepIn K (.ref fxdA) = true)
    (nwB : PySem.W.nsIn K mainGlobals "MeanStep" = some (some (.ref WB)))
    (pgwB : PySem.W.plainGet K WB Str.empty = true)
    (hdwB : PySem.W.hasDictIn K WB = true)
    (powB : PySem.W.plainOver K WB = true)
    (sawB : PySem.W.findIn K (.ref WB) "__setattr__" = some (some (.builtin "object.__setattr__")))
    (mkwB : PySem.W.makesIn K WB = true)
    (kcwB : PySem.W.keepIn K (.ref WB) = true)
    (nWwB : PySem.W.findIn K (.ref WB) "where" = some none)
    (nCwB : PySem.W.findIn K (.ref WB) "cell" = some none)
    (nLwB : PySem.W.findIn K (.ref WB) "low" = some none)
    (nHwB : PySem.W.findIn K (.ref WB) "high" = some none)
    (nAwB : PySem.W.findIn K (.ref WB) "amount" = some none)
    (uxiYB : PySem.W.findIn K (.ref WB) "__init__" = some (some (.ref fxiY)))
    (uxlBB : PySem.W.findIn K (.ref WB) "lock" = some (some (.ref fxlB)))
    (jxlB : PySem.W.isFn K (.ref fxlB) = true)
    (lxlB : K.lookup fxlB = some ⟨ocxlB, odxlB, .func (PySem.W.fnOf "lock" "MeanStep.lock" (defArgs m_MeanStep_lock) (defBody m_MeanStep_lock) (defScope m_MeanStep_lock) .none kVxlB dcxlB pmxlB anxlB cdxlB ctxlB), slxlB⟩)
    (cxlB : PySem.W.codeIn K cdxlB "MeanStep.lock" = true)
    (exlB : PySem.W.keepIn K (.ref fxlB) = true)
    (uxdBB : PySem.W.findIn K (.ref WB) "step_done" = some (some (.ref fxdB)))
    (jxdB : PySem.W.isFn K (.ref fxdB) = true)
    (lxdB : K.lookup fxdB = some ⟨ocxdB, odxdB, .func (PySem.W.fnOf "step_done" "MeanStep.step_done" (defArgs m_MeanStep_step_done) (defBody m_MeanStep_step_done) (defScope m_MeanStep_step_done) .none kVxdB dcxdB pmxdB anxdB cdxdB ctxdB), slxdB⟩)
    (cxdB : PySem.W.codeIn K cdxdB "MeanStep.step_done" = true)
    (exdB : PySem.W.keepIn K (.ref fxdB) = true)
    (nwD : PySem.W.nsIn K mainGlobals "SumStep" = some (some (.ref WD)))
    (pgwD : PySem.W.plainGet K WD Str.empty = true)
    (hdwD : PySem.W.hasDictIn K WD = true)
    (powD : PySem.W.plainOver K WD = true)
    (sawD : PySem.W.findIn K (.ref WD) "__setattr__" = some (some (.builtin "object.__setattr__")))
    (mkwD : PySem.W.makesIn K WD = true)
    (kcwD : PySem.W.keepIn K (.ref WD) = true)
    (nWwD : PySem.W.findIn K (.ref WD) "where" = some none)
    (nCwD : PySem.W.findIn K (.ref WD) "cell" = some none)
    (nLwD : PySem.W.findIn K (.ref WD) "low" = some none)
    (nHwD : PySem.W.findIn K (.ref WD) "high" = some none)
    (nAwD : PySem.W.findIn K (.ref WD) "amount" = some none)
    (uxiDD : PySem.W.findIn K (.ref WD) "__init__" = some (some (.ref fxiD)))
    (jxiD : PySem.W.isFn K (.ref fxiD) = true)
    (lxiD : K.lookup fxiD = some ⟨ocxiD, odxiD, .func (PySem.W.fnOf "__init__" "SumStep.__init__" (defArgs m_SumStep_init) (defBody m_SumStep_init) (defScope m_SumStep_init) .none kVxiD dcxiD pmxiD anxiD cdxiD ctxiD), slxiD⟩)
    (cxiD : PySem.W.codeIn K cdxiD "SumStep.__init__" = true)
    (exiD : PySem.W.keepIn K (.ref fxiD) = true)
    (uxlDD : PySem.W.findIn K (.ref WD) "lock" = some (some (.ref fxlD)))
    (jxlD : PySem.W.isFn K (.ref fxlD) = true)
    (lxlD : K.lookup fxlD = some ⟨ocxlD, odxlD, .func (PySem.W.fnOf "lock" "SumStep.lock" (defArgs m_SumStep_lock) (defBody m_SumStep_lock) (defScope m_SumStep_lock) .none kVxlD dcxlD pmxlD anxlD cdxlD ctxlD), slxlD⟩)
    (cxlD : PySem.W.codeIn K cdxlD "SumStep.lock" = true)
    (exlD : PySem.W.keepIn K (.ref fxlD) = true)
    (uxdDD : PySem.W.findIn K (.ref WD) "step_done" = some (some (.ref fxdD)))
    (jxdD : PySem.W.isFn K (.ref fxdD) = true)
    (lxdD : K.lookup fxdD = some ⟨ocxdD, odxdD, .func (PySem.W.fnOf "step_done" "SumStep.step_done" (defArgs m_SumStep_step_done) (defBody m_SumStep_step_done) (defScope m_SumStep_step_done) .none kVxdD dcxdD pmxdD anxdD cdxdD ctxdD), slxdD⟩)
    (cxdD : PySem.W.codeIn K cdxdD "SumStep.step_done" = true)
    (exdD : PySem.W.keepIn K (.ref fxdD) = true)
    (nwE : PySem.W.nsIn K mainGlobals "GiveStep" = some (some (.ref WE)))
    (pgwE : PySem.W.plainGet K WE Str.empty = true)
    (hdwE : PySem.W.hasDictIn K WE = true)
    (powE : PySem.W.plainOver K WE = true)
    (sawE : PySem.W.findIn K (.ref WE) "__setattr__" = some (some (.builtin "object.__setattr__")))
    (mkwE : PySem.W.makesIn K WE = true)
    (kcwE : PySem.W.keepIn K (.ref WE) = true)
    (nWwE : PySem.W.findIn K (.ref WE) "where" = some none)
    (nCwE : PySem.W.findIn K (.ref WE) "cell" = some none)
    (nLwE : PySem.W.findIn K (.ref WE) "low" = some none)
    (nHwE : PySem.W.findIn K (.ref WE) "high" = some none)
    (nAwE : PySem.W.findIn K (.ref WE) "amount" = some none)
    (uxiYE : PySem.W.findIn K (.ref WE) "__init__" = some (some (.ref fxiY)))
    (uxlEE : PySem.W.findIn K (.ref WE) "lock" = some (some (.ref fxlE)))
    (jxlE : PySem.W.isFn K (.ref fxlE) = true)
    (lxlE : K.lookup fxlE = some ⟨ocxlE, odxlE, .func (PySem.W.fnOf "lock" "GiveStep.lock" (defArgs m_GiveStep_lock) (defBody m_GiveStep_lock) (defScope m_GiveStep_lock) .none kVxlE dcxlE pmxlE anxlE cdxlE ctxlE), slxlE⟩)
    (cxlE : PySem.W.codeIn K cdxlE "GiveStep.lock" = true)
    (exlE : PySem.W.keepIn K (.ref fxlE) = true)
    (uxdEE : PySem.W.findIn K (.ref WE) "step_done" = some (some (.ref fxdE)))
    (jxdE : PySem.W.isFn K (.ref fxdE) = true)
    (lxdE : K.lookup fxdE = some ⟨ocxdE, odxdE, .func (PySem.W.fnOf "step_done" "GiveStep.step_done" (defArgs m_GiveStep_step_done) (defBody m_GiveStep_step_done) (defScope m_GiveStep_step_done) .none kVxdE dcxdE pmxdE anxdE cdxdE ctxdE), slxdE⟩)
    (cxdE : PySem.W.codeIn K cdxdE "GiveStep.step_done" = true)
    (exdE : PySem.W.keepIn K (.ref fxdE) = true)
    (nwF : PySem.W.nsIn K mainGlobals "AddStep" = some (some (.ref WF)))
    (pgwF : PySem.W.plainGet K WF Str.empty = true)
    (hdwF : PySem.W.hasDictIn K WF = true)
    (powF : PySem.W.plainOver K WF = true)
    (sawF : PySem.W.findIn K (.ref WF) "__setattr__" = some (some (.builtin "object.__setattr__")))
    (mkwF : PySem.W.makesIn K WF = true)
    (kcwF : PySem.W.keepIn K (.ref WF) = true)
    (nWwF : PySem.W.findIn K (.ref WF) "where" = some none)
    (nCwF : PySem.W.findIn K (.ref WF) "cell" = some none)
    (nLwF : PySem.W.findIn K (.ref WF) "low" = some none)
    (nHwF : PySem.W.findIn K (.ref WF) "high" = some none)
    (nAwF : PySem.W.findIn K (.ref WF) "amount" = some none)
    (uxiFF : PySem.W.findIn K (.ref WF) "__init__" = some (some (.ref fxiF)))
    (jxiF : PySem.W.isFn K (.ref fxiF) = true)
    (lxiF : K.lookup fxiF = some ⟨ocxiF, odxiF, .func (PySem.W.fnOf "__init__" "AddStep.__init__" (defArgs m_AddStep_init) (defBody m_AddStep_init) (defScope m_AddStep_init) .none kVxiF dcxiF pmxiF anxiF cdxiF ctxiF), slxiF⟩)
    (cxiF : PySem.W.codeIn K cdxiF "AddStep.__init__" = true)
    (exiF : PySem.W.keepIn K (.ref fxiF) = true)
    (uxlFF : PySem.W.findIn K (.ref WF) "lock" = some (some (.ref fxlF)))
    (jxlF : PySem.W.isFn K (.ref fxlF) = true)
    (lxlF : K.lookup fxlF = some ⟨ocxlF, odxlF, .func (PySem.W.fnOf "lock" "AddStep.lock" (defArgs m_AddStep_lock) (defBody m_AddStep_lock) (defScope m_AddStep_lock) .none kVxlF dcxlF pmxlF anxlF cdxlF ctxlF), slxlF⟩)
    (cxlF : PySem.W.codeIn K cdxlF "AddStep.lock" = true)
    (exlF : PySem.W.keepIn K (.ref fxlF) = true)
    (uxdFF : PySem.W.findIn K (.ref WF) "step_done" = some (some (.ref fxdF)))
    (jxdF : PySem.W.isFn K (.ref fxdF) = true)
    (lxdF : K.lookup fxdF = some ⟨ocxdF, odxdF, .func (PySem.W.fnOf "step_done" "AddStep.step_done" (defArgs m_AddStep_step_done) (defBody m_AddStep_step_done) (defScope m_AddStep_step_done) .none kVxdF dcxdF pmxdF anxdF cdxdF ctxdF), slxdF⟩)
    (cxdF : PySem.W.codeIn K cdxdF "AddStep.step_done" = true)
    (exdF : PySem.W.keepIn K (.ref fxdF) = true)
    (nwG : PySem.W.nsIn K mainGlobals "PlusStep" = some (some (.ref WG)))
    (pgwG : PySem.W.plainGet K WG Str.empty = true)
    (hdwG : PySem.W.hasDictIn K WG = true)
    (powG : PySem.W.plainOver K WG = true)
    (sawG : PySem.W.findIn K (.ref WG) "__setattr__" = some (some (.builtin "object.__setattr__")))
    (mkwG : PySem.W.makesIn K WG = true)
    (kcwG : PySem.W.keepIn K (.ref WG) = true)
    (nWwG : PySem.W.findIn K (.ref WG) "where" = some none)
    (nCwG : PySem.W.findIn K (.ref WG) "cell" = some none)
    (nLwG : PySem.W.findIn K (.ref WG) "low" = some none)
    (nHwG : PySem.W.findIn K (.ref WG) "high" = some none)
    (nAwG : PySem.W.findIn K (.ref WG) "amount" = some none)
    (uxiGG : PySem.W.findIn K (.ref WG) "__init__" = some (some (.ref fxiG)))
    (jxiG : PySem.W.isFn K (.ref fxiG) = true)
    (lxiG : K.lookup fxiG = some ⟨ocxiG, odxiG, .func (PySem.W.fnOf "__init__" "PlusStep.__init__" (defArgs m_PlusStep_init) (defBody m_PlusStep_init) (defScope m_PlusStep_init) .none kVxiG dcxiG pmxiG anxiG cdxiG ctxiG), slxiG⟩)
    (cxiG : PySem.W.codeIn K cdxiG "PlusStep.__init__" = true)
    (exiG : PySem.W.keepIn K (.ref fxiG) = true)
    (uxlZG : PySem.W.findIn K (.ref WG) "lock" = some (some (.ref fxlZ)))
    (jxlZ : PySem.W.isFn K (.ref fxlZ) = true)
    (lxlZ : K.lookup fxlZ = some ⟨ocxlZ, odxlZ, .func (PySem.W.fnOf "lock" "Step.lock" (defArgs m_Step_lock) (defBody m_Step_lock) (defScope m_Step_lock) .none kVxlZ dcxlZ pmxlZ anxlZ cdxlZ ctxlZ), slxlZ⟩)
    (cxlZ : PySem.W.codeIn K cdxlZ "Step.lock" = true)
    (exlZ : PySem.W.keepIn K (.ref fxlZ) = true)
    (uxdGG : PySem.W.findIn K (.ref WG) "step_done" = some (some (.ref fxdG)))
    (jxdG : PySem.W.isFn K (.ref fxdG) = true)
    (lxdG : K.lookup fxdG = some ⟨ocxdG, odxdG, .func (PySem.W.fnOf "step_done" "PlusStep.step_done" (defArgs m_PlusStep_step_done) (defBody m_PlusStep_step_done) (defScope m_PlusStep_step_done) .none kVxdG dcxdG pmxdG anxdG cdxdG ctxdG), slxdG⟩)
    (cxdG : PySem.W.codeIn K cdxdG "PlusStep.step_done" = true)
    (exdG : PySem.W.keepIn K (.ref fxdG) = true)
    (nwN : PySem.W.nsIn K mainGlobals "NeedStep" = some (some (.ref WN)))
    (pgwN : PySem.W.plainGet K WN Str.empty = true)
    (hdwN : PySem.W.hasDictIn K WN = true)
    (powN : PySem.W.plainOver K WN = true)
    (sawN : PySem.W.findIn K (.ref WN) "__setattr__" = some (some (.builtin "object.__setattr__")))
    (mkwN : PySem.W.makesIn K WN = true)
    (kcwN : PySem.W.keepIn K (.ref WN) = true)
    (nWwN : PySem.W.findIn K (.ref WN) "where" = some none)
    (nCwN : PySem.W.findIn K (.ref WN) "cell" = some none)
    (nLwN : PySem.W.findIn K (.ref WN) "low" = some none)
    (nHwN : PySem.W.findIn K (.ref WN) "high" = some none)
    (nAwN : PySem.W.findIn K (.ref WN) "amount" = some none)
    (uxiNN : PySem.W.findIn K (.ref WN) "__init__" = some (some (.ref fxiN)))
    (jxiN : PySem.W.isFn K (.ref fxiN) = true)
    (lxiN : K.lookup fxiN = some ⟨ocxiN, odxiN, .func (PySem.W.fnOf "__init__" "NeedStep.__init__" (defArgs m_NeedStep_init) (defBody m_NeedStep_init) (defScope m_NeedStep_init) .none kVxiN dcxiN pmxiN anxiN cdxiN ctxiN), slxiN⟩)
    (cxiN : PySem.W.codeIn K cdxiN "NeedStep.__init__" = true)
    (exiN : PySem.W.keepIn K (.ref fxiN) = true)
    (uxlZN : PySem.W.findIn K (.ref WN) "lock" = some (some (.ref fxlZ)))
    (uxdNN : PySem.W.findIn K (.ref WN) "step_done" = some (some (.ref fxdN)))
    (jxdN : PySem.W.isFn K (.ref fxdN) = true)
    (lxdN : K.lookup fxdN = some ⟨ocxdN, odxdN, .func (PySem.W.fnOf "step_done" "NeedStep.step_done" (defArgs m_NeedStep_step_done) (defBody m_NeedStep_step_done) (defScope m_NeedStep_step_done) .none kVxdN dcxdN pmxdN anxdN cdxdN ctxdN), slxdN⟩)
    (cxdN : PySem.W.codeIn K cdxdN "NeedStep.step_done" = true)
    (exdN : PySem.W.keepIn K (.ref fxdN) = true)
    (nCY : PySem.W.nsIn K mainGlobals "CellStep" = some (some (.ref CY)))
    (gaY : PySem.W.specialIn K (.ref CY) "__getattribute__" = some (some (.builtin "type.__getattribute__")))
    (rdY : PySem.W.readsIn K CY (.type "type") = true)
    (fcY : PySem.W.findCls K (.ref CY) (.type "type") "__init__" = some (.val (.ref fxiY)))
    (hiY : PySem.W.handedIn (.ref fxiY) = true)
    (hn : PySem.W.specialIn K (.builtin "object.__class__") "__get__" = some (some (.builtin "getset_descriptor.__get__")))
    (htk : PySem.W.takesIn K (.builtin "object.__class__") = some true)
    (neE : PySem.W.nsIn K mainGlobals "PactError" = some (some (.ref CE)))
    (xeE : PySem.W.excIn K CE bmV "ValueError.__new__" = true)
    (neQ : PySem.W.nsIn K mainGlobals "NoNeed" = some (some (.ref CN)))
    (xeQ : PySem.W.excIn K CN bmV "ValueError.__new__" = true)
    (sub : PySem.W.mroIn K CN (.ref CE) = some true)
    (xg : PySem.W.findIn K (.ref CN) "__getattribute__" = some (some (.builtin "BaseException.__getattribute__")))
    (xh : PySem.W.findIn K (.ref CN) "__getattr__" = some none)
    (xk : PySem.W.findIn K (.ref CN) "__class__" = some (some (.builtin "object.__class__")))
    (xm : PySem.W.mroIn K CN (.type "object") = some true)
    (xb : PySem.W.mroIn K CN (.type "BaseException") = some true)
    (m_1 : PySem.W.nsIn K mainGlobals "NoFit" = some (some (.ref C1)))
    (m_2 : PySem.W.nsIn K mainGlobals "NoPlace" = some (some (.ref C2)))
    (m_3 : PySem.W.nsIn K mainGlobals "NoText" = some (some (.ref C3)))
    (m_4 : PySem.W.nsIn K mainGlobals "NoWayBack" = some (some (.ref C4)))
    (iN : PySem.W.kitOne K (.ref CN) (.ref CN) = some true)
    (iT : PySem.W.kitAny K (.ref CN) [.ref C1, .ref C2, .ref C3, .ref C4] = some false)
    (aA2 : PySem.W.nsIn K mainGlobals "_law_cell" = some (some (.ref fA2)))
    (lA2 : K.lookup fA2 = some ⟨ocA2, odA2, .func (PySem.W.fnOf "_law_cell" "_law_cell" (defArgs s__law_cell) (defBody s__law_cell) (defScope s__law_cell) .none kVA2 dcA2 pmA2 anA2 cdA2 ctA2), slA2⟩)
    (cA2 : PySem.W.codeIn K cdA2 "_law_cell" = true)
    (eA2 : PySem.W.keepIn K (.ref fA2) = true)
    (aW2 : PySem.W.nsIn K mainGlobals "_law_whole" = some (some (.ref fW2)))
    (lW2 : K.lookup fW2 = some ⟨ocW2, odW2, .func (PySem.W.fnOf "_law_whole" "_law_whole" (defArgs s__law_whole) (defBody s__law_whole) (defScope s__law_whole) .none kVW2 dcW2 pmW2 anW2 cdW2 ctW2), slW2⟩)
    (cW2 : PySem.W.codeIn K cdW2 "_law_whole" = true)
    (eW2 : PySem.W.keepIn K (.ref fW2) = true)
    (aX2 : PySem.W.nsIn K mainGlobals "_law_mixed" = some (some (.ref fX2)))
    (lX2 : K.lookup fX2 = some ⟨ocX2, odX2, .func (PySem.W.fnOf "_law_mixed" "_law_mixed" (defArgs s__law_mixed) (defBody s__law_mixed) (defScope s__law_mixed) .none kVX2 dcX2 pmX2 anX2 cdX2 ctX2), slX2⟩)
    (cX2 : PySem.W.codeIn K cdX2 "_law_mixed" = true)
    (eX2 : PySem.W.keepIn K (.ref fX2) = true)
    (aN2 : PySem.W.nsIn K mainGlobals "_law_number" = some (some (.ref fN2)))
    (lN2 : K.lookup fN2 = some ⟨ocN2, odN2, .func (PySem.W.fnOf "_law_number" "_law_number" (defArgs s__law_number) (defBody s__law_number) (defScope s__law_number) .none kVN2 dcN2 pmN2 anN2 cdN2 ctN2), slN2⟩)
    (cN2 : PySem.W.codeIn K cdN2 "_law_number" = true)
    (eN2 : PySem.W.keepIn K (.ref fN2) = true)
    (aE2 : PySem.W.nsIn K mainGlobals "_law_either" = some (some (.ref fE2)))
    (lE2 : K.lookup fE2 = some ⟨ocE2, odE2, .func (PySem.W.fnOf "_law_either" "_law_either" (defArgs s__law_either) (defBody s__law_either) (defScope s__law_either) .none kVE2 dcE2 pmE2 anE2 cdE2 ctE2), slE2⟩)
    (cE2 : PySem.W.codeIn K cdE2 "_law_either" = true)
    (eE2 : PySem.W.keepIn K (.ref fE2) = true)
    (aS2 : PySem.W.nsIn K mainGlobals "_law_step" = some (some (.ref fS2)))
    (lS2 : K.lookup fS2 = some ⟨ocS2, odS2, .func (PySem.W.fnOf "_law_step" "_law_step" (defArgs s__law_step) (defBody s__law_step) (defScope s__law_step) .none kVS2 dcS2 pmS2 anS2 cdS2 ctS2), slS2⟩)
    (cS2 : PySem.W.codeIn K cdS2 "_law_step" = true)
    (eS2 : PySem.W.keepIn K (.ref fS2) = true)
    (aM2 : PySem.W.nsIn K mainGlobals "_law_made" = some (some (.ref fM2)))
    (lM2 : K.lookup fM2 = some ⟨ocM2, odM2, .func (PySem.W.fnOf "_law_made" "_law_made" (defArgs s__law_made) (defBody s__law_made) (defScope s__law_made) .none kVM2 dcM2 pmM2 anM2 cdM2 ctM2), slM2⟩)
    (cM2 : PySem.W.codeIn K cdM2 "_law_made" = true)
    (eM2 : PySem.W.keepIn K (.ref fM2) = true)
    (aR2 : PySem.W.nsIn K mainGlobals "_law_near" = some (some (.ref fR2)))
    (lR2 : K.lookup fR2 = some ⟨ocR2, odR2, .func (PySem.W.fnOf "_law_near" "_law_near" (defArgs s__law_near) (defBody s__law_near) (defScope s__law_near) .none kVR2 dcR2 pmR2 anR2 cdR2 ctR2), slR2⟩)
    (cR2 : PySem.W.codeIn K cdR2 "_law_near" = true)
    (eR2 : PySem.W.keepIn K (.ref fR2) = true)
    (aD2 : PySem.W.nsIn K mainGlobals "_law_due" = some (some (.ref fD2)))
    (lD2 : K.lookup fD2 = some ⟨ocD2, odD2, .func (PySem.W.fnOf "_law_due" "_law_due" (defArgs s__law_due) (defBody s__law_due) (defScope s__law_due) .none kVD2 dcD2 pmD2 anD2 cdD2 ctD2), slD2⟩)
    (cD2 : PySem.W.codeIn K cdD2 "_law_due" = true)
    (eD2 : PySem.W.keepIn K (.ref fD2) = true)
    (aK2 : PySem.W.nsIn K mainGlobals "_law_alike" = some (some (.ref fK2)))
    (lK2 : K.lookup fK2 = some ⟨ocK2, odK2, .func (PySem.W.fnOf "_law_alike" "_law_alike" (defArgs s__law_alike) (defBody s__law_alike) (defScope s__law_alike) .none kVK2 dcK2 pmK2 anK2 cdK2 ctK2), slK2⟩)
    (cK2 : PySem.W.codeIn K cdK2 "_law_alike" = true)
    (eK2 : PySem.W.keepIn K (.ref fK2) = true)
    (aF2 : PySem.W.nsIn K mainGlobals "_law_refused" = some (some (.ref fF2)))
    (lF2 : K.lookup fF2 = some ⟨ocF2, odF2, .func (PySem.W.fnOf "_law_refused" "_law_refused" (defArgs s__law_refused) (defBody s__law_refused) (defScope s__law_refused) .none kVF2 dcF2 pmF2 anF2 cdF2 ctF2), slF2⟩)
    (cF2 : PySem.W.codeIn K cdF2 "_law_refused" = true)
    (eF2 : PySem.W.keepIn K (.ref fF2) = true)
    (aZ : PySem.W.nsIn K mainGlobals "law" = some (some (.ref fZ)))
    (lZ : K.lookup fZ = some ⟨ocZ, odZ, .func (PySem.W.fnOf "law" "law" (defArgs s_law) (defBody s_law) (defScope s_law) .none kVZ dcZ pmZ anZ cdZ ctZ), slZ⟩)
    (cZ : PySem.W.codeIn K cdZ "law" = true)
    (eZ : PySem.W.keepIn K (.ref fZ) = true)
    (y_isinstance : PySem.W.nsIn K mainGlobals "isinstance" = some none)
    (y_int : PySem.W.nsIn K mainGlobals "int" = some none)
    (y_bool : PySem.W.nsIn K mainGlobals "bool" = some none)
    (y_str : PySem.W.nsIn K mainGlobals "str" = some none)
    (y_len : PySem.W.nsIn K mainGlobals "len" = some none)
    (y_range : PySem.W.nsIn K mainGlobals "range" = some none)
    (y_tuple : PySem.W.nsIn K mainGlobals "tuple" = some none)
    (y_list : PySem.W.nsIn K mainGlobals "list" = some none)
    (y_any : PySem.W.nsIn K mainGlobals "any" = some none)
    (y_all : PySem.W.nsIn K mainGlobals "all" = some none)
    (y_max : PySem.W.nsIn K mainGlobals "max" = some none)
    (y_sorted : PySem.W.nsIn K mainGlobals "sorted" = some none)
    (y_min : PySem.W.nsIn K mainGlobals "min" = some none)
    (y_sum : PySem.W.nsIn K mainGlobals "sum" = some none)
    (y_abs : PySem.W.nsIn K mainGlobals "abs" = some none)
    (hcc : cdZ = .ref cc)
    (lC : K.lookup cc = some ⟨.type "code", odC, .fields vsC, slC⟩)
    (hPt : vsC[11]? = some (.ref Pt))
    (hC : PySem.W.codeHdIn K cc Pt = true)
    (hT : h.get? Pt = some (PySem.W.tabObj #[]))
    (hN : PySem.W.noTabs K = true) :
    ∃ (fd : FuncData) (cc Pt : Addr), (∀ (s : Shared) (v : Value), BindsTo s fd ⟨[v], []⟩ [("_law_script", v)]) ∧ PySem.W.codeHdIn K cc Pt = true ∧ h.get? Pt = some (PySem.W.tabObj #[]) ∧ PySem.W.noTabs K = true ∧ ∀ base : Heap, K.In base → BB mg base → FnOk l.prog w K mg base CX0 7 fa fd ["_law_script"] (spLaw22 K Pt) := by
  have e := hfa.symm.trans (PySem.W.mg_of X G aZ)
  cases e
  have FkR := fun_mk (st := m_Read_kind) lkR ckR ekR
  have bkR := FkR.binds (ps := ["self"]) fun _ _ _ _ _ _ us hl => match us, hl with | [_], _ => rfl
  have FkM := fun_mk (st := m_Mean_kind) lkM ckM ekM
  have bkM := FkM.binds (ps := ["self"]) fun _ _ _ _ _ _ us hl => match us, hl with | [_], _ => rfl
  have FkC := fun_mk (st := m_Change_kind) lkC ckC ekC
  have bkC := FkC.binds (ps := ["self"]) fun _ _ _ _ _ _ us hl => match us, hl with | [_], _ => rfl
  have Fi := fun_mk (st := m_Lock_init) li ci ei
  have bi := Fi.binds (ps := ["self", "first", "last"]) fun _ _ _ _ _ _ us hl => match us, hl with | [_, _, _], _ => rfl
  have Ft := fun_mk (st := m_Lock_told) lt ct et
  have bt := Ft.binds (ps := ["self"]) fun _ _ _ _ _ _ us hl => match us, hl with | [_], _ => rfl
  have T : TxK K (kmk CR CM CC) := ⟨fun k => match k with | .read => ⟨pgR, hdR, poR, saR⟩ | .mean => ⟨pgM, hdM, poM, saM⟩ | .change => ⟨pgC, hdC, poC, saC⟩, fun k => match k with | .read => nFR | .mean => nFM | .change => nFC, fun k => match k with | .read => nLR | .mean => nLM | .change => nLC⟩
  have mgC : ∀ k, mg (kdN k) = some (.ref (kmk CR CM CC k)) := fun k => match k with | .read => PySem.W.mg_of X G nR | .mean => PySem.W.mg_of X G nM | .change => PySem.W.mg_of X G nC
  have FxiY := fun_mk (st := m_CellStep_init) lxiY cxiY exiY
  have bxiY := FxiY.binds (ps := ["self", "where", "cell"]) fun _ _ _ _ _ _ us hl => match us, hl with | [_, _, _], _ => rfl
  have FxlA := fun_mk (st := m_TakeStep_lock) lxlA cxlA exlA
  have bxlA := FxlA.binds (ps := ["self"]) fun _ _ _ _ _ _ us hl => match us, hl with | [_], _ => rfl
  have FxdA := fun_mk (st := m_TakeStep_step_done) lxdA cxdA exdA
  have bxdA := FxdA.binds (ps := ["self", "hand", "value_of"]) fun _ _ _ _ _ _ us hl => match us, hl with | [_, _, _], _ => rfl
  have FxlB := fun_mk (st := m_MeanStep_lock) lxlB cxlB exlB
  have bxlB := FxlB.binds (ps := ["self"]) fun _ _ _ _ _ _ us hl => match us, hl with | [_], _ => rfl
  have FxdB := fun_mk (st := m_MeanStep_step_done) lxdB cxdB exdB
  have bxdB := FxdB.binds (ps := ["self", "hand", "value_of"]) fun _ _ _ _ _ _ us hl => match us, hl with | [_, _, _], _ => rfl
  have FxiD := fun_mk (st := m_SumStep_init) lxiD cxiD exiD
  have bxiD := FxiD.binds (ps := ["self", "where", "low", "high"]) fun _ _ _ _ _ _ us hl => match us, hl with | [_, _, _, _], _ => rfl
  have FxlD := fun_mk (st := m_SumStep_lock) lxlD cxlD exlD
  have bxlD := FxlD.binds (ps := ["self"]) fun _ _ _ _ _ _ us hl => match us, hl with | [_], _ => rfl
  have FxdD := fun_mk (st := m_SumStep_step_done) lxdD cxdD exdD
  have bxdD := FxdD.binds (ps := ["self", "hand", "value_of"]) fun _ _ _ _ _ _ us hl => match us, hl with | [_, _, _], _ => rfl
  have FxlE := fun_mk (st := m_GiveStep_lock) lxlE cxlE exlE
  have bxlE := FxlE.binds (ps := ["self"]) fun _ _ _ _ _ _ us hl => match us, hl with | [_], _ => rfl
  have FxdE := fun_mk (st := m_GiveStep_step_done) lxdE cxdE exdE
  have bxdE := FxdE.binds (ps := ["self", "hand", "value_of"]) fun _ _ _ _ _ _ us hl => match us, hl with | [_, _, _], _ => rfl
  have FxiF := fun_mk (st := m_AddStep_init) lxiF cxiF exiF
  have bxiF := FxiF.binds (ps := ["self", "where", "cell", "amount"]) fun _ _ _ _ _ _ us hl => match us, hl with | [_, _, _, _], _ => rfl
  have FxlF := fun_mk (st := m_AddStep_lock) lxlF cxlF exlF
  have bxlF := FxlF.binds (ps := ["self"]) fun _ _ _ _ _ _ us hl => match us, hl with | [_], _ => rfl
  have FxdF := fun_mk (st := m_AddStep_step_done) lxdF cxdF exdF
  have bxdF := FxdF.binds (ps := ["self", "hand", "value_of"]) fun _ _ _ _ _ _ us hl => match us, hl with | [_, _, _], _ => rfl
  have FxiG := fun_mk (st := m_PlusStep_init) lxiG cxiG exiG
  have bxiG := FxiG.binds (ps := ["self", "amount"]) fun _ _ _ _ _ _ us hl => match us, hl with | [_, _], _ => rfl
  have FxlZ := fun_mk (st := m_Step_lock) lxlZ cxlZ exlZ
  have bxlZ := FxlZ.binds (ps := ["self"]) fun _ _ _ _ _ _ us hl => match us, hl with | [_], _ => rfl
  have FxdG := fun_mk (st := m_PlusStep_step_done) lxdG cxdG exdG
  have bxdG := FxdG.binds (ps := ["self", "hand", "value_of"]) fun _ _ _ _ _ _ us hl => match us, hl with | [_, _, _], _ => rfl
  have FxiN := fun_mk (st := m_NeedStep_init) lxiN cxiN exiN
  have bxiN := FxiN.binds (ps := ["self", "amount"]) fun _ _ _ _ _ _ us hl => match us, hl with | [_, _], _ => rfl
  have FxdN := fun_mk (st := m_NeedStep_step_done) lxdN cxdN exdN
  have bxdN := FxdN.binds (ps := ["self", "hand", "value_of"]) fun _ _ _ _ _ _ us hl => match us, hl with | [_, _, _], _ => rfl
  have W : TxW K (wmk WA WB WD WE WF WG WN) := ⟨fun k => match k with | .take => ⟨pgwA, hdwA, powA, sawA⟩ | .mean => ⟨pgwB, hdwB, powB, sawB⟩ | .sum => ⟨pgwD, hdwD, powD, sawD⟩ | .give => ⟨pgwE, hdwE, powE, sawE⟩ | .add => ⟨pgwF, hdwF, powF, sawF⟩ | .plus => ⟨pgwG, hdwG, powG, sawG⟩ | .need => ⟨pgwN, hdwN, powN, sawN⟩, fun k => match k with | .take => nWwA | .mean => nWwB | .sum => nWwD | .give => nWwE | .add => nWwF | .plus => nWwG | .need => nWwN, fun k => match k with | .take => nCwA | .mean => nCwB | .sum => nCwD | .give => nCwE | .add => nCwF | .plus => nCwG | .need => nCwN, fun k => match k with | .take => nLwA | .mean => nLwB | .sum => nLwD | .give => nLwE | .add => nLwF | .plus => nLwG | .need => nLwN, fun k => match k with | .take => nHwA | .mean => nHwB | .sum => nHwD | .give => nHwE | .add => nHwF | .plus => nHwG | .need => nHwN, fun k => match k with | .take => nAwA | .mean => nAwB | .sum => nAwD | .give => nAwE | .add => nAwF | .plus => nAwG | .need => nAwN⟩
  have FA2 := fun_mk (st := s__law_cell) lA2 cA2 eA2
  have bA2 := FA2.binds (ps := ["_law_script", "_law_k"]) fun _ _ _ _ _ _ us hl => match us, hl with | [_, _], _ => rfl
  have mA2 : mg "_law_cell" = some (.ref fA2) := PySem.W.mg_of X G aA2
  have FW2 := fun_mk (st := s__law_whole) lW2 cW2 eW2
  have bW2 := FW2.binds (ps := ["_law_found"]) fun _ _ _ _ _ _ us hl => match us, hl with | [_], _ => rfl
  have mW2 : mg "_law_whole" = some (.ref fW2) := PySem.W.mg_of X G aW2
  have FX2 := fun_mk (st := s__law_mixed) lX2 cX2 eX2
  have bX2 := FX2.binds (ps := ["_law_cell_here", "_law_k"]) fun _ _ _ _ _ _ us hl => match us, hl with | [_, _], _ => rfl
  have mX2 : mg "_law_mixed" = some (.ref fX2) := PySem.W.mg_of X G aX2
  have FN2 := fun_mk (st := s__law_number) lN2 cN2 eN2
  have bN2 := FN2.binds (ps := ["_law_cell_here", "_law_k"]) fun _ _ _ _ _ _ us hl => match us, hl with | [_, _], _ => rfl
  have mN2 : mg "_law_number" = some (.ref fN2) := PySem.W.mg_of X G aN2
  have FE2 := fun_mk (st := s__law_either) lE2 cE2 eE2
  have bE2 := FE2.binds (ps := ["_law_cell_here", "_law_k"]) fun _ _ _ _ _ _ us hl => match us, hl with | [_, _], _ => rfl
  have mE2 : mg "_law_either" = some (.ref fE2) := PySem.W.mg_of X G aE2
  have FS2 := fun_mk (st := s__law_step) lS2 cS2 eS2
  have bS2 := FS2.binds (ps := ["_law_cell_here"]) fun _ _ _ _ _ _ us hl => match us, hl with | [_], _ => rfl
  have mS2 : mg "_law_step" = some (.ref fS2) := PySem.W.mg_of X G aS2
  have FM2 := fun_mk (st := s__law_made) lM2 cM2 eM2
  have bM2 := FM2.binds (ps := ["_law_step_here"]) fun _ _ _ _ _ _ us hl => match us, hl with | [_], _ => rfl
  have mM2 : mg "_law_made" = some (.ref fM2) := PySem.W.mg_of X G aM2
  have FR2 := fun_mk (st := s__law_near) lR2 cR2 eR2
  have bR2 := FR2.binds (ps := ["_law_step_here", "_law_cell_here", "_law_hand"]) fun _ _ _ _ _ _ us hl => match us, hl with | [_, _, _], _ => rfl
  have mR2 : mg "_law_near" = some (.ref fR2) := PySem.W.mg_of X G aR2
  have FD2 := fun_mk (st := s__law_due) lD2 cD2 eD2
  have bD2 := FD2.binds (ps := ["_law_step_here", "_law_hand", "_law_value_of"]) fun _ _ _ _ _ _ us hl => match us, hl with | [_, _, _], _ => rfl
  have mD2 : mg "_law_due" = some (.ref fD2) := PySem.W.mg_of X G aD2
  have FK2 := fun_mk (st := s__law_alike) lK2 cK2 eK2
  have bK2 := FK2.binds (ps := ["_law_found", "_law_due_here"]) fun _ _ _ _ _ _ us hl => match us, hl with | [_, _], _ => rfl
  have mK2 : mg "_law_alike" = some (.ref fK2) := PySem.W.mg_of X G aK2
  have FF2 := fun_mk (st := s__law_refused) lF2 cF2 eF2
  have bF2 := FF2.binds (ps := ["_law_made_here", "_law_hand", "_law_value_of"]) fun _ _ _ _ _ _ us hl => match us, hl with | [_, _, _], _ => rfl
  have mF2 : mg "_law_refused" = some (.ref fF2) := PySem.W.mg_of X G aF2
  have FZ := fun_mk (st := s_law) lZ cZ eZ
  have B : TxB mg := ⟨PySem.W.mg_none_of X G y_isinstance, PySem.W.mg_none_of X G y_int, PySem.W.mg_none_of X G y_bool, PySem.W.mg_none_of X G y_str, PySem.W.mg_none_of X G y_len, PySem.W.mg_none_of X G y_range, PySem.W.mg_none_of X G y_tuple, PySem.W.mg_none_of X G y_list, PySem.W.mg_none_of X G y_any, PySem.W.mg_none_of X G y_all, PySem.W.mg_none_of X G y_max, PySem.W.mg_none_of X G y_sorted⟩
  have RR : TxR K mg CE CN C1 C2 C3 C4 := ⟨PySem.W.mg_of X G neE, xeE, PySem.W.mg_of X G neQ, xeQ, sub, ⟨xg, xh, xk, hn, htk, xm, xb⟩, PySem.W.mg_of X G m_1, PySem.W.mg_of X G m_2, PySem.W.mg_of X G m_3, PySem.W.mg_of X G m_4, iN, iT⟩
  refine ⟨PySem.W.fnOf "law" "law" (defArgs s_law) (defBody s_law) (defScope s_law) .none kVZ dcZ pmZ anZ cdZ ctZ, cc, Pt, fun s v => .of_eq rfl, hC, hT, hN, fun base _ hB => ?_⟩
  have GK : ∀ k, GM l.prog w K mg base CX0 1 (kmk CR CM CC k) "kind" ["self"] (spKind k) := fun k => match k with | .read => ⟨fkR, _, ok_rk FkR, bkR, ⟨akR, jkR, ekR⟩⟩ | .mean => ⟨fkM, _, ok_mk FkM, bkM, ⟨akM, jkM, ekM⟩⟩ | .change => ⟨fkC, _, ok_ck FkC, bkC, ⟨akC, jkC, ekC⟩⟩
  have Mk : ∀ k, Mk K (kmk CR CM CC k) fi := fun k => match k with | .read => ⟨mkR, aiR, ji, kcR⟩ | .mean => ⟨mkM, aiM, ji, kcM⟩ | .change => ⟨mkC, aiC, ji, kcC⟩
  have Gt : ∀ k, GM l.prog w K mg base CX0 2 (kmk CR CM CC k) "told" ["self"] (spTold (kmk CR CM CC)) := fun k => match k with | .read => ⟨ft, _, ok_told Ft T GK, bt, ⟨atR, jt, et⟩⟩ | .mean => ⟨ft, _, ok_told Ft T GK, bt, ⟨atM, jt, et⟩⟩ | .change => ⟨ft, _, ok_told Ft T GK, bt, ⟨atC, jt, et⟩⟩
  have GI := ok_linit (P := l.prog) (w := w) (mg := mg) (base := base) Fi T
  have GCI := ok_cinit (P := l.prog) (w := w) (mg := mg) (base := base) FxiY W
  have WI : ∀ wd, WI l.prog w K mg base (wmk WA WB WD WE WF WG WN) wd := fun wd => match wd with | .take => ⟨fxiY, _, _, ⟨mkwA, uxiYA, jxiY, kcwA⟩, (GCI.imp fun _ _ _ _ z => cinit_w rfl z).mono (by decide), bxiY, PySem.W.mg_of X G nwA⟩ | .mean => ⟨fxiY, _, _, ⟨mkwB, uxiYB, jxiY, kcwB⟩, (GCI.imp fun _ _ _ _ z => cinit_w rfl z).mono (by decide), bxiY, PySem.W.mg_of X G nwB⟩ | .sum => ⟨fxiD, _, _, ⟨mkwD, uxiDD, jxiD, kcwD⟩, (ok_sinit FxiD W).mono (by decide), bxiD, PySem.W.mg_of X G nwD⟩ | .give => ⟨fxiY, _, _, ⟨mkwE, uxiYE, jxiY, kcwE⟩, (GCI.imp fun _ _ _ _ z => cinit_w rfl z).mono (by decide), bxiY, PySem.W.mg_of X G nwE⟩ | .add => ⟨fxiF, _, _, ⟨mkwF, uxiFF, jxiF, kcwF⟩, ok_ainit FxiF W (PySem.W.mg_of X G nCY) ⟨gaY, rdY, fcY, hiY, exiY⟩ GCI bxiY, bxiF, PySem.W.mg_of X G nwF⟩ | .plus => ⟨fxiG, _, _, ⟨mkwG, uxiGG, jxiG, kcwG⟩, (ok_pinit FxiG W).mono (by decide), bxiG, PySem.W.mg_of X G nwG⟩ | .need => ⟨fxiN, _, _, ⟨mkwN, uxiNN, jxiN, kcwN⟩, (ok_ninit FxiN W).mono (by decide), bxiN, PySem.W.mg_of X G nwN⟩ 
  have GEB : ∀ Bh : Heap, K.In Bh → GF l.prog w K mg Bh CX0 3 "_law_either" ["_law_cell_here", "_law_k"] spEiX := fun Bh _ => ⟨fE2, _, ok_either FE2 ⟨fX2, _, ok_mixed FX2, bX2, eX2, mX2⟩ ⟨fN2, _, ok_number FN2 B ⟨fX2, _, ok_mixed FX2, bX2, eX2, mX2⟩, bN2, eN2, mN2⟩, bE2, eE2, mE2⟩
  have GA2 : GF l.prog w K mg base CX0 1 "_law_cell" ["_law_script", "_law_k"] (spCell K) := ⟨fA2, _, ok_lcell FA2 B, bA2, eA2, mA2⟩
  have GW2 : GF l.prog w K mg base CX0 1 "_law_whole" ["_law_found"] Lo.spWhole := ⟨fW2, _, ok_whole FW2 B, bW2, eW2, mW2⟩
  have GX2 : GF l.prog w K mg base CX0 1 "_law_mixed" ["_law_cell_here", "_law_k"] spMixX := ⟨fX2, _, ok_mixed FX2, bX2, eX2, mX2⟩
  have GN2 : GF l.prog w K mg base CX0 2 "_law_number" ["_law_cell_here", "_law_k"] spNumX := ⟨fN2, _, ok_number FN2 B GX2, bN2, eN2, mN2⟩
  have GE2 : GF l.prog w K mg base CX0 3 "_law_either" ["_law_cell_here", "_law_k"] spEiX := ⟨fE2, _, ok_either FE2 GX2 GN2, bE2, eE2, mE2⟩
  have GS2 : GF l.prog w K mg base CX0 4 "_law_step" ["_law_cell_here"] spLStep := ⟨fS2, _, ok_lstep FS2 B (PySem.W.mg_none_of X G y_min) (gf_imp GN2 fun _ _ _ _ h => num_w h) (gf_imp GE2 fun _ _ _ _ h => ei_w h), bS2, eS2, mS2⟩
  have GM2 : GF l.prog w K mg base CX0 5 "_law_made" ["_law_step_here"] (spLMade (wmk WA WB WD WE WF WG WN)) := ⟨fM2, _, ok_lmade FM2 WI, bM2, eM2, mM2⟩
  have GR2 : GF l.prog w K mg base CX0 2 "_law_near" ["_law_step_here", "_law_cell_here", "_law_hand"] spNear := ⟨fR2, _, ok_near FR2 (PySem.W.mg_none_of X G y_abs) GX2, bR2, eR2, mR2⟩
  have GK2 : GF l.prog w K mg base CX0 2 "_law_alike" ["_law_found", "_law_due_here"] spAlike := ⟨fK2, _, ok_alike FK2 B GW2, bK2, eK2, mK2⟩
  have Gl : ∀ wd, GM l.prog w K mg base CX0 3 ((wmk WA WB WD WE WF WG WN) wd) "lock" ["self"] (spSLock (wmk WA WB WD WE WF WG WN) K wd) := fun wd => match wd with | .take => ⟨fxlA, _, ok_ltake FxlA W T mgC Mk GI bi Gt, bxlA, ⟨uxlAA, jxlA, exlA⟩⟩ | .mean => ⟨fxlB, _, ok_lmean FxlB W T mgC Mk GI bi Gt, bxlB, ⟨uxlBB, jxlB, exlB⟩⟩ | .sum => ⟨fxlD, _, ok_lsum FxlD W T mgC Mk GI bi Gt, bxlD, ⟨uxlDD, jxlD, exlD⟩⟩ | .give => ⟨fxlE, _, ok_lgive FxlE W T mgC Mk GI bi Gt, bxlE, ⟨uxlEE, jxlE, exlE⟩⟩ | .add => ⟨fxlF, _, ok_ladd FxlF W T mgC Mk GI bi Gt, bxlF, ⟨uxlFF, jxlF, exlF⟩⟩ | .plus => ⟨fxlZ, _, (ok_lnone (.inl rfl) FxlZ).mono (by decide), bxlZ, ⟨uxlZG, jxlZ, exlZ⟩⟩ | .need => ⟨fxlZ, _, (ok_lnone (.inr rfl) FxlZ).mono (by decide), bxlZ, ⟨uxlZN, jxlZ, exlZ⟩⟩ 
  have HS : ∀ (wd : Wd) (Bh : Heap) (fa : Addr) (val : Int → Int) (la : Addr), K.In Bh → CloV l.prog w K mg Bh fa (spAsk val la) → FnOk l.prog w K mg Bh (CXE l.prog w) 5 (wmk fxdA fxdB fxdD fxdE fxdF fxdG fxdN wd) (match wd with | .take => fdOf FxdA | .mean => fdOf FxdB | .sum => fdOf FxdD | .give => fdOf FxdE | .add => fdOf FxdF | .plus => fdOf FxdG | .need => fdOf FxdN) ["self", "hand", "value_of"] (spDone (wmk WA WB WD WE WF WG WN) val la fa CN wd) := fun wd Bh fa val la _ cv => match wd with | .take => fn_up (ok_dtake FxdA W cv) | .mean => fn_up (ok_dmean FxdB W cv) | .sum => fn_up (ok_dsum FxdD W B (PySem.W.mg_none_of X G y_sum) cv) | .give => fn_up ((ok_dgive FxdE W).mono (by decide)) | .add => fn_up (ok_dadd FxdF W cv) | .plus => fn_up ((ok_dplus FxdG W).mono (by decide)) | .need => (ok_dneed FxdN W RR.mN RR.xN).mono (by decide)
  refine ok_law (CN := CN) (fS := wmk fxdA fxdB fxdD fxdE fxdF fxdG fxdN) (dS := fun wd => match wd with | .take => fdOf FxdA | .mean => fdOf FxdB | .sum => fdOf FxdD | .give => fdOf FxdE | .add => fdOf FxdF | .plus => fdOf FxdG | .need => fdOf FxdN) FZ B W hB hcc hC GA2 GE2 GS2 GR2 GM2 Gl GK2 GEB (fun Bh fv val _ cv => ok_due FD2 B (PySem.W.mg_none_of X G y_sum) cv) bD2 eD2 mD2 (fun Bh fa val la _ cv => ok_refused FF2 B W RR ⟨fxdN, _, (ok_dneed FxdN W RR.mN RR.xN).mono (by decide), bxdN, ⟨uxdNN, jxdN, exdN⟩⟩) bF2 eF2 mF2 HS (fun wd => match wd with | .take => ⟨uxdAA, jxdA, exdA⟩ | .mean => ⟨uxdBB, jxdB, exdB⟩ | .sum => ⟨uxdDD, jxdD, exdD⟩ | .give => ⟨uxdEE, jxdE, exdE⟩ | .add => ⟨uxdFF, jxdF, exdF⟩ | .plus => ⟨uxdGG, jxdG, exdG⟩ | .need => ⟨uxdNN, jxdN, exdN⟩) (fun wd => match wd with | .take => bxdA | .mean => bxdB | .sum => bxdD | .give => bxdE | .add => bxdF | .plus => bxdG | .need => bxdN)
theorem walk {l : PySem.W.OpenLaw} {q : Program} {loose : List Str} {XP : (Str → Option Value) → Heap → Prop} {YP : World → Heap → Prop} {d : DefRec} {K : Params → PySem.W.Frag} (hn : l.most = some 63) (hdf : d.params.defaults = [])
    (hY : ∀ (w : World) (h : Heap), YP w h → (K w.params).In h)
    (F : ∀ (w : World) (mg : Str → Option Value) (fa : Addr) (h : Heap), YP w h → (K w.params).In h → h.Ns mainGlobals mg → mg d.name = some (.ref fa) →
      ∃ (fd : FuncData) (cc Pt : Addr), (∀ (s : Shared) (u : Value), BindsTo s fd ⟨[u], []⟩ [("_law_script", u)]) ∧ PySem.W.codeHdIn (K w.params) cc Pt = true ∧ h.get? Pt = some (PySem.W.tabObj #[]) ∧ PySem.W.noTabs (K w.params) = true ∧
        ∀ base : Heap, (K w.params).In base → BB mg base → FnOk l.prog w (K w.params) mg base CX0 7 fa fd ["_law_script"] (spLaw22 (K w.params) Pt)) :
    PySem.W.WalkO q loose XP YP l.row.toRowW d [] (fun f vs => PySem.call f vs) :=
  L2.walk_ofT (n := 63) (k := 7) (x := "_law_script") (sp := fun w Pt => spLaw22 (K w.params) Pt) hn (by decide) hdf ⟨rfl, by decide, by decide⟩ hY F fun w Pt H a ns hl hS hP => ⟨a, ns, rfl, hS, hl, hP, fun _ => rfl⟩
end K22
open PySem PySem.W PyProof.Rows
set_option maxRecDepth 100000 in
set_option maxHeartbeats 0 in
theorem PySem.Challenge.cw_pactroom_k22_a_step_done_holds : PySem.Challenge.rw_pactroom_k22_a_step_done.Holds := by
  w_on; o_law
  refine holds_open (q := Q.qv) (loose := Q.lo) (Xt := Q.Xt) (XP := XL Q.qv Q.lvv) (Yf := Hook.obs (kmHook Q.Kf Q.Ka Q.ke [656])) (Ya := Hook.val (kmHook Q.Kf Q.Ka Q.ke [656])) (YP := Hook.says (kmHook Q.Kf Q.Ka Q.ke [656])) (N := 12024) Q.left (Hook.of (kmHook Q.Kf Q.Ka Q.ke [656])) (Hook.keeps (kmHook Q.Kf Q.Ka Q.ke [656])) (fun s e => xl_of s (Bool.and_eq_true_iff.mp e).1) XL.keeps (by rfl) (by rfl) (by rfl) (fun s e => recFacts_of (Bool.and_eq_true_iff.mp e).2) (by rfl) (by first | assumption | decide +kernel) (by decide +kernel) ⟨rfl, rfl, rfl, rfl, rfl, by decide +kernel⟩ ?hw ?hc
  (case hw => w_witness2)
  k_fill
  refine K22.walk (l := PySem.Challenge.rw_pactroom_k22_a_step_done) rfl rfl (fun w h Y => PySem.W.km_in_of Y) ?F
  case F =>
    intro w mg fa h Y KX G hmg
    refine' K22.all_mk KX G hmg ?nR ?pgR ?hdR ?poR ?saR ?mkR ?kcR ?nFR ?nLR ?akR ?jkR ?lkR ?ckR ?ekR ?nM ?pgM ?hdM ?poM ?saM ?mkM ?kcM ?nFM ?nLM ?akM ?jkM ?lkM ?ckM ?ekM ?nC ?pgC ?hdC ?poC ?saC ?mkC ?kcC ?nFC ?nLC ?akC ?jkC ?lkC ?ckC ?ekC ?aiR ?aiM ?aiC ?ji ?li ?ci ?ei ?atR ?atM ?atC ?jt ?lt ?ct ?et ?nwA ?pgwA ?hdwA ?powA ?sawA ?mkwA ?kcwA ?nWwA ?nCwA ?nLwA ?nHwA ?nAwA ?uxiYA ?jxiY ?lxiY ?cxiY ?exiY ?uxlAA ?jxlA ?lxlA ?cxlA ?exlA ?uxdAA ?jxdA ?lxdA ?cxdA ?exdA ?nwB ?pgwB ?hdwB ?powB ?sawB ?mkwB ?kcwB ?nWwB ?nCwB ?nLwB ?nHwB ?nAwB ?uxiYB ?uxlBB ?jxlB ?lxlB ?cxlB ?exlB ?uxdBB ?jxdB ?lxdB ?cxdB ?exdB ?nwD ?pgwD ?hdwD ?powD ?sawD ?mkwD ?kcwD ?nWwD ?nCwD ?nLwD ?nHwD ?nAwD ?uxiDD ?jxiD ?lxiD ?cxiD ?exiD ?uxlDD ?jxlD ?lxlD ?cxlD ?exlD ?uxdDD ?jxdD ?lxdD ?cxdD ?exdD ?nwE ?pgwE ?hdwE ?powE ?sawE ?mkwE ?kcwE ?nWwE ?nCwE ?nLwE ?nHwE ?nAwE ?uxiYE ?uxlEE ?jxlE ?lxlE ?cxlE ?exlE ?uxdEE ?jxdE ?lxdE ?cxdE ?exdE ?nwF ?pgwF ?hdwF ?powF ?sawF ?mkwF ?kcwF ?nWwF ?nCwF ?nLwF ?nHwF ?nAwF ?uxiFF ?jxiF ?lxiF ?cxiF ?exiF ?uxlFF ?jxlF ?lxlF ?cxlF ?exlF ?uxdFF ?jxdF ?lxdF ?cxdF ?exdF ?nwG ?pgwG ?hdwG ?powG ?sawG ?mkwG ?kcwG ?nWwG ?nCwG ?nLwG ?nHwG ?nAwG ?uxiGG ?jxiG ?lxiG ?cxiG ?exiG ?uxlZG ?jxlZ ?lxlZ ?cxlZ ?exlZ ?uxdGG ?jxdG ?lxdG ?cxdG ?exdG ?nwN ?pgwN ?hdwN ?powN ?sawN ?mkwN ?kcwN ?nWwN ?nCwN ?nLwN ?nHwN ?nAwN ?uxiNN ?jxiN ?lxiN ?cxiN ?exiN ?uxlZN ?uxdNN ?jxdN ?lxdN ?cxdN ?exdN ?nCY ?gaY ?rdY ?fcY ?hiY ?hn ?htk ?neE ?xeE ?neQ ?xeQ ?sub ?xg ?xh ?xk ?xm ?xb ?m_1 ?m_2 ?m_3 ?m_4 ?iN ?iT ?aA2 ?lA2 ?cA2 ?eA2 ?aW2 ?lW2 ?cW2 ?eW2 ?aX2 ?lX2 ?cX2 ?eX2 ?aN2 ?lN2 ?cN2 ?eN2 ?aE2 ?lE2 ?cE2 ?eE2 ?aS2 ?lS2 ?cS2 ?eS2 ?aM2 ?lM2 ?cM2 ?eM2 ?aR2 ?lR2 ?cR2 ?eR2 ?aD2 ?lD2 ?cD2 ?eD2 ?aK2 ?lK2 ?cK2 ?eK2 ?aF2 ?lF2 ?cF2 ?eF2 ?aZ ?lZ ?cZ ?eZ ?y_isinstance ?y_int ?y_bool ?y_str ?y_len ?y_range ?y_tuple ?y_list ?y_any ?y_all ?y_max ?y_sorted ?y_min ?y_sum ?y_abs ?hcc ?lC ?hPt ?hC ?hT ?hN
    (case nR => k_is)
    (case pgR => k_is)
    (case hdR => k_is)
    (case poR => k_is)
    (case saR => k_is)
    (case mkR => k_is)
    (case kcR => k_is)
    (case nFR => k_is)
    (case nLR => k_is)
    (case akR => k_is)
    (case jkR => k_is)
    (case lkR => k_is)
    (case ckR => k_is)
    (case ekR => k_is)
    (case nM => k_is)
    (case pgM => k_is)
    (case hdM => k_is)
    (case poM => k_is)
    (case saM => k_is)
    (case mkM => k_is)
    (case kcM => k_is)
    (case nFM => k_is)
    (case nLM => k_is)
    (case akM => k_is)
    (case jkM => k_is)
    (case lkM => k_is)
    (case ckM => k_is)
    (case ekM => k_is)
    (case nC => k_is)
    (case pgC => k_is)
    (case hdC => k_is)
    (case poC => k_is)
    (case saC => k_is)
    (case mkC => k_is)
    (case kcC => k_is)
    (case nFC => k_is)
    (case nLC => k_is)
    (case akC => k_is)
    (case jkC => k_is)
    (case lkC => k_is)
    (case ckC => k_is)
    (case ekC => k_is)
    (case aiR => k_is)
    (case aiM => k_is)
    (case aiC => k_is)
    (case ji => k_is)
    (case li => k_is)
    (case ci => k_is)
    (case ei => k_is)
    (case atR => k_is)
    (case atM => k_is)
    (case atC => k_is)
    (case jt => k_is)
    (case lt => k_is)
    (case ct => k_is)
    (case et => k_is)
    (case nwA => k_is)
    (case pgwA => k_is)
    (case hdwA => k_is)
    (case powA => k_is)
    (case sawA => k_is)
    (case mkwA => k_is)
    (case kcwA => k_is)
    (case nWwA => k_is)
    (case nCwA => k_is)
    (case nLwA => k_is)
    (case nHwA => k_is)
    (case nAwA => k_is)
    (case uxiYA => k_is)
    (case jxiY => k_is)
    (case lxiY => k_is)
    (case cxiY => k_is)
    (case exiY => k_is)
    (case uxlAA => k_is)
    (case jxlA => k_is)
    (case lxlA => k_is)
    (case cxlA => k_is)
    (case exlA => k_is)
    (case uxdAA => k_is)
    (case jxdA => k_is)
    (case lxdA => k_is)
    (case cxdA => k_is)
    (case exdA => k_is)
    (case nwB => k_is)
    (case pgwB => k_is)
    (case hdwB => k_is)
    (case powB => k_is)
    (case sawB => k_is)
    (case mkwB => k_is)
    (case kcwB => k_is)
    (case nWwB => k_is)
    (case nCwB => k_is)
    (case nLwB => k_is)
    (case nHwB => k_is)
    (case nAwB => k_is)
    (case uxiYB => k_is)
    (case uxlBB => k_is)
    (case jxlB => k_is)
    (case lxlB => k_is)
    (case cxlB => k_is)
    (case exlB => k_is)
    (case uxdBB => k_is)
    (case jxdB => k_is)
    (case lxdB => k_is)
    (case cxdB => k_is)
    (case exdB => k_is)
    (case nwD => k_is)
    (case pgwD => k_is)
    (case hdwD => k_is)
    (case powD => k_is)
    (case sawD => k_is)
    (case mkwD => k_is)
    (case kcwD => k_is)
    (case nWwD => k_is)
    (case nCwD => k_is)
    (case nLwD => k_is)
    (case nHwD => k_is)
    (case nAwD => k_is)
    (case uxiDD => k_is)
    (case jxiD => k_is)
    (case lxiD => k_is)
    (case cxiD => k_is)
    (case exiD => k_is)
    (case uxlDD => k_is)
    (case jxlD => k_is)
    (case lxlD => k_is)
    (case cxlD => k_is)
    (case exlD => k_is)
    (case uxdDD => k_is)
    (case jxdD => k_is)
    (case lxdD => k_is)
    (case cxdD => k_is)
    (case exdD => k_is)
    (case nwE => k_is)
    (case pgwE => k_is)
    (case hdwE => k_is)
    (case powE => k_is)
    (case sawE => k_is)
    (case mkwE => k_is)
    (case kcwE => k_is)
    (case nWwE => k_is)
    (case nCwE => k_is)
    (case nLwE => k_is)
    (case nHwE => k_is)
    (case nAwE => k_is)
    (case uxiYE => k_is)
    (case uxlEE => k_is)
    (case jxlE => k_is)
    (case lxlE => k_is)
    (case cxlE => k_is)
    (case exlE => k_is)
    (case uxdEE => k_is)
    (case jxdE => k_is)
    (case lxdE => k_is)
    (case cxdE => k_is)
    (case exdE => k_is)
    (case nwF => k_is)
    (case pgwF => k_is)
    (case hdwF => k_is)
    (case powF => k_is)
    (case sawF => k_is)
    (case mkwF => k_is)
    (case kcwF => k_is)
    (case nWwF => k_is)
    (case nCwF => k_is)
    (case nLwF => k_is)
    (case nHwF => k_is)
    (case nAwF => k_is)
    (case uxiFF => k_is)
    (case jxiF => k_is)
    (case lxiF => k_is)
    (case cxiF => k_is)
    (case exiF => k_is)
    (case uxlFF => k_is)
    (case jxlF => k_is)
    (case lxlF => k_is)
    (case cxlF => k_is)
    (case exlF => k_is)
    (case uxdFF => k_is)
    (case jxdF => k_is)
    (case lxdF => k_is)
    (case cxdF => k_is)
    (case exdF => k_is)
    (case nwG => k_is)
    (case pgwG => k_is)
    (case hdwG => k_is)
    (case powG => k_is)
    (case sawG => k_is)
    (case mkwG => k_is)
    (case kcwG => k_is)
    (case nWwG => k_is)
    (case nCwG => k_is)
    (case nLwG => k_is)
    (case nHwG => k_is)
    (case nAwG => k_is)
    (case uxiGG => k_is)
    (case jxiG => k_is)
    (case lxiG => k_is)
    (case cxiG => k_is)
    (case exiG => k_is)
    (case uxlZG => k_is)
    (case jxlZ => k_is)
    (case lxlZ => k_is)
    (case cxlZ => k_is)
    (case exlZ => k_is)
    (case uxdGG => k_is)
    (case jxdG => k_is)
    (case lxdG => k_is)
    (case cxdG => k_is)
    (case exdG => k_is)
    (case nwN => k_is)
    (case pgwN => k_is)
    (case hdwN => k_is)
    (case powN => k_is)
    (case sawN => k_is)
    (case mkwN => k_is)
    (case kcwN => k_is)
    (case nWwN => k_is)
    (case nCwN => k_is)
    (case nLwN => k_is)
    (case nHwN => k_is)
    (case nAwN => k_is)
    (case uxiNN => k_is)
    (case jxiN => k_is)
    (case lxiN => k_is)
    (case cxiN => k_is)
    (case exiN => k_is)
    (case uxlZN => k_is)
    (case uxdNN => k_is)
    (case jxdN => k_is)
    (case lxdN => k_is)
    (case cxdN => k_is)
    (case exdN => k_is)
    (case nCY => k_is)
    (case gaY => k_is)
    (case rdY => k_is)
    (case fcY => k_is)
    (case hiY => rfl)
    (case hn => k_is)
    (case htk => k_is)
    (case neE => k_is)
    (case xeE => k_exc)
    (case neQ => k_is)
    (case xeQ => k_exc)
    (case sub => k_is)
    (case xg => k_is)
    (case xh => k_is)
    (case xk => k_is)
    (case xm => k_is)
    (case xb => k_is)
    (case m_1 => k_is)
    (case m_2 => k_is)
    (case m_3 => k_is)
    (case m_4 => k_is)
    (case iN => kit_is)
    (case iT => kit_is)
    (case aA2 => k_is)
    (case lA2 => k_is)
    (case cA2 => k_is)
    (case eA2 => k_is)
    (case aW2 => k_is)
    (case lW2 => k_is)
    (case cW2 => k_is)
    (case eW2 => k_is)
    (case aX2 => k_is)
    (case lX2 => k_is)
    (case cX2 => k_is)
    (case eX2 => k_is)
    (case aN2 => k_is)
    (case lN2 => k_is)
    (case cN2 => k_is)
    (case eN2 => k_is)
    (case aE2 => k_is)
    (case lE2 => k_is)
    (case cE2 => k_is)
    (case eE2 => k_is)
    (case aS2 => k_is)
    (case lS2 => k_is)
    (case cS2 => k_is)
    (case eS2 => k_is)
    (case aM2 => k_is)
    (case lM2 => k_is)
    (case cM2 => k_is)
    (case eM2 => k_is)
    (case aR2 => k_is)
    (case lR2 => k_is)
    (case cR2 => k_is)
    (case eR2 => k_is)
    (case aD2 => k_is)
    (case lD2 => k_is)
    (case cD2 => k_is)
    (case eD2 => k_is)
    (case aK2 => k_is)
    (case lK2 => k_is)
    (case cK2 => k_is)
    (case eK2 => k_is)
    (case aF2 => k_is)
    (case lF2 => k_is)
    (case cF2 => k_is)
    (case eF2 => k_is)
    (case aZ => k_is)
    (case lZ => k_is)
    (case cZ => k_is)
    (case eZ => k_is)
    (case y_isinstance => k_is)
    (case y_int => k_is)
    (case y_bool => k_is)
    (case y_str => k_is)
    (case y_len => k_is)
    (case y_range => k_is)
    (case y_tuple => k_is)
    (case y_list => k_is)
    (case y_any => k_is)
    (case y_all => k_is)
    (case y_max => k_is)
    (case y_sorted => k_is)
    (case y_min => k_is)
    (case y_sum => k_is)
    (case y_abs => k_is)
    (case hcc => exact rfl)
    (case lC => k_is)
    (case hPt => exact rfl)
    (case hC => kernel_rfl)
    (case hT => exact PySem.W.km_tabs_of Y _ (by k_mem))
    (case hN => kernel_rfl)
#print axioms PySem.Challenge.cw_pactroom_k22_a_step_done_holds
