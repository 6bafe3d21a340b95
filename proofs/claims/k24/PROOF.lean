import PyProof.Rows.All
import Wide.All
import OpenK.AllK
import Wide.FinOn
import Lean
import PyProof.EqAt
import PyProof.EqKinds
import PyProof.TupleCall
import PyProof.SetScanFacts
import PyProof.SetKind
import PyProof.TupleKey
import PyProof.Rows.SetFrom
import PyProof.WalksS
import PyProof.CollectWalk
import PySem.Challenge.RW_pactroom_k24_pacts_there_and_back
set_option Elab.async false
set_option linter.all false
set_option maxRecDepth 100000
namespace L2
open PySem PySem.Spec PyProof.Rows
abbrev Key := Sum Int Str
def keyIs : Key → Value → Bool
  | .inl k, v => Value.isInt k v
  | .inr x, v => Value.isStrOf x v
def keyH (w : World) : Key → Int
  | .inl k => hashInt k
  | .inr x => hashStr w x
theorem keyIs_shape : ∀ {k : Key} {v : Value}, keyIs k v = true → (∃ i t, k = Sum.inl i ∧ v = Value.int i t) ∨ (∃ x t, k = Sum.inr x ∧ v = Value.str x t)
  | .inl i, v, h => by
    obtain ⟨t, e⟩ := Value.isInt_shape (k := i) (v := v) h
    exact .inl ⟨i, t, rfl, e⟩
  | .inr x, v, h => by
    obtain ⟨t, e⟩ := Value.isStrOf_shape (x := x) (v := v) h
    exact .inr ⟨x, t, rfl, e⟩
theorem key_ll (a b : Int) : decide ((Sum.inl a : Key) = Sum.inl b) = (a == b) := by
  by_cases e : a = b
  · subst e; simp
  · have h : ¬ (Sum.inl a : Key) = Sum.inl b := fun q => e (Sum.inl.inj q)
    rw [decide_eq_false h]
    exact (beq_eq_false_iff_ne.mpr e).symm
theorem key_rr (a b : Str) : decide ((Sum.inr a : Key) = Sum.inr b) = decide (a = b) := by
  by_cases e : a = b
  · subst e; simp
  · have h : ¬ (Sum.inr a : Key) = Sum.inr b := fun q => e (Sum.inr.inj q)
    rw [decide_eq_false h, decide_eq_false e]
theorem key_lr (a : Int) (b : Str) : decide ((Sum.inl a : Key) = Sum.inr b) = false := decide_eq_false (fun q => nomatch q)
theorem key_rl (a : Str) (b : Int) : decide ((Sum.inr a : Key) = Sum.inl b) = false := decide_eq_false (fun q => nomatch q)
def mixKind (prog : Program) (w : World) : PySem.KeyKind prog w Key where
  is := keyIs
  hash := keyH w
  inj := fun v a b ha hb => by
    rcases keyIs_shape ha with ⟨i, t, rfl, rfl⟩ | ⟨x, t, rfl, rfl⟩
    · rcases keyIs_shape hb with ⟨j, u, rfl, e⟩ | ⟨y, u, rfl, e⟩
      · injection e with e1 _; rw [e1]
      · exact nomatch e
    · rcases keyIs_shape hb with ⟨j, u, rfl, e⟩ | ⟨y, u, rfl, e⟩
      · exact nomatch e
      · injection e with e1 _; rw [e1]
  byValue := fun k v h => by
    rcases keyIs_shape h with ⟨i, t, rfl, rfl⟩ | ⟨x, t, rfl, rfl⟩ <;> rfl
  pyHash := fun hv h => by
    rcases keyIs_shape hv with ⟨i, t, rfl, rfl⟩ | ⟨x, t, rfl, rfl⟩
    · exact wpAny_pyHash_int h
    · exact wpAny_pyHash_str h
  eqBool := fun hu hv h => by
    rcases keyIs_shape hu with ⟨i, t, rfl, rfl⟩ | ⟨x, t, rfl, rfl⟩
    · rcases keyIs_shape hv with ⟨j, u, rfl, rfl⟩ | ⟨y, u, rfl, rfl⟩
      · rw [key_ll] at h; exact wpAny_eqBool_int h
      · rw [key_lr] at h; exact SeqAt.EqAt.int_str i t y u _ _ _ _ h
    · rcases keyIs_shape hv with ⟨j, u, rfl, rfl⟩ | ⟨y, u, rfl, rfl⟩
      · rw [key_rl] at h; exact SeqAt.EqAt.str_int x t j u _ _ _ _ h
      · rw [key_rr] at h; exact wpAny_eqBool_str h
  «strs» := fun k x t v h => by
    rcases keyIs_shape h with ⟨i, u, rfl, e⟩ | ⟨y, u, rfl, e⟩
    · exact nomatch e
    · injection e with e1 _
      subst e1
      cases v <;> rfl
end L2
namespace L2
open PySem PySem.Spec PyProof.Rows
inductive V where
  | non | bl (b : Bool) | int (i : Int) | str (x : Str) | byt (b : Array UInt8) | flt (b : UInt64) | ref (a : Addr) | ty (n : String)
  deriving DecidableEq
def RelV : V → Value → Prop
  | .non, u => u = Value.none
  | .bl b, u => u = Value.bool b
  | .int i, u => ∃ t, u = Value.int i t
  | .str x, u => ∃ t, u = Value.str x t
  | .byt b, u => ∃ t, u = Value.bytes b t
  | .flt b, u => ∃ t, u = Value.float b t
  | .ref a, u => u = Value.ref a
  | .ty n, u => u = Value.type n
abbrev Vals : List V → List Value → Prop := Paired RelV
theorem Vals.length {xs : List V} {us : List Value} (r : Vals xs us) : xs.length = us.length := Paired.length r
theorem Vals.get : ∀ {xs : List V} {us : List Value} {i : Nat} {x : V}, Vals xs us → xs[i]? = some x → ∃ u, us[i]? = some u ∧ RelV x u
  | _, _, _, _, .nil, e => by simp at e
  | _, _, 0, _, .cons r _, e => by simp at e; subst e; exact ⟨_, rfl, r⟩
  | _, _, i + 1, x, .cons _ t, e => by
    obtain ⟨u, h1, h2⟩ := Vals.get (i := i) (x := x) t (by simpa using e)
    exact ⟨u, by simpa using h1, h2⟩
theorem Vals.append : ∀ {xs ys : List V} {us ws : List Value}, Vals xs us → Vals ys ws → Vals (xs ++ ys) (us ++ ws)
  | _, _, _, _, .nil, s => s
  | _, _, _, _, .cons r t, s => .cons r (Vals.append t s)
theorem Vals.take : ∀ {xs : List V} {us : List Value} (n : Nat), Vals xs us → Vals (xs.take n) (us.take n)
  | _, _, 0, _ => .nil
  | _, _, _ + 1, .nil => .nil
  | _, _, n + 1, .cons r t => .cons r (Vals.take n t)
theorem Vals.drop : ∀ {xs : List V} {us : List Value} (n : Nat), Vals xs us → Vals (xs.drop n) (us.drop n)
  | _, _, 0, r => r
  | _, _, _ + 1, .nil => .nil
  | _, _, n + 1, .cons _ t => Vals.drop n t
def RelO : Option V → Option Value → Prop
  | some v, some u => RelV v u
  | none, none => True
  | _, _ => False
def KV {κ : Type} : List (κ × V) → List (κ × Value) → Prop := Paired fun (p : κ × V) (q : κ × Value) => p.1 = q.1 ∧ RelV p.2 q.2
def kV : Key → V
  | .inl i => .int i
  | .inr x => .str x
inductive HO where
  | lst (xs : List V)
  | tup (xs : List V)
  | dK (kvs : List (Key × V)) | dT (kvs : List (List Key × V))
  | set (S : Int → Bool) (n : Nat)
  | ins (C dx : Addr) (fs : List (Str × V))
  | own (x : Addr)
  | xd (fs : List (Str × V))
  | met (f x : Addr)
  | rng (lo hi : Int)
  | frz (o : Obj) (u : HO)
  | tbl (ps : Array Value)
  | ext (φ : Heap → Prop)
abbrev Hp := Addr → Option HO
def upd (H : Hp) (a : Addr) (o : HO) : Hp := fun b => if b = a then some o else H b
theorem upd_same {H : Hp} {a : Addr} {o : HO} : upd H a o a = some o := by unfold upd; rw [if_pos rfl]
theorem upd_ne {H : Hp} {a b : Addr} {o : HO} (h : b ≠ a) : upd H a o b = H b := by unfold upd; rw [if_neg h]
theorem ne_of_none {H : Hp} {a b : Addr} {o : HO} (h : H a = some o) (h' : H b = none) : a ≠ b := by
  intro e; subst e; rw [h] at h'; cases h'
section
variable (P : Program) (w : World)
def ObjOk (H : Hp) (h : Heap) (a : Addr) : HO → Prop
  | .lst xs => xs.length ≤ sizeLine ∧ ∃ (its : List Value) (n : Nat), Vals xs its ∧ h.get? a = some { cls := .type "list", data := .seq its.toArray n }
  | .tup xs => xs.length ≤ sizeLine ∧ ∃ its : List Value, Vals xs its ∧ IsTup h a its.toArray
  | .dK kvs => kvs.length ≤ sizeLine ∧ (a == sysModules) = false ∧ ∃ vs, KV kvs vs ∧ h.DictOf (mixKind P w) a vs
  | .dT kvs => kvs.length ≤ sizeLine ∧ (a == sysModules) = false ∧ ∃ xs : List (List Key × Addr × Value),
      Paired (fun (p : List Key × V) (q : List Key × Addr × Value) => p.1 = q.1 ∧ H q.2.1 = some (.tup (p.1.map kV)) ∧ RelV p.2 q.2.2) kvs xs ∧
      ∃ o es ep, h.get? a = some o ∧ o.ExactDict ∧ o.data = .dict es ep ∧ es.toList = xs.map (entryOfKey (tupleKind (mixKind P w))) ∧ (xs.map (·.1)).Nodup
  | .set S n => h.SetOf (intKind P w) a S n
  | .ins C dx fs => H dx = some (.own a) ∧ fs.length ≤ 1000 ∧ dx ≠ a ∧ h.get? a = some (PySem.W.instObj C dx) ∧
      ∃ mA, h.Ns1 dx mA ∧ (∀ f, RelO (fs.lookup f) (mA f)) ∧ PySem.Within mA (fs.map (·.1))
  | .own _ => ∃ o, h.get? a = some o
  | .xd fs => ∃ mA, h.Ns1 a mA ∧ ∀ f, RelO (fs.lookup f) (mA f)
  | .rng lo hi => ∃ t u v, h.get? a = some { cls := .type "range", data := .fields #[.int lo t, .int hi u, .int 1 v] }
  | .frz o u => h.get? a = some o ∧ ObjOk H h a u
  | .tbl ps => h.get? a = some { cls := .none, data := .fields ps }
  | .met f x => h.get? a = some (PySem.W.methodObj (.ref f) (.ref x))
  | .ext φ => φ h ∧ (∃ o, h.get? a = some o) ∧ ∀ h1 h2 : Heap, φ h1 → (∀ o, h1.get? a = some o → h2.get? a = some o) → φ h2
def HOk (H : Hp) (h : Heap) : Prop := ∀ a o, H a = some o → ObjOk P w H h a o
end
section
variable {P : Program} {w : World} {H H' : Hp} {h h' : Heap} {a : Addr} {o : HO}
theorem ObjOk.lt (x : ObjOk P w H h a o) : a < h.objs.size := by
  cases o with
  | lst xs => obtain ⟨_, _, _, _, e⟩ := x; exact Heap.lt_size e
  | tup xs => obtain ⟨_, _, _, p⟩ := x; exact p.lt
  | dK kvs => obtain ⟨_, _, _, _, o, _, _, e, _⟩ := x; exact Heap.lt_size e
  | dT kvs => obtain ⟨_, _, _, _, o, _, _, e, _⟩ := x; exact Heap.lt_size e
  | set S n => obtain ⟨o, _, _, _, e, _⟩ := x; exact Heap.lt_size e
  | ins C dx fs => obtain ⟨_, _, _, e, _⟩ := x; exact Heap.lt_size e
  | own y => obtain ⟨_, e⟩ := x; exact Heap.lt_size e
  | xd fs => obtain ⟨_, ⟨_, _, _, e, _⟩, _⟩ := x; exact Heap.lt_size e
  | rng lo hi => obtain ⟨_, _, _, e⟩ := x; exact Heap.lt_size e
  | frz ob u => obtain ⟨e, _⟩ := x; exact Heap.lt_size e
  | tbl ps => exact Heap.lt_size (show h.get? a = some _ from x)
  | met f y => exact Heap.lt_size (show h.get? a = some _ from x)
  | ext φ => obtain ⟨_, ⟨_, e⟩, _⟩ := x; exact Heap.lt_size e
theorem Paired.mapP {α β : Type} {F G : α → β → Prop} : ∀ {l₁ : List α} {l₂ : List β}, Paired F l₁ l₂ → (∀ a b, F a b → G a b) → Paired G l₁ l₂
  | _, _, .nil, _ => .nil
  | _, _, .cons r t, f => .cons (f _ _ r) (Paired.mapP t f)
theorem ObjOk.stay (x : ObjOk P w H h a o) (k : ∀ b u, (b = a ∨ H b = some (.own a)) → h.get? b = some u → h'.get? b = some u)
    (ho : ∀ b, H b = some (.own a) → H' b = some (.own a)) (ht : ∀ b xs, H b = some (.tup xs) → H' b = some (.tup xs)) : ObjOk P w H' h' a o := by
  induction o with
  | lst xs => obtain ⟨z, its, n, r, e⟩ := x; exact ⟨z, its, n, r, k _ _ (.inl rfl) e⟩
  | tup xs => obtain ⟨z, its, r, ob, e, c⟩ := x; exact ⟨z, its, r, ob, k _ _ (.inl rfl) e, c⟩
  | dK kvs => obtain ⟨z, y, vs, r, ob, es, ep, e, c⟩ := x; exact ⟨z, y, vs, r, ob, es, ep, k _ _ (.inl rfl) e, c⟩
  | dT kvs =>
    obtain ⟨z, y, xs, r, ob, es, ep, e, c⟩ := x
    exact ⟨z, y, xs, Paired.mapP r fun p q z => ⟨z.1, ht _ _ z.2.1, z.2.2⟩, ob, es, ep, k _ _ (.inl rfl) e, c⟩
  | set S n => obtain ⟨ob, es, ep, t, e, c⟩ := x; exact ⟨ob, es, ep, t, k _ _ (.inl rfl) e, c⟩
  | ins C dx fs =>
    obtain ⟨d, z, ne, e, mA, ⟨od, es, ep, e2, c⟩, r⟩ := x
    exact ⟨ho _ d, z, ne, k _ _ (.inl rfl) e, mA, ⟨od, es, ep, k _ _ (.inr d) e2, c⟩, r⟩
  | own y => obtain ⟨ob, e⟩ := x; exact ⟨ob, k _ _ (.inl rfl) e⟩
  | xd fs => obtain ⟨mA, ⟨od, es, ep, e, c⟩, r⟩ := x; exact ⟨mA, ⟨od, es, ep, k _ _ (.inl rfl) e, c⟩, r⟩
  | rng lo hi => obtain ⟨t, u, v, e⟩ := x; exact ⟨t, u, v, k _ _ (.inl rfl) e⟩
  | frz ob u ih => obtain ⟨e, q⟩ := x; exact ⟨k _ _ (.inl rfl) e, ih q⟩
  | tbl ps =>
    have e : h.get? a = some { cls := .none, data := .fields ps } := x
    show h'.get? a = some { cls := .none, data := .fields ps }
    exact k a _ (.inl rfl) e
  | met f y =>
    have e : h.get? a = some (PySem.W.methodObj (.ref f) (.ref y)) := x
    show h'.get? a = some (PySem.W.methodObj (.ref f) (.ref y))
    exact k a _ (.inl rfl) e
  | ext φ => obtain ⟨p, ⟨o, e⟩, st⟩ := x; exact ⟨st _ _ p fun o q => k _ _ (.inl rfl) q, ⟨o, k _ _ (.inl rfl) e⟩, st⟩
theorem HOk.lt (x : HOk P w H h) (e : H a = some o) : a < h.objs.size := (x a o e).lt
theorem HOk.fresh (x : HOk P w H h) (e : h.objs.size ≤ a) : H a = none := by
  cases q : H a with
  | none => rfl
  | some u => exact absurd (Nat.lt_of_lt_of_le (x.lt q) e) (Nat.lt_irrefl _)
theorem HOk.kept (x : HOk P w H h) (k : ∀ b u, h.get? b = some u → h'.get? b = some u) : HOk P w H h' := fun a o e =>
  (x a o e).stay (fun b u _ q => k b u q) (fun _ q => q) fun _ _ q => q
theorem HOk.laid (x : HOk P w H h) (k : ∀ b u, h.get? b = some u → h'.get? b = some u) (hp : h.objs.size ≤ a) (new : ObjOk P w (upd H a o) h' a o) : HOk P w (upd H a o) h' := fun b u e => by
  have hn := x.fresh hp
  by_cases hb : b = a
  · subst hb; rw [upd_same] at e; cases e; exact new
  · rw [upd_ne hb] at e
    exact (x b u e).stay (fun c v _ q => k c v q) (fun c q => by rw [upd_ne (ne_of_none q hn)]; exact q) fun c xs q => by rw [upd_ne (ne_of_none q hn)]; exact q
end
def Rd (H : Hp) (a : Addr) (u : HO) : Prop := H a = some u ∨ ∃ o, H a = some (.frz o u)
theorem Rd.ok {P : Program} {w : World} {H : Hp} {h : Heap} {a : Addr} {u : HO} (r : Rd H a u) (x : HOk P w H h) : ObjOk P w H h a u := by
  rcases r with r | ⟨o, r⟩
  · exact x a u r
  · obtain ⟨_, q⟩ := x a _ r
    exact q
def Mut : Option HO → Prop
  | some (.lst _) => True
  | some (.dK _) => True
  | some (.dT _) => True
  | some (.set _ _) => True
  | some (.ins _ _ _) => True
  | some (.ext _) => True
  | _ => False
section
variable {P : Program} {w : World} {H : Hp} {h h' : Heap} {x e : Addr} {o' : HO}
theorem HOk.write (ok : HOk P w H h) (mu : Mut (H x)) (he : e = x ∨ H e = some (.own x)) (k : ∀ b u, b ≠ e → h.get? b = some u → h'.get? b = some u) (heo : ∃ u, h'.get? e = some u)
    (new : ObjOk P w (upd H x o') h' x o') : HOk P w (upd H x o') h' := fun b u q => by
  have nown : ∀ c y, H c = some (.own y) → c ≠ x := fun c y r z => by subst z; rw [r] at mu; exact mu
  have ntup : ∀ c xs, H c = some (.tup xs) → c ≠ x := fun c xs r z => by subst z; rw [r] at mu; exact mu
  by_cases hb : b = x
  · subst hb; rw [upd_same] at q; cases q; exact new
  · rw [upd_ne hb] at q
    by_cases hbe : b = e
    · have q' : H b = some (.own x) := by
        rcases he with z | z
        · exact absurd (hbe.trans z) hb
        · rw [hbe]; exact z
      rw [q] at q'; cases q'
      obtain ⟨v, hv⟩ := heo
      exact ⟨v, by rw [hbe]; exact hv⟩
    · refine (ok b u q).stay (fun c v hc r => k c v ?_ r) (fun c r => by rw [upd_ne (nown c b r)]; exact r) fun c xs r => by rw [upd_ne (ntup c xs r)]; exact r
      rcases hc with rfl | hc
      · exact hbe
      · rintro rfl
        rcases he with z | z
        · exact nown c b hc z
        · rw [hc] at z; cases z; exact hb rfl
end
structure Un (fs ex : List Addr) (H H' : Hp) (h h' : Heap) : Prop where
  keep : ∀ b o, h.get? b = some o → H b = none → b ∉ fs → b ∉ ex → h'.get? b = some o
  slot : ∀ b o, h.get? b = some o → H b = none → b ∈ fs → b ∉ ex → ∃ sl, h'.get? b = some { o with slots := sl }
  free : ∀ b o, h.get? b = some o → H b = none → b ∉ ex → H' b = none
  there : ∀ b o, h.get? b = some o → b ∉ ex → ∃ o', h'.get? b = some o'
  tups : ∀ b xs, H b = some (.tup xs) → H' b = some (.tup xs)
  frzs : ∀ b o u, H b = some (.frz o u) → H' b = some (.frz o u)
  tbls : ∀ b ps, H b = some (.tbl ps) → ∃ more, H' b = some (.tbl (ps ++ more))
section
variable {fs fs' ex ex' : List Addr} {H H1 H2 : Hp} {h h1 h2 h' : Heap} {a x e : Addr} {o : HO}
theorem Un.any (u : Un fs ex H H1 h h1) {b : Addr} {ob : Obj} (q : h.get? b = some ob) (n : H b = none) (hx : b ∉ ex) : ∃ sl, h1.get? b = some { ob with slots := sl } := by
  by_cases hb : b ∈ fs
  · exact u.slot b ob q n hb hx
  · exact ⟨ob.slots, u.keep b ob q n hb hx⟩
theorem Un.kept (k : ∀ b u, h.get? b = some u → h'.get? b = some u) : Un fs ex H H h h' :=
  ⟨fun b ob q _ _ _ => k b ob q, fun b ob q _ _ _ => ⟨ob.slots, k b ob q⟩, fun _ _ _ n _ => n, fun b ob q _ => ⟨ob, k b ob q⟩, fun _ _ q => q, fun _ _ _ q => q, fun _ ps q => ⟨#[], by rw [q]; simp⟩⟩
theorem Un.refl : Un fs ex H H h h := Un.kept fun _ _ q => q
theorem Un.laid (k : ∀ b u, h.get? b = some u → h'.get? b = some u) (hp : h.objs.size ≤ a) (hn : H a = none) : Un fs ex H (upd H a o) h h' where
  keep := fun b u q _ _ _ => k b u q
  slot := fun b u q _ _ _ => ⟨u.slots, k b u q⟩
  free := fun b u q n _ => by rw [upd_ne (Nat.ne_of_lt (Nat.lt_of_lt_of_le (Heap.lt_size q) hp))]; exact n
  there := fun b u q _ => ⟨u, k b u q⟩
  tups := fun b xs q => by rw [upd_ne (ne_of_none q hn)]; exact q
  frzs := fun b u xs q => by rw [upd_ne (ne_of_none q hn)]; exact q
  tbls := fun b ps q => ⟨#[], by rw [upd_ne (ne_of_none q hn), q]; simp⟩
theorem Un.write (mu : Mut (H x)) (he : e = x ∨ H e = some (.own x)) (k : ∀ b u, b ≠ e → h.get? b = some u → h'.get? b = some u) (heo : ∃ u, h'.get? e = some u) : Un fs ex H (upd H x o) h h' := by
  have hx : ∀ b, H b = none → b ≠ x := fun b n z => by subst z; rw [n] at mu; exact mu
  have hb : ∀ b, H b = none → b ≠ e := fun b n z => by
    subst z
    rcases he with r | r
    · exact hx b n r
    · rw [n] at r; cases r
  have hm : ∀ b u, H b = some u → ¬ Mut (some u) → b ≠ x := fun b u q nm z => by subst z; rw [q] at mu; exact nm mu
  refine ⟨fun b u q n _ _ => k b u (hb b n) q, fun b u q n _ _ => ⟨u.slots, k b u (hb b n) q⟩, fun b u q n _ => by rw [upd_ne (hx b n)]; exact n, fun b u q _ => ?_,
    fun b xs q => by rw [upd_ne (hm b _ q fun z => z)]; exact q, fun b u xs q => by rw [upd_ne (hm b _ q fun z => z)]; exact q, fun b ps q => ⟨#[], by rw [upd_ne (hm b _ q fun z => z), q]; simp⟩⟩
  by_cases hbe : b = e
  · subst hbe; exact heo
  · exact ⟨u, k b u hbe q⟩
end
def trk (h : Heap) (H : Hp) : List Addr := (List.range h.objs.size).filter fun a => (H a).isSome
def hidT (h : Heap) (H : Hp) : Heap := PySem.W.hideAll h (trk h H)
theorem hidT_size (h : Heap) (H : Hp) : (hidT h H).objs.size = h.objs.size := PySem.W.hideAll_size _ _
theorem hidT_get {h : Heap} {H : Hp} {b : Addr} {o : Obj} (e : h.get? b = some o) (n : H b = none) : (hidT h H).get? b = some o :=
  PySem.W.hideAll_get _ e fun hm => by
    have q : (H b).isSome = true := (List.mem_filter.mp hm).2
    rw [n] at q; simp at q
theorem of_hidT {h : Heap} {H : Hp} {b : Addr} {o : Obj} (e : (hidT h H).get? b = some o) : h.get? b = some o ∧ H b = none := by
  have e' : h.get? b = some o := PySem.W.of_hideAll (trk h H) e
  refine ⟨e', ?_⟩
  cases q : H b with
  | none => rfl
  | some x =>
    have hm : b ∈ trk h H := List.mem_filter.mpr ⟨List.mem_range.mpr (Heap.lt_size e'), by simp [q]⟩
    have z : (hidT h H).get? b = none := PySem.W.hideAll_none (trk h H) hm
    rw [z] at e; cases e
end L2
namespace L2
open PySem PySem.Spec PyProof.Rows
structure Mod (K : PySem.W.Frag) (mg : Str → Option Value) (base : Heap) : Prop where
  kin : K.In base
  glob : base.Ns mainGlobals mg
  blt : ∃ mb, base.Ns builtinsNs mb ∧ ∀ x : Str, x ≠ "__name__" → mb x = bootBuiltins x
  nolimit : base.NoLimit
structure Cx where
  prog : Program
  w : World
  K : PySem.W.Frag
  mg : Str → Option Value
  base : Heap
  A : Around
  N : List Str
  s₀ : Shared
  H₀ : Hp
  env : Env
  outer : List Env
  stack : List Env
  ex : List Addr
  fn : Str → Bool
  calm : Bool
  pn : List (Addr × Obj)
  xe : Value → Shared → Prop
def frs (l : List Env) : List Addr := l.filterMap (·.frame)
abbrev Cx.fs (X : Cx) : List Addr := frs X.outer
def Vis (sc : Scope) (x : Str) : Prop := sc.names.lookup x = some .local ∨ sc.names.lookup x = some .cell ∨ sc.names.lookup x = some .free
def Loc (sc : Scope) (x : Str) : Prop := sc.names.lookup x = some .local ∨ sc.names.lookup x = some .cell
def Look (env : Env) (h : Heap) (m : Str → Option Value) (x : Str) (u : Value) : Prop :=
  (env.kindOf x = some .local ∧ m x = some u) ∨ ((env.kindOf x = some .cell ∨ env.kindOf x = some .free) ∧ ∃ c, env.cells.lookup x = some c ∧ h.IsCell c (some u))
structure Cx.Ok (X : Cx) : Prop where
  mod : Mod X.K X.mg X.base
  kind : X.env.scope.kind = .function
  glob : X.env.globals = mainGlobals
  blt : X.env.builtins = builtinsNs
  above : X.s₀.heap.objs.size ≤ X.env.locals
  inj : ∀ x y c, X.env.cells.lookup x = some c → X.env.cells.lookup y = some c → x = y
  has : ∀ x, (X.env.kindOf x = some .cell ∨ X.env.kindOf x = some .free) → ∃ c, X.env.cells.lookup x = some c
  cab : ∀ x c, X.fn x = true → X.env.cells.lookup x = some c → X.s₀.heap.objs.size ≤ c
  hd : X.calm = true → X.A.handled = none
  frames : X.A.frames = some X.stack
  stk : X.stack = X.outer ∨ (X.stack = X.env :: X.outer ∧ X.env.frame = some X.env.locals)
  exf : ∀ b ∈ X.ex, b ≠ X.env.locals ∧ ∀ x c, X.env.cells.lookup x = some c → c ≠ b
  bs : ∀ b o, X.base.get? b = some o → X.s₀.heap.get? b = some o ∧ X.H₀ b = none
  bsz : X.base.objs.size ≤ X.s₀.heap.objs.size
  noex : ∀ b o, X.base.get? b = some o → b ∉ X.ex
  exfs : ∀ b ∈ X.ex, b ∉ X.fs
  funs : X.s₀.heap.FunFrames X.base X.outer
  frf : ∀ b ∈ X.fs, X.H₀ b = none
structure Inv (X : Cx) (pins : List (Addr × Obj)) (σ : List (Option V)) (H : Hp) (s : Shared) : Prop where
  ok : X.Ok
  os : s.os = X.s₀.os
  bare : AllBare s.gens
  base : Un X.fs X.ex X.H₀ H X.s₀.heap s.heap
  loc : ∃ m, s.heap.Ns X.env.locals m ∧ ∀ (i : Nat) (x : Str) (v : V), X.N[i]? = some x → σ[i]? = some (some v) → Vis X.env.scope x → ∃ u, RelV v u ∧ Look X.env s.heap m x u
  cell : ∀ x c, X.env.cells.lookup x = some c → ∃ v, s.heap.IsCell c v
  free : H X.env.locals = none
  freeC : ∀ x c, X.env.cells.lookup x = some c → H c = none
  pin : ∀ p ∈ X.pn ++ pins, s.heap.get? p.1 = some p.2 ∧ H p.1 = none ∧ p.1 ≠ X.env.locals ∧ p.1 ∉ X.fs ∧ ∀ v, p.2.data ≠ .cell v
  hok : HOk X.prog X.w H s.heap
  len : σ.length = X.N.length
section
variable {X : Cx} {pins : List (Addr × Obj)} {σ : List (Option V)} {H H' : Hp} {s : Shared} {h' : Heap}
theorem Cx.Ok.nofr (ok : X.Ok) {b : Addr} {o : Obj} (e : X.base.get? b = some o) : b ∉ X.fs := fun hb => by
  have := (ok.funs.mem hb).1
  rw [e] at this; cases this
theorem Inv.bs (I : Inv X pins σ H s) : ∀ b o, X.base.get? b = some o → s.heap.get? b = some o ∧ H b = none := fun b o e =>
  ⟨I.base.keep b o (I.ok.bs b o e).1 (I.ok.bs b o e).2 (I.ok.nofr e) (I.ok.noex b o e), I.base.free b o (I.ok.bs b o e).1 (I.ok.bs b o e).2 (I.ok.noex b o e)⟩
theorem Inv.bk (I : Inv X pins σ H s) : ∀ b o, X.base.get? b = some o → s.heap.get? b = some o := fun b o e => (I.bs b o e).1
theorem Inv.mod (I : Inv X pins σ H s) : Mod X.K X.mg X.base := I.ok.mod
theorem Inv.kIn (I : Inv X pins σ H s) : X.K.In s.heap := I.ok.mod.kin.keeps I.bk
theorem Inv.lt (I : Inv X pins σ H s) : X.env.locals < s.heap.objs.size := let ⟨_, hn, _⟩ := I.loc; hn.lt
theorem Inv.sz (I : Inv X pins σ H s) : X.s₀.heap.objs.size ≤ s.heap.objs.size := Nat.le_trans I.ok.above (Nat.le_of_lt I.lt)
theorem Inv.nofs (I : Inv X pins σ H s) {a : Addr} (h : s.heap.objs.size ≤ a) : a ∉ X.fs := fun hb => by
  obtain ⟨_, o, ho, _⟩ := I.ok.funs.mem hb
  exact absurd (Nat.lt_of_lt_of_le (Heap.lt_size ho) (Nat.le_trans I.sz h)) (Nat.lt_irrefl _)
theorem Inv.cne (I : Inv X pins σ H s) : ∀ x c, X.env.cells.lookup x = some c → c ≠ X.env.locals := fun x c e z => by
  obtain ⟨v, o, ho, hd⟩ := I.cell x c e
  obtain ⟨m, ⟨o', es, ep, ho', hd', _⟩, _⟩ := I.loc
  rw [z, ho'] at ho; cases ho; rw [hd'] at hd; cases hd
theorem Inv.funs (I : Inv X pins σ H s) : s.heap.FunFrames X.base X.outer := by
  have all : ∀ (l : List Env), (∀ b ∈ frs l, b ∈ X.fs) → X.s₀.heap.FunFrames X.base l → s.heap.FunFrames X.base l := by
    intro l
    induction l with
    | nil => intro _ _; trivial
    | cons env r ih =>
      intro hs hl
      obtain ⟨hk, ⟨L, o, hf, hn, ho, hd⟩, hr⟩ := hl
      have hL : L ∈ X.fs := hs L (by unfold frs; rw [List.filterMap_cons, hf]; exact List.mem_cons_self)
      obtain ⟨sl, e⟩ := I.base.slot L o ho (I.ok.frf L hL) hL fun z => I.ok.exfs L z hL
      exact ⟨hk, ⟨L, _, hf, hn, e, hd⟩, ih (fun b hb => hs b (by unfold frs; rw [List.filterMap_cons, hf]; exact List.mem_cons_of_mem _ hb)) hr⟩
  exact all X.outer (fun _ hb => hb) I.ok.funs
theorem Inv.stack (I : Inv X pins σ H s) : s.heap.FunFrames X.base X.stack := by
  rcases I.ok.stk with e | ⟨e, hf⟩
  · rw [e]; exact I.funs
  · rw [e]
    obtain ⟨m, hn, _⟩ := I.loc
    refine .cons (by rw [I.ok.kind]; decide) hf hn ?_ I.funs
    exact Heap.get?_none_of_le (Nat.le_trans I.ok.bsz I.ok.above)
theorem Inv.stkSub (I : Inv X pins σ H s) : ∀ b ∈ frs X.stack, b ∈ X.env.locals :: X.fs := fun b hb => by
  rcases I.ok.stk with e | ⟨e, hf⟩
  · rw [e] at hb; exact List.mem_cons_of_mem _ hb
  · rw [e] at hb
    unfold frs at hb
    rw [List.filterMap_cons, hf] at hb
    exact hb
theorem Inv.stkFree (I : Inv X pins σ H s) : ∀ b ∈ frs X.stack, H b = none := fun b hb => by
  rcases List.mem_cons.mp (I.stkSub b hb) with e | hb
  · rw [e]; exact I.free
  · obtain ⟨_, o, ho, _⟩ := I.ok.funs.mem hb
    exact I.base.free b o ho (I.ok.frf b hb) fun z => I.ok.exfs b z hb
theorem Inv.step {g' : Array GenState} {t' : Nat} {d' : Drawn} {ch : List Addr} (I : Inv X pins σ H s)
    (hch : ∀ b ∈ ch, (b ∈ X.ex ∨ X.s₀.heap.objs.size ≤ b) ∧ b ≠ X.env.locals ∧ (∀ x c, X.env.cells.lookup x = some c → c ≠ b) ∧ ∀ p ∈ X.pn ++ pins, p.1 ≠ b)
    (keep : ∀ b o, b ≠ X.env.locals → b ∉ X.fs → b ∉ ch → s.heap.get? b = some o → H b = none → h'.get? b = some o)
    (slot : ∀ b o, b ≠ X.env.locals → b ∈ X.fs → b ∉ ch → s.heap.get? b = some o → H b = none → ∃ sl, h'.get? b = some { o with slots := sl }) (free : ∀ b o, b ∉ ch → s.heap.get? b = some o → H b = none → H' b = none)
    (there : ∀ b o, b ∉ ch → s.heap.get? b = some o → ∃ o', h'.get? b = some o')
    (tups : ∀ b xs, H b = some (.tup xs) → H' b = some (.tup xs)) (frzs : ∀ b o u, H b = some (.frz o u) → H' b = some (.frz o u)) (tbls : ∀ b ps, H b = some (.tbl ps) → ∃ more, H' b = some (.tbl (ps ++ more)))
    (ns : ∀ m, s.heap.Ns X.env.locals m → h'.Ns X.env.locals m) (hok : HOk X.prog X.w H' h') (hg : AllBare g') :
    Inv X pins σ H' { s with heap := h', gens := g', drawn := d', toks := t' } := by
  have neL : ∀ b o, X.s₀.heap.get? b = some o → b ≠ X.env.locals := fun b o e => Nat.ne_of_lt (Nat.lt_of_lt_of_le (Heap.lt_size e) I.ok.above)
  have neC : ∀ b o, X.s₀.heap.get? b = some o → b ∉ X.ex → b ∉ ch := fun b o e hx hb => by
    rcases (hch b hb).1 with z | z
    · exact hx z
    · exact absurd (Nat.lt_of_lt_of_le (Heap.lt_size e) z) (Nat.lt_irrefl _)
  have cellK : ∀ x c, X.env.cells.lookup x = some c → ∀ v, s.heap.IsCell c v → h'.IsCell c v := fun x c e v ⟨o, ho, hd⟩ => by
    have nch : c ∉ ch := fun z => (hch c z).2.2.1 x c e rfl
    by_cases hc : c ∈ X.fs
    · obtain ⟨sl, q⟩ := slot c o (I.cne x c e) hc nch ho (I.freeC x c e)
      exact ⟨_, q, hd⟩
    · exact ⟨o, keep c o (I.cne x c e) hc nch ho (I.freeC x c e), hd⟩
  refine ⟨I.ok, I.os, hg, ⟨fun b o e n hb hx => ?_, fun b o e n hb hx => ?_, fun b o e n hx => ?_, fun b o e hx => ?_, fun b xs e => tups b xs (I.base.tups b xs e), fun b o xs e => frzs b o xs (I.base.frzs b o xs e), fun b ps e => ?_⟩, ?_, fun x c e => ?_, ?_, fun x c e => ?_, fun p hp => ?_, hok, I.len⟩
  · exact keep b o (neL b o e) hb (neC b o e hx) (I.base.keep b o e n hb hx) (I.base.free b o e n hx)
  · obtain ⟨sl, e1⟩ := I.base.slot b o e n hb hx
    obtain ⟨sl', e2⟩ := slot b _ (neL b o e) hb (neC b o e hx) e1 (I.base.free b o e n hx)
    exact ⟨sl', e2⟩
  · obtain ⟨o', e1⟩ := I.base.there b o e hx
    exact free b o' (neC b o e hx) e1 (I.base.free b o e n hx)
  · obtain ⟨o', e1⟩ := I.base.there b o e hx
    exact there b o' (neC b o e hx) e1
  · obtain ⟨m1, e1⟩ := I.base.tbls b ps e
    obtain ⟨m2, e2⟩ := tbls b _ e1
    exact ⟨m1 ++ m2, by rw [e2, Array.append_assoc]⟩
  · obtain ⟨m, hn, hl⟩ := I.loc
    refine ⟨m, ns m hn, fun i x v e1 e2 e3 => ?_⟩
    obtain ⟨u, r, l⟩ := hl i x v e1 e2 e3
    refine ⟨u, r, ?_⟩
    rcases l with l | ⟨k, c, e, z⟩
    · exact .inl l
    · exact .inr ⟨k, c, e, cellK x c e _ z⟩
  · obtain ⟨v, z⟩ := I.cell x c e
    exact ⟨v, cellK x c e v z⟩
  · obtain ⟨m, ⟨o, _, _, ho, _⟩, _⟩ := I.loc
    exact free _ o (fun z => (hch _ z).2.1 rfl) ho I.free
  · obtain ⟨v, o, ho, hd⟩ := I.cell x c e
    exact free c o (fun z => (hch c z).2.2.1 x c e rfl) ho (I.freeC x c e)
  · obtain ⟨e, n, ne, nf, d⟩ := I.pin p hp
    have nch : p.1 ∉ ch := fun z => (hch p.1 z).2.2.2 p hp rfl
    exact ⟨keep p.1 p.2 ne nf nch e n, free p.1 p.2 nch e n, ne, nf, d⟩
theorem Inv.un {t' : Nat} (I : Inv X pins σ H s) (u : Un X.fs [] H H' s.heap h') (hok : HOk X.prog X.w H' h') : Inv X pins σ H' { s with heap := h', toks := t' } := by
  obtain ⟨m, ⟨o, es, ep, ho, r⟩, _⟩ := id I.loc
  obtain ⟨sl, hL⟩ := u.any ho I.free (by simp)
  exact I.step (g' := s.gens) (d' := s.drawn) (ch := []) (fun _ z => nomatch z) (fun b o _ hb _ e n => u.keep b o e n hb (by simp)) (fun b o _ hb _ e n => u.slot b o e n hb (by simp)) (fun b o _ e n => u.free b o e n (by simp)) (fun b o _ e => u.there b o e (by simp)) u.tups u.frzs u.tbls (fun m' hm => by
    obtain ⟨o', es', ep', ho', r'⟩ := hm
    rw [ho] at ho'; cases ho'
    exact ⟨_, es', ep', hL, r'⟩) hok I.bare
theorem Inv.call {g' : Array GenState} {t' : Nat} {d' : Drawn} {ch : List Addr} (I : Inv X pins σ H s) (u : Un (frs X.stack) ch H H' s.heap h') (hok : HOk X.prog X.w H' h') (hg : AllBare g')
    (hch : ∀ b ∈ ch, (b ∈ X.ex ∨ X.s₀.heap.objs.size ≤ b) ∧ b ≠ X.env.locals ∧ (∀ x c, X.env.cells.lookup x = some c → c ≠ b) ∧ ∀ p ∈ X.pn ++ pins, p.1 ≠ b) :
    Inv X pins σ H' { s with heap := h', gens := g', drawn := d', toks := t' } := by
  obtain ⟨m, ⟨o, es, ep, ho, r⟩, _⟩ := id I.loc
  obtain ⟨sl, hL⟩ := u.any ho I.free fun z => (hch _ z).2.1 rfl
  exact I.step (ch := ch) hch (fun b o hL hb hc e n => u.keep b o e n (fun z => (List.mem_cons.mp (I.stkSub b z)).elim hL hb) hc) (fun b o _ _ hc e n => u.any e n hc) (fun b o hc e n => u.free b o e n hc) (fun b o hc e => u.there b o e hc) u.tups u.frzs u.tbls (fun m' hm => by
    obtain ⟨o', es', ep', ho', r'⟩ := hm
    rw [ho] at ho'; cases ho'
    exact ⟨_, es', ep', hL, r'⟩) hok hg
theorem Inv.turned {t' : Nat} {it : Addr} (I : Inv X pins σ H s) (k : ∀ b o, b ≠ it → s.heap.get? b = some o → h'.get? b = some o) (hn : H it = none) (hL : it ≠ X.env.locals)
    (h1 : it ∈ X.ex ∨ X.s₀.heap.objs.size ≤ it) (h2 : ∀ x c, X.env.cells.lookup x = some c → c ≠ it) (h3 : ∀ p ∈ X.pn ++ pins, p.1 ≠ it) : Inv X pins σ H { s with heap := h', toks := t' } := by
  have nit : ∀ b u, H b = some u → b ≠ it := fun b u e z => by rw [z, hn] at e; cases e
  refine I.step (g' := s.gens) (d' := s.drawn) (ch := [it]) (fun b hb => ?_) (fun b o _ _ hc e _ => k b o (fun z => hc (by simp [z])) e) (fun b o _ _ hc e _ => ⟨o.slots, k b o (fun z => hc (by simp [z])) e⟩) (fun _ _ _ _ n => n)
    (fun b o hc e => ⟨o, k b o (fun z => hc (by simp [z])) e⟩) (fun _ _ e => e) (fun _ _ _ e => e) (fun b ps e => ⟨#[], by rw [e]; simp⟩) (fun m hm => ?_) (fun b u e => ?_) I.bare
  · have e : b = it := by simpa using hb
    subst e
    exact ⟨h1, hL, h2, h3⟩
  · obtain ⟨o, es, ep, ho, r⟩ := hm
    exact ⟨o, es, ep, k _ o (Ne.symm hL) ho, r⟩
  · refine (I.hok b u e).stay (fun c v hc q => k c v ?_ q) (fun _ q => q) fun _ _ q => q
    rcases hc with z | z
    · rw [z]; exact nit b u e
    · exact nit c _ z
theorem Inv.tok (I : Inv X pins σ H s) (t : Nat) : Inv X pins σ H { s with toks := t } := I.un (h' := s.heap) (t' := t) Un.refl I.hok
theorem Inv.kept {t' : Nat} (I : Inv X pins σ H s) (k : ∀ b u, s.heap.get? b = some u → h'.get? b = some u) : Inv X pins σ H { s with heap := h', toks := t' } := I.un (Un.kept k) (I.hok.kept k)
theorem Inv.laid {a : Addr} {o : HO} {t' : Nat} (I : Inv X pins σ H s) (k : ∀ b u, s.heap.get? b = some u → h'.get? b = some u) (hp : s.heap.objs.size ≤ a) (new : ObjOk X.prog X.w (upd H a o) h' a o) :
    Inv X pins σ (upd H a o) { s with heap := h', toks := t' } := I.un (Un.laid k hp (I.hok.fresh hp)) (I.hok.laid k hp new)
theorem Inv.write {x e : Addr} {o : HO} {t' : Nat} (I : Inv X pins σ H s) (mu : Mut (H x)) (he : e = x ∨ H e = some (.own x)) (k : ∀ b u, b ≠ e → s.heap.get? b = some u → h'.get? b = some u) (heo : ∃ u, h'.get? e = some u)
    (new : ObjOk X.prog X.w (upd H x o) h' x o) : Inv X pins σ (upd H x o) { s with heap := h', toks := t' } := I.un (Un.write mu he k heo) (I.hok.write mu he k heo new)
theorem Inv.weak {σ' : List (Option V)} (I : Inv X pins σ H s) (hl : σ'.length = σ.length) (w : ∀ (i : Nat) v, σ'[i]? = some (some v) → σ[i]? = some (some v)) : Inv X pins σ' H s :=
  ⟨I.ok, I.os, I.bare, I.base, let ⟨m, hn, hl'⟩ := I.loc; ⟨m, hn, fun i x v e1 e2 e3 => hl' i x v e1 (w i v e2) e3⟩, I.cell, I.free, I.freeC, I.pin, I.hok, hl.trans I.len⟩
theorem Inv.pins_of {pins' : List (Addr × Obj)} (I : Inv X pins σ H s) (h : ∀ p ∈ pins', s.heap.get? p.1 = some p.2 ∧ H p.1 = none ∧ p.1 ≠ X.env.locals ∧ p.1 ∉ X.fs ∧ ∀ v, p.2.data ≠ .cell v) : Inv X pins' σ H s :=
  ⟨I.ok, I.os, I.bare, I.base, I.loc, I.cell, I.free, I.freeC, fun p hp => (List.mem_append.mp hp).elim (fun z => I.pin p (List.mem_append_left _ z)) (h p), I.hok, I.len⟩
theorem nodup_ix {N : List Str} (hN : N.Nodup) {i j : Nat} {x : Str} (a : N[i]? = some x) (b : N[j]? = some x) : i = j := by
  obtain ⟨h1, e1⟩ := List.getElem?_eq_some_iff.mp a
  obtain ⟨h2, e2⟩ := List.getElem?_eq_some_iff.mp b
  exact (List.getElem_inj hN).mp (e1.trans e2.symm)
theorem store_ok2 {M : Model} {A : Around} {E : Value → Shared → Prop} {i : Nat} {x : Str} {v : V} {u : Value} {Q : Unit → Shared → Prop} (I : Inv X pins σ H s) (hN : X.N.Nodup) (hi : X.N[i]? = some x) (hx : Loc X.env.scope x) (r : RelV v u)
    (h : ∀ s', Inv X pins (σ.set i (some v)) H s' → (∃ a, Heap.SameBut a s.heap s'.heap ∧ (a = X.env.locals ∨ X.env.cells.lookup x = some a)) → Q () s') (hf : X.fn x = true ∨ X.env.scope.names.lookup x = some .local := by first | exact .inl rfl | exact .inr rfl | assumption) : wpAny M A (storeName X.env x u) Q E s := by
  obtain ⟨m, hn, hl⟩ := id I.loc
  have hcls : (X.env.scope.kind == .class || (X.env.scope.kind == .module && X.env.locals != X.env.globals)) = false := by rw [I.ok.kind]; rfl
  have hiσ : i < σ.length := by rw [I.len]; exact (List.getElem?_eq_some_iff.mp hi).1
  have cne := I.cne
  have tracked : ∀ {a : Addr} {h' : Heap}, (∃ o, s.heap.get? a = some o ∧ H a = none) → Heap.SameBut a s.heap h' → HOk X.prog X.w H h' := fun {a h'} ha hs b ob e => by
    obtain ⟨_, _, hfree⟩ := ha
    refine (I.hok b ob e).stay (fun c w' hc q => (hs.2 c ?_).trans q) (fun _ q => q) fun _ _ q => q
    rintro rfl
    rcases hc with rfl | hc
    · rw [hfree] at e; cases e
    · rw [hfree] at hc; cases hc
  rcases hx with hk | hk
  · refine wpAny_storeName_local hk hn (fun h' hn' hs => ?_) hcls
    obtain ⟨oL, _, _, hoL, _⟩ := id hn
    refine h _ ⟨I.ok, I.os, I.bare, ⟨fun b o e n hb hx => ?_, fun b o e n hb hx => ?_, I.base.free, fun b o e hx => ?_, I.base.tups, I.base.frzs, I.base.tbls⟩, ⟨_, hn', fun j y v' e1 e2 e3 => ?_⟩, fun y c e => ?_, I.free, I.freeC, fun p hp => ?_, tracked ⟨oL, hoL, I.free⟩ hs, by simpa using I.len⟩ ⟨_, hs, .inl rfl⟩
    · exact (hs.2 b (Nat.ne_of_lt (Nat.lt_of_lt_of_le (Heap.lt_size e) I.ok.above))).trans (I.base.keep b o e n hb hx)
    · obtain ⟨sl, e1⟩ := I.base.slot b o e n hb hx
      exact ⟨sl, (hs.2 b (Nat.ne_of_lt (Nat.lt_of_lt_of_le (Heap.lt_size e) I.ok.above))).trans e1⟩
    · obtain ⟨o', e1⟩ := I.base.there b o e hx
      exact ⟨o', (hs.2 b (Nat.ne_of_lt (Nat.lt_of_lt_of_le (Heap.lt_size e) I.ok.above))).trans e1⟩
    · by_cases hj : j = i
      · subst hj
        rw [hi] at e1; cases e1
        rw [List.getElem?_set_self hiσ] at e2
        cases e2
        exact ⟨u, r, .inl ⟨hk, by simp⟩⟩
      · rw [List.getElem?_set_ne (Ne.symm hj)] at e2
        obtain ⟨u', r', q⟩ := hl j y v' e1 e2 e3
        refine ⟨u', r', ?_⟩
        rcases q with ⟨k, e⟩ | ⟨k, c, e, z⟩
        · refine .inl ⟨k, ?_⟩
          have : y ≠ x := fun e => hj (nodup_ix hN e1 (e ▸ hi))
          simp [this, e]
        · exact .inr ⟨k, c, e, z.sameBut hs (cne y c e)⟩
    · obtain ⟨w', z⟩ := I.cell y c e
      exact ⟨w', z.sameBut hs (cne y c e)⟩
    · obtain ⟨e, n, ne, nf, d⟩ := I.pin p hp
      exact ⟨(hs.2 p.1 ne).trans e, n, ne, nf, d⟩
  · have hfn : X.fn x = true := by
      rcases hf with z | z
      · exact z
      · rw [z] at hk; cases hk
    obtain ⟨c, hc⟩ := I.ok.has x (.inl hk)
    obtain ⟨w', z⟩ := I.cell x c hc
    refine wpAny_storeName_cell I.ok.kind hk hc z (fun h' hc' hs => ?_)
    obtain ⟨oc, hoc, hocd⟩ := id z
    refine h { s with heap := h' } ⟨I.ok, I.os, I.bare, ⟨fun b o e n hb hx => ?_, fun b o e n hb hx => ?_, I.base.free, fun b o e hx => ?_, I.base.tups, I.base.frzs, I.base.tbls⟩, ⟨m, hn.sameBut hs (Ne.symm (cne x c hc)), fun j y v' e1 e2 e3 => ?_⟩, fun y c' e => ?_, I.free, I.freeC, fun p hp => ?_, tracked ⟨oc, hoc, I.freeC x c hc⟩ hs, by simpa using I.len⟩ ⟨c, hs, .inr hc⟩
    · exact (hs.2 b (Nat.ne_of_lt (Nat.lt_of_lt_of_le (Heap.lt_size e) (I.ok.cab x c hfn hc)))).trans (I.base.keep b o e n hb hx)
    · obtain ⟨sl, e1⟩ := I.base.slot b o e n hb hx
      exact ⟨sl, (hs.2 b (Nat.ne_of_lt (Nat.lt_of_lt_of_le (Heap.lt_size e) (I.ok.cab x c hfn hc)))).trans e1⟩
    · obtain ⟨o', e1⟩ := I.base.there b o e hx
      exact ⟨o', (hs.2 b (Nat.ne_of_lt (Nat.lt_of_lt_of_le (Heap.lt_size e) (I.ok.cab x c hfn hc)))).trans e1⟩
    · by_cases hj : j = i
      · subst hj
        rw [hi] at e1; cases e1
        rw [List.getElem?_set_self hiσ] at e2
        cases e2
        exact ⟨u, r, .inr ⟨.inl hk, c, hc, hc'⟩⟩
      · rw [List.getElem?_set_ne (Ne.symm hj)] at e2
        obtain ⟨u', r', q⟩ := hl j y v' e1 e2 e3
        refine ⟨u', r', ?_⟩
        rcases q with q | ⟨k, c', e, z'⟩
        · exact .inl q
        · refine .inr ⟨k, c', e, z'.sameBut hs ?_⟩
          rintro rfl
          exact hj (nodup_ix hN e1 (I.ok.inj _ _ _ e hc ▸ hi))
    · by_cases hcc : c' = c
      · subst hcc; exact ⟨_, hc'⟩
      · obtain ⟨w2, z2⟩ := I.cell y c' e
        exact ⟨w2, z2.sameBut hs hcc⟩
    · obtain ⟨e, n, ne, nf, d⟩ := I.pin p hp
      refine ⟨(hs.2 p.1 ?_).trans e, n, ne, nf, d⟩
      intro q
      rw [q, hoc] at e
      have q' : oc = p.2 := Option.some.inj e
      exact d w' (by rw [← q']; exact hocd)
theorem store_ok {M : Model} {A : Around} {E : Value → Shared → Prop} {i : Nat} {x : Str} {v : V} {u : Value} {Q : Unit → Shared → Prop} (I : Inv X pins σ H s) (hN : X.N.Nodup) (hi : X.N[i]? = some x) (hx : Loc X.env.scope x) (r : RelV v u)
    (h : ∀ s', Inv X pins (σ.set i (some v)) H s' → Q () s') (hf : X.fn x = true ∨ X.env.scope.names.lookup x = some .local := by first | exact .inl rfl | exact .inr rfl | assumption) : wpAny M A (storeName X.env x u) Q E s :=
  store_ok2 I hN hi hx r (fun s' I' _ => h s' I') hf
theorem Inv.call' {s' : Shared} {ch : List Addr} (I : Inv X pins σ H s) (ho : s'.os = s.os) (u : Un (frs X.stack) ch H H' s.heap s'.heap) (hok : HOk X.prog X.w H' s'.heap) (hg : AllBare s'.gens)
    (hch : ∀ b ∈ ch, (b ∈ X.ex ∨ X.s₀.heap.objs.size ≤ b) ∧ b ≠ X.env.locals ∧ (∀ x c, X.env.cells.lookup x = some c → c ≠ b) ∧ ∀ p ∈ X.pn ++ pins, p.1 ≠ b) : Inv X pins σ H' s' := by
  obtain ⟨h', g', d', t', o'⟩ := s'
  have e : o' = s.os := ho
  subst e
  exact I.call (g' := g') (t' := t') (d' := d') u hok hg hch
end
abbrev XK := Value → Option Addr → Hp → Prop
abbrev St := List (Option V)
abbrev VK := V → Hp → Prop
abbrev TE := St → Hp → VK → Prop
abbrev TT := St → Hp → (Bool → Hp → Prop) → Prop
abbrev TA := St → Hp → (List V → Hp → Prop) → Prop
structure Ends where
  nx : St → Hp → Prop
  rt : VK
  bk : St → Hp → Prop := fun _ _ => False
  ct : St → Hp → Prop := fun _ _ => False
abbrev TS := Ends → St → Hp → Prop
def EP (X : Cx) (pins : List (Addr × Obj)) (σ : St) (Q : VK) (u : Value) (s' : Shared) : Prop := ∃ v H', Inv X pins σ H' s' ∧ RelV v u ∧ Q v H'
def TP (X : Cx) (pins : List (Addr × Obj)) (σ : St) (Q : Bool → Hp → Prop) (b : Bool) (s' : Shared) : Prop := ∃ H', Inv X pins σ H' s' ∧ Q b H'
def AP (X : Cx) (pins : List (Addr × Obj)) (σ : St) (Q : List V → Hp → Prop) (us : List Value) (s' : Shared) : Prop := ∃ vs H', Inv X pins σ H' s' ∧ Vals vs us ∧ Q vs H'
def SP (X : Cx) (pins : List (Addr × Obj)) (D : Ends) (f : Flow) (s' : Shared) : Prop :=
  match f with
  | .next => ∃ σ' H', Inv X pins σ' H' s' ∧ D.nx σ' H'
  | .brk => ∃ σ' H', Inv X pins σ' H' s' ∧ D.bk σ' H'
  | .cont => ∃ σ' H', Inv X pins σ' H' s' ∧ D.ct σ' H'
  | .ret u => ∃ v σ' H', Inv X pins σ' H' s' ∧ RelV v u ∧ D.rt v H'
def PE (X : Cx) (e : Expr) (t : TE) : Prop :=
  ∀ (pins : List (Addr × Obj)) (s : Shared) (σ : St) (H : Hp) (Q : VK), Inv X pins σ H s → t σ H Q → wpAny (model X.prog X.w) X.A (eval e X.env) (EP X pins σ Q) X.xe s
def PT (X : Cx) (e : Expr) (t : TT) : Prop :=
  ∀ (pins : List (Addr × Obj)) (s : Shared) (σ : St) (H : Hp) (Q : Bool → Hp → Prop), Inv X pins σ H s → t σ H Q → wpAny (model X.prog X.w) X.A (isTrue e X.env (eval e X.env)) (TP X pins σ Q) X.xe s
def PW (X : Cx) (e : Expr) (t : TT) : Prop :=
  ∀ (whole : Sem Value) (pins : List (Addr × Obj)) (s : Shared) (σ : St) (H : Hp) (Q : Bool → Hp → Prop), Inv X pins σ H s → t σ H Q → wpAny (model X.prog X.w) X.A (isTrue e X.env whole) (TP X pins σ Q) X.xe s
theorem PW.pt {X : Cx} {e : Expr} {t : TT} (h : PW X e t) : PT X e t := h _
def PA (X : Cx) (es : List Expr) (t : TA) : Prop :=
  ∀ (pos : Pos) (pins : List (Addr × Obj)) (s : Shared) (σ : St) (H : Hp) (Q : List V → Hp → Prop), Inv X pins σ H s → t σ H Q → wpAny (model X.prog X.w) X.A (spliced (backTo pos (starEach es X.env))) (AP X pins σ Q) X.xe s
def PS (X : Cx) (st : Stmt) (t : TS) : Prop :=
  ∀ (pins : List (Addr × Obj)) (s : Shared) (σ : St) (H : Hp) (D : Ends), Inv X pins σ H s → t D σ H → wpAny (model X.prog X.w) X.A (exec st X.env) (SP X pins D) X.xe s
def PSs (X : Cx) (st : List Stmt) (t : TS) : Prop :=
  ∀ (pins : List (Addr × Obj)) (s : Shared) (σ : St) (H : Hp) (D : Ends), Inv X pins σ H s → t D σ H → wpAny (model X.prog X.w) X.A (execs st X.env) (SP X pins D) X.xe s
theorem thn {α : Type} {t : Sem α} {Q Q' : α → Shared → Prop} {M : Model} {A : Around} {E : Value → Shared → Prop} {s : Shared} (h : wpAny M A t Q E s) (hQ : ∀ a s, Q a s → Q' a s) : wpAny M A t Q' E s := wpAny_mono h hQ fun _ _ x => x
end L2
namespace L2
open PySem PySem.Spec PyProof.Rows
section
variable {X : Cx}
def tVar (i : Nat) : TE := fun σ H Q => ∃ v, σ[i]? = some (some v) ∧ Q v H
def tC (v : V) : TE := fun _ H Q => Q v H
theorem pe_var {i : Nat} {x : Str} {pos : Pos} (hN : X.N[i]? = some x) (hv : Vis X.env.scope x) (hd : (x == ("__debug__" : Str)) = false := by decide) (hcd : (x == ("__classdict__" : Str)) = false := by decide) : PE X (.Name x pos) (tVar i) := by
  intro pins s σ H Q I h
  obtain ⟨v, e, h⟩ := h
  obtain ⟨m, hn, hl⟩ := I.loc
  obtain ⟨u, r, l⟩ := hl i x v hN e hv
  have fin : EP X pins σ Q u s := ⟨v, H, I, r, h⟩
  rcases l with ⟨hk, hm⟩ | ⟨hk, c, hc, hcell⟩
  · exact wpAny_Name (wpAny_loadName_local I.ok.kind hk hn hm fin) hd
  · rcases hk with hk | hk
    · exact wpAny_Name (wpAny_loadName_cell I.ok.kind hk hc hcell fin) hd
    · exact wpAny_Name (wpAny_loadName_free I.ok.kind hk hc hcell fin hcd) hd
theorem pe_int {i j pos} : PE X (.Constant (.int i) j pos) (tC (.int i)) := fun _ _ _ H _ I h => wpAny_Constant_int ⟨.int i, H, I.tok _, ⟨_, rfl⟩, h⟩
theorem pe_bl {b j pos} : PE X (.Constant (.bool b) j pos) (tC (.bl b)) := fun _ _ _ H _ I h => Constant_bool ⟨.bl b, H, I, rfl, h⟩
theorem pe_non {j pos} : PE X (.Constant .none j pos) (tC .non) := fun _ _ _ H _ I h => Constant_none ⟨.non, H, I, rfl, h⟩
theorem pe_str {x j pos} : PE X (.Constant (.str x) j pos) (tC (.str x)) := fun _ _ _ H _ I h => Calls.Constant_str ⟨.str x, H, I.tok _, ⟨_, rfl⟩, h⟩
def Gl (X : Cx) (x : Str) : Prop := X.env.kindOf x = some .globalImplicit
theorem ld_glob {E : Value → Shared → Prop} {pins : List (Addr × Obj)} {s : Shared} {σ : St} {H : Hp} {x : Str} {u : Value} {pos : Pos} {Q : Value → Shared → Prop} (I : Inv X pins σ H s) (hg : Gl X x) (hm : X.mg x = some u) (h : Q u s)
    (hd : (x == ("__debug__" : Str)) = false := by decide) : wpAny (model X.prog X.w) X.A (eval (.Name x pos) X.env) Q E s :=
  Calls.Name_function_global I.ok.kind hg (Calls.loadGlobal_global (by rw [I.ok.glob]; exact I.mod.glob.keeps I.bk) hm h) hd
theorem ld_blt {E : Value → Shared → Prop} {pins : List (Addr × Obj)} {s : Shared} {σ : St} {H : Hp} {x : Str} {u : Value} {pos : Pos} {Q : Value → Shared → Prop} (I : Inv X pins σ H s) (hg : Gl X x) (hm : X.mg x = none) (hv : bootBuiltins x = some u) (h : Q u s)
    (hn : x ≠ "__name__" := by decide) (hd : (x == ("__debug__" : Str)) = false := by decide) : wpAny (model X.prog X.w) X.A (eval (.Name x pos) X.env) Q E s := by
  obtain ⟨mb, h1, h2⟩ := I.mod.blt
  exact Calls.Name_function_global I.ok.kind hg (Calls.loadGlobal_builtin (by rw [I.ok.glob]; exact I.mod.glob.keeps I.bk) hm (by rw [I.ok.blt]; exact h1.keeps I.bk) ((h2 x hn).trans hv) h) hd
theorem pe_glob {x : Str} {v : V} {u : Value} {pos : Pos} (hg : Gl X x) (hm : X.mg x = some u) (r : RelV v u) (hd : (x == ("__debug__" : Str)) = false := by decide) : PE X (.Name x pos) (tC v) :=
  fun _ _ _ H _ I h => ld_glob I hg hm ⟨v, H, I, r, h⟩ hd
theorem pe_bltn {x : Str} {v : V} {u : Value} {pos : Pos} (hg : Gl X x) (hm : X.mg x = none) (hv : bootBuiltins x = some u) (r : RelV v u) (hn : x ≠ "__name__" := by decide) (hd : (x == ("__debug__" : Str)) = false := by decide) : PE X (.Name x pos) (tC v) :=
  fun _ _ _ H _ I h => ld_blt I hg hm hv ⟨v, H, I, r, h⟩ hn hd
variable {a b : Expr} {ta tb : TE} {pos : Pos}
def tB (t : TE) : TT := fun σ H Q => t σ H fun x H1 => ∃ c, x = .bl c ∧ Q c H1
theorem pt_val {e : Expr} {t : TE} (h : PE X e t) (he : ∀ whole, isTrue e X.env whole = (do let v ← whole; standAt e.pos; holding [v] (truthy v)) := by intro _; rfl) : PT X e (tB t) := by
  intro pins s σ H Q I hw
  refine isTrue_plain (thn (h pins s σ H _ I hw) fun v s1 ⟨x, H1, I1, r1, q1⟩ => ?_) (he _)
  obtain ⟨d, rfl, q⟩ := q1
  cases r1
  exact wpAny_truthy_bool ⟨H1, I1, q⟩
variable {tA tB' : TT} {rest : List Expr}
def tAnd (t u : TT) : TT := fun σ H Q => t σ H fun c H1 => if c = true then u σ H1 Q else Q false H1
def tOr (t u : TT) : TT := fun σ H Q => t σ H fun c H1 => if c = true then Q true H1 else u σ H1 Q
def tNot (t : TT) : TT := fun σ H Q => t σ H fun c H1 => Q (!c) H1
theorem pw_and1 (ha : PT X a tA) : PW X (.BoolOp .And [a] pos) tA := by
  intro wh pins s σ H Q I h
  refine isTrue_and (thn (ha pins s σ H Q I h) fun c s1 e => ?_)
  cases c with
  | true => exact isTrue_and_nil e
  | false => exact e
theorem pw_or1 (ha : PT X a tA) : PW X (.BoolOp .Or [a] pos) tA := by
  intro wh pins s σ H Q I h
  refine isTrue_or (thn (ha pins s σ H Q I h) fun c s1 e => ?_)
  cases c with
  | false => exact isTrue_or_nil e
  | true => exact e
theorem pw_and (ha : PT X a tA) (hb : PW X (.BoolOp .And (b :: rest) pos) tB') : PW X (.BoolOp .And (a :: b :: rest) pos) (tAnd tA tB') := by
  intro wh pins s σ H Q I h
  refine isTrue_and (thn (ha pins s σ H _ I h) fun c s1 ⟨H1, I1, q1⟩ => ?_)
  cases c with
  | true => exact hb wh pins s1 σ H1 Q I1 q1
  | false => exact ⟨H1, I1, q1⟩
theorem pw_or (ha : PT X a tA) (hb : PW X (.BoolOp .Or (b :: rest) pos) tB') : PW X (.BoolOp .Or (a :: b :: rest) pos) (tOr tA tB') := by
  intro wh pins s σ H Q I h
  refine isTrue_or (thn (ha pins s σ H _ I h) fun c s1 ⟨H1, I1, q1⟩ => ?_)
  cases c with
  | true => exact ⟨H1, I1, q1⟩
  | false => exact hb wh pins s1 σ H1 Q I1 q1
theorem pt_not (ha : PT X a tA) : PT X (.UnaryOp .Not a pos) (tNot tA) := by
  intro pins s σ H Q I h
  exact isTrue_not (ha pins s σ H (fun c H1 => Q (!c) H1) I h)
def tAndV (ta tb : TE) : TE := fun σ H Q => ta σ H fun x H1 => ∃ c, x = .bl c ∧ if c = true then tb σ H1 Q else Q (.bl false) H1
def tNotV (ta : TE) : TE := fun σ H Q => ta σ H fun x H1 => ∃ c, x = .bl c ∧ Q (.bl (!c)) H1
theorem pe_one {op} {t : TE} (h : PE X a t) : PE X (.BoolOp op [a] pos) t := fun pins s σ H Q I hw => BoolOp_one (h pins s σ H Q I hw)
theorem pe_and (ha : PE X a ta) (hb : PE X (.BoolOp .And (b :: rest) pos) tb) : PE X (.BoolOp .And (a :: b :: rest) pos) (tAndV ta tb) := by
  intro pins s σ H Q I h
  refine BoolOp_and (thn (ha pins s σ H _ I h) fun v s1 ⟨x, H1, I1, r1, q1⟩ => ?_)
  obtain ⟨c, rfl, q1⟩ := q1
  cases r1
  refine wpAny_truthy_bool ?_
  cases c with
  | true => exact hb pins s1 σ H1 Q I1 q1
  | false => exact ⟨.bl false, H1, I1, rfl, q1⟩
theorem pe_not (ha : PE X a ta) : PE X (.UnaryOp .Not a pos) (tNotV ta) := by
  intro pins s σ H Q I h
  refine UnaryOp_ (thn (ha pins s σ H _ I h) fun v s1 ⟨x, H1, I1, r1, q1⟩ => ?_)
  obtain ⟨c, rfl, q1⟩ := q1
  cases r1
  exact not_of (wpAny_truthy_bool ⟨.bl (!c), H1, I1, rfl, q1⟩)
end
end L2
namespace L2
open PySem PySem.Spec PyProof.Rows
def SqL (K : PySem.W.Frag) (H : Hp) (a : Addr) (xs : List V) : Prop :=
  Rd H a (.lst xs) ∨
    ∃ (o : Obj) (its : Array Value) (n : Nat), K.lookup a = some o ∧ o.cls = .type "list" ∧ o.dict = none ∧ o.data = .seq its n ∧ its.size ≤ sizeLine ∧ Vals xs its.toList
def SqT (K : PySem.W.Frag) (H : Hp) (a : Addr) (xs : List V) : Prop :=
  Rd H a (.tup xs) ∨
    ∃ (o : Obj) (its : Array Value) (n : Nat), K.lookup a = some o ∧ o.cls = .type "tuple" ∧ o.data = .seq its n ∧ its.size ≤ sizeLine ∧ Vals xs its.toList
def absV : Value → Option V
  | .none => some .non
  | .bool b => some (.bl b)
  | .int i _ => some (.int i)
  | .str x _ => some (.str x)
  | .bytes b _ => some (.byt b)
  | .float b _ => some (.flt b)
  | .ref a => some (.ref a)
  | .type n => some (.ty n)
  | _ => none
theorem RelV.abs {x : V} {u : Value} (r : RelV x u) : absV u = some x := by
  cases x with
  | non => cases r; rfl
  | bl _ => cases r; rfl
  | int _ => obtain ⟨t, rfl⟩ := r; rfl
  | str _ => obtain ⟨t, rfl⟩ := r; rfl
  | byt _ => obtain ⟨t, rfl⟩ := r; rfl
  | flt _ => obtain ⟨t, rfl⟩ := r; rfl
  | ref _ => cases r; rfl
  | ty _ => cases r; rfl
theorem RelV.inj {x y : V} {u : Value} (r : RelV x u) (q : RelV y u) : x = y := Option.some.inj (r.abs.symm.trans q.abs)
theorem Vals.inj : ∀ {xs ys : List V} {us : List Value}, Vals xs us → Vals ys us → xs = ys
  | _, _, _, .nil, .nil => rfl
  | _, _, _, .cons r t, .cons r' t' => by rw [r.inj r', Vals.inj t t']
section
variable {X : Cx} {pins : List (Addr × Obj)} {σ : St} {H : Hp} {s : Shared} {a : Addr} {xs ys : List V}
theorem SqL.of {K : PySem.W.Frag} (h : H a = some (.lst xs)) : SqL K H a xs := .inl (.inl h)
theorem SqT.of {K : PySem.W.Frag} (h : H a = some (.tup xs)) : SqT K H a xs := .inl (.inl h)
theorem Inv.list (I : Inv X pins σ H s) (h : SqL X.K H a xs) : ∃ its : List Value, Vals xs its ∧ PlainL s.heap a its.toArray ∧ xs.length ≤ sizeLine := by
  rcases h with h | ⟨o, its, n, hk, hc, hd, hs, hz, r⟩
  · obtain ⟨z, its, n, r, e⟩ := h.ok I.hok
    exact ⟨its, r, ⟨_, n, e, rfl, rfl, rfl⟩, z⟩
  · refine ⟨its.toList, r, ⟨o, n, I.kIn a o hk, hc, hd, by simpa using hs⟩, ?_⟩
    have e := r.length
    simp only [Array.length_toList] at e
    omega
theorem Inv.tuple (I : Inv X pins σ H s) (h : SqT X.K H a xs) : ∃ its : List Value, Vals xs its ∧ IsTup s.heap a its.toArray ∧ xs.length ≤ sizeLine := by
  rcases h with h | ⟨o, its, n, hk, hc, hs, hz, r⟩
  · obtain ⟨z, its, r, p⟩ := h.ok I.hok
    exact ⟨its, r, p, z⟩
  · refine ⟨its.toList, r, ⟨o, I.kIn a o hk, hc, n, by simpa using hs⟩, ?_⟩
    have e := r.length
    simp only [Array.length_toList] at e
    omega
theorem Inv.list_inj (I : Inv X pins σ H s) (h : SqL X.K H a xs) (h' : SqL X.K H a ys) : xs = ys := by
  obtain ⟨its, r, ⟨o, n, e, _, _, d⟩, _⟩ := I.list h
  obtain ⟨its', r', ⟨o', n', e', _, _, d'⟩, _⟩ := I.list h'
  rw [e] at e'; cases e'
  rw [d] at d'
  injection d' with d1 _
  have : its = its' := by simpa using congrArg Array.toList d1
  subst this
  exact r.inj r'
theorem Inv.tuple_inj (I : Inv X pins σ H s) (h : SqT X.K H a xs) (h' : SqT X.K H a ys) : xs = ys := by
  obtain ⟨its, r, ⟨o, e, _, n, d⟩, _⟩ := I.tuple h
  obtain ⟨its', r', ⟨o', e', _, n', d'⟩, _⟩ := I.tuple h'
  rw [e] at e'; cases e'
  rw [d] at d'
  injection d' with d1 _
  have : its = its' := by simpa using congrArg Array.toList d1
  subst this
  exact r.inj r'
end
abbrev Cx.wish (X : Cx) (E : Value → Shared → Prop) : Cx := { X with xe := E }
abbrev Cx.nox (X : Cx) : Cx := X.wish fun _ _ => False
theorem Cx.Ok.wish {X : Cx} (ok : X.Ok) (E : Value → Shared → Prop) : (X.wish E).Ok :=
  ⟨ok.mod, ok.kind, ok.glob, ok.blt, ok.above, ok.inj, ok.has, ok.cab, ok.hd, ok.frames, ok.stk, ok.exf, ok.bs, ok.bsz, ok.noex, ok.exfs, ok.funs, ok.frf⟩
theorem Cx.Ok.unwish {X : Cx} {E : Value → Shared → Prop} (ok : (X.wish E).Ok) : X.Ok :=
  ⟨ok.mod, ok.kind, ok.glob, ok.blt, ok.above, ok.inj, ok.has, ok.cab, ok.hd, ok.frames, ok.stk, ok.exf, ok.bs, ok.bsz, ok.noex, ok.exfs, ok.funs, ok.frf⟩
section
variable {X : Cx} {pins : List (Addr × Obj)} {σ : St} {H : Hp} {s : Shared} {E : Value → Shared → Prop}
theorem Inv.wish (I : Inv X pins σ H s) (E : Value → Shared → Prop) : Inv (X.wish E) pins σ H s := ⟨I.ok.wish E, I.os, I.bare, I.base, I.loc, I.cell, I.free, I.freeC, I.pin, I.hok, I.len⟩
theorem Inv.unwish (I : Inv (X.wish E) pins σ H s) : Inv X pins σ H s := ⟨I.ok.unwish, I.os, I.bare, I.base, I.loc, I.cell, I.free, I.freeC, I.pin, I.hok, I.len⟩
theorem SP.unwish {D : Ends} {f : Flow} {s' : Shared} (h : SP (X.wish E) pins D f s') : SP X pins D f s' := by
  cases f with
  | next => obtain ⟨σ', H', I, q⟩ := h; exact ⟨σ', H', I.unwish, q⟩
  | brk => obtain ⟨σ', H', I, q⟩ := h; exact ⟨σ', H', I.unwish, q⟩
  | cont => obtain ⟨σ', H', I, q⟩ := h; exact ⟨σ', H', I.unwish, q⟩
  | ret u => obtain ⟨v, σ', H', I, r, q⟩ := h; exact ⟨v, σ', H', I.unwish, r, q⟩
theorem PSs.nox {st : List Stmt} {t : TS} (h : PSs X.nox st t) : PSs X st t := fun pins s σ H D I hw =>
  wpAny_mono (h pins s σ H D (I.wish _) hw) (fun _ _ q => q.unwish) fun _ _ z => False.elim z
end
section
variable {X : Cx} {st : Stmt} {rest : List Stmt} {t u : TS} {e : Expr} {te : TE} {pos : Pos}
def tNext : TS := fun D σ H => D.nx σ H
def tSeq (t u : TS) : TS := fun D σ H => t { D with nx := u D } σ H
theorem pss_nil : PSs X [] tNext := fun _ _ σ H _ I h => wpAny_execs_nil ⟨σ, H, I, h⟩
theorem pss_cons (h1 : PS X st t) (h2 : PSs X rest u) : PSs X (st :: rest) (tSeq t u) := by
  intro pins s σ H D I h
  refine wpAny_execs_cons (thn (h1 pins s σ H { D with nx := u D } I h) fun f s1 q => ?_)
  cases f with
  | next =>
    obtain ⟨σ', H', I', q⟩ := q
    exact h2 pins s1 σ' H' D I' q
  | ret v => exact q
  | brk => exact q
  | cont => exact q
theorem pss_one (h1 : PS X st t) : PSs X [st] t := by
  intro pins s σ H D I h
  refine wpAny_execs_cons (thn (h1 pins s σ H D I h) fun f s1 q => ?_)
  cases f with
  | next => exact wpAny_execs_nil q
  | ret v => exact q
  | brk => exact q
  | cont => exact q
theorem Inv.quiet {pins : List (Addr × Obj)} {σ : St} {H : Hp} {s : Shared} (I : Inv X pins σ H s) : interactive X.env = false := by simp [interactive, I.ok.kind]
def tDrop (te : TE) : TS := fun D σ H => te σ H fun _ H1 => D.nx σ H1
theorem ps_expr (he : PE X e te) (hs : swapsWith e none pos.line X.env = pure false := by rfl) : PS X (.Expr e pos) (tDrop te) := by
  intro pins s σ H D I h
  exact wpAny_Expr_any (thn (he pins s σ H _ I h) fun v s1 ⟨x, H1, I1, r1, q1⟩ => ⟨σ, H1, I1, q1⟩) I.quiet hs
def tRet (te : TE) : TS := fun D σ H => te σ H D.rt
theorem ps_ret (he : PE X e te) : PS X (.Return (some e) pos) (tRet te) := by
  intro pins s σ H D I h
  exact wpAny_Return_some (thn (he pins s σ H _ I h) fun v s1 ⟨x, H1, I1, r1, q1⟩ => ⟨x, σ, H1, I1, r1, q1⟩)
def tIfS (c : TT) (t u : TS) : TS := fun D σ H => c σ H fun b H1 => if b = true then t D σ H1 else u D σ H1
theorem ps_if {c : Expr} {a b : List Stmt} {tc : TT} (hc : PT X c tc) (ha : PSs X a t) (hb : PSs X b u) : PS X (.If c a b pos) (tIfS tc t u) := by
  intro pins s σ H D I h
  refine wpAny_If (thn (hc pins s σ H _ I h) fun d s1 ⟨H1, I1, q1⟩ => ?_)
  cases d with
  | true => exact ha pins s1 σ H1 D I1 q1
  | false => exact hb pins s1 σ H1 D I1 q1
def tNever : TS := fun _ _ _ => False
theorem pss_never {sts : List Stmt} : PSs X sts tNever := fun _ _ _ _ _ _ h => h.elim
end
abbrev TG := V → St → Hp → (St → Hp → Prop) → Prop
def PG (X : Cx) (target : Expr) (t : TG) : Prop :=
  ∀ (pins : List (Addr × Obj)) (s : Shared) (σ : St) (H : Hp) (v : V) (u : Value) (Q : St → Hp → Prop), Inv X pins σ H s → RelV v u → t v σ H Q →
    wpAny (model X.prog X.w) X.A (assign target X.env u) (fun _ s' => ∃ σ' H', Inv X pins σ' H' s' ∧ Q σ' H') X.xe s
section
variable {X : Cx} {pos : Pos}
def gName (i : Nat) : TG := fun v σ H Q => Q (σ.set i (some v)) H
theorem pg_name {i : Nat} {x : Str} (hN : X.N.Nodup) (hi : X.N[i]? = some x) (hx : Loc X.env.scope x) (hf : X.fn x = true ∨ X.env.scope.names.lookup x = some .local := by first | exact .inl rfl | exact .inr rfl | assumption) : PG X (.Name x pos) (gName i) := by
  intro pins s σ H v u Q I r h
  exact wpAny_assign_Name (store_ok I hN hi hx r (fun s' I' => ⟨_, H, I', h⟩) hf)
def tAsg (te : TE) (g : TG) : TS := fun D σ H => te σ H fun x H1 => g x σ H1 D.nx
theorem ps_set {i : Nat} {x : Str} {e : Expr} {te : TE} {pos' : Pos} (hN : X.N.Nodup) (hi : X.N[i]? = some x) (hx : Loc X.env.scope x) (he : PE X e te) (hs : swapsWith e (some (.Name x pos')) pos.line X.env = pure false := by rfl) (hf : X.fn x = true ∨ X.env.scope.names.lookup x = some .local := by first | exact .inl rfl | exact .inr rfl | assumption) :
    PS X (.Assign [.Name x pos'] e pos) (tAsg te (gName i)) := by
  intro pins s σ H D I h
  refine wpAny_Assign_Name (thn (he pins s σ H _ I h) fun v s1 ⟨y, H1, I1, r1, q1⟩ => ?_) hs
  exact store_ok I1 hN hi hx r1 (fun s2 I2 => ⟨_, H1, I2, q1⟩) hf
end
section
variable {X : Cx} {pos : Pos}
def tWhile (c : TT) (tb : TS) : TS := fun D σ H => ∃ W : Nat → St → Hp → Prop, (∃ m, W m σ H) ∧ ∀ m σ H, W m σ H →
  c σ H fun b H1 => if b = true then ∃ N : St → Hp → Prop, (∀ σ' H', N σ' H' → ∃ m', m' < m ∧ W m' σ' H') ∧ tb { D with nx := N, ct := N, bk := D.nx } σ H1 else D.nx σ H1
theorem ps_while {c : Expr} {body : List Stmt} {tc : TT} {tb : TS} (hp : PassesOwn (model X.prog X.w) X.A X.env X.xe) (hc : PT X c tc) (hb : PSs X body tb) : PS X (.While c body [] pos) (tWhile tc tb) := by
  intro pins s σ H D I h
  obtain ⟨W, ⟨m0, w0⟩, turn⟩ := h
  refine wpAny_While (codeAny_whileLoop (fun n s' => ∃ σ' H', Inv X pins σ' H' s' ∧ W n σ' H') ?_ m0 ⟨σ, H, I, w0⟩)
  rintro n s1 ⟨σ1, H1, I1, w1⟩
  refine wpAny_passesOwn hp (thn (hc pins s1 σ1 H1 _ I1 (turn n σ1 H1 w1)) fun b s2 ⟨H2, I2, q2⟩ => ?_)
  cases b with
  | true =>
    obtain ⟨N, hN, q2⟩ := q2
    rw [if_pos rfl]
    refine wpAny_passesOwn hp (thn (hb pins s2 σ1 H2 _ I2 q2) fun f s3 q3 => ?_)
    cases f with
    | next =>
      obtain ⟨σ3, H3, I3, n3⟩ := q3
      obtain ⟨m', hm, w3⟩ := hN σ3 H3 n3
      exact ⟨m', hm, σ3, H3, I3, w3⟩
    | cont =>
      obtain ⟨σ3, H3, I3, n3⟩ := q3
      obtain ⟨m', hm, w3⟩ := hN σ3 H3 n3
      exact ⟨m', hm, σ3, H3, I3, w3⟩
    | brk => exact q3
    | ret v => exact q3
  | false =>
    rw [if_neg Bool.false_ne_true]
    exact wpAny_execs_nil ⟨σ1, H2, I2, q2⟩
end
structure It where
  go : Nat → Hp → Prop
  yld : Nat → Hp → V → Hp → Prop
  stop : Nat → Hp → Prop
def FpOk (X : Cx) (pins : List (Addr × Obj)) (H : Hp) (b : Addr) : Prop :=
  H b = none ∧ b ≠ X.env.locals ∧ b ∉ X.fs ∧ (b ∈ X.ex ∨ X.s₀.heap.objs.size ≤ b) ∧ (∀ x c, X.env.cells.lookup x = some c → c ≠ b) ∧ ∀ p ∈ X.pn ++ pins, p.1 ≠ b
theorem Inv.fpOk {X : Cx} {pins : List (Addr × Obj)} {σ : St} {H H' : Hp} {s : Shared} {b : Addr} (I : Inv X pins σ H s) (hb : s.heap.objs.size ≤ b) (hn : H' b = none) : FpOk X pins H' b := by
  refine ⟨hn, Nat.ne_of_gt (Nat.lt_of_lt_of_le I.lt hb), I.nofs hb, .inr (Nat.le_trans I.sz hb), fun x c e z => ?_, fun p hp z => ?_⟩
  · obtain ⟨v, q⟩ := I.cell x c e
    exact absurd (Nat.lt_of_lt_of_le q.lt (by rw [z]; exact hb)) (Nat.lt_irrefl _)
  · exact absurd (Nat.lt_of_lt_of_le (Heap.lt_size (I.pin p hp).1) (by rw [z]; exact hb)) (Nat.lt_irrefl _)
structure Turn (P : Program) (w : World) (K : PySem.W.Frag) (tg : Expr) (J : It) (fp : List Addr) (it : Addr) (tn : Nat → Heap → Prop) : Prop where
  mem : it ∈ fp
  obj : ∀ i h, tn i h → ∀ b ∈ fp, ∃ o, h.get? b = some o ∧ ∀ v, o.data ≠ .cell v
  keep : ∀ i h h', tn i h → (∀ b ∈ fp, ∀ o, h.get? b = some o → h'.get? b = some o) → tn i h'
  item : ∀ (X : Cx), X.prog = P → X.w = w → X.K = K → X.calm = true → ∀ (i : Nat) (pins : List (Addr × Obj)) (s : Shared) (σ : St) (H : Hp) (E : Value → Shared → Prop), Inv X pins σ H s → (∀ b ∈ fp, FpOk X pins H b) → tn i s.heap → J.go i H →
    wpAny (model P w) X.A (pyNext (.ref it)) (fun r s1 => ∃ u, r = some u ∧
      wpAny (model P w) X.A (letOwnedTupleGo tg (.ref it) u) (fun _ s2 => ∃ x H', Inv X pins σ H' s2 ∧ RelV x u ∧ J.yld i H x H' ∧ tn (i + 1) s2.heap ∧ ∀ b ∈ fp, H' b = none) E s1) E s
  done : ∀ (X : Cx), X.prog = P → X.w = w → X.K = K → X.calm = true → ∀ (i : Nat) (pins : List (Addr × Obj)) (s : Shared) (σ : St) (H : Hp) (E : Value → Shared → Prop), Inv X pins σ H s → (∀ b ∈ fp, FpOk X pins H b) → tn i s.heap → J.stop i H →
    wpAny (model P w) X.A (pyNext (.ref it)) (fun r s1 => r = none ∧ Inv X pins σ H s1) E s
  self : ∀ (A : Around) (i : Nat) (s : Shared) (Q : Value → Shared → Prop) (E : Value → Shared → Prop), tn i s.heap → Q (.ref it) s → wpAny (model P w) A (pyIter (.ref it)) Q E s
abbrev TI := St → Hp → (It → Hp → Prop) → Prop
def PIE (X : Cx) (pins : List (Addr × Obj)) (σ : St) (tg : Expr) (R : It → Hp → Prop) (itv : Value) (s2 : Shared) : Prop :=
  ∃ (it : Addr) (fp : List Addr) (tn : Nat → Heap → Prop) (J : It) (H' : Hp), itv = .ref it ∧ Inv X pins σ H' s2 ∧ Turn X.prog X.w X.K tg J fp it tn ∧ tn 0 s2.heap ∧ (∀ b ∈ fp, FpOk X pins H' b) ∧ R J H'
def PI (X : Cx) (tg iter : Expr) (wi : TI) : Prop :=
  ∀ (pins : List (Addr × Obj)) (s : Shared) (σ : St) (H : Hp) (R : It → Hp → Prop), Inv X pins σ H s → wi σ H R →
    wpAny (model X.prog X.w) X.A (eval iter X.env) (fun v s1 => wpAny (model X.prog X.w) X.A (pyIter v) (PIE X pins σ tg R) X.xe s1) X.xe s
theorem go_of {M : Model} {A : Around} {E : Value → Shared → Prop} {s : Shared} {tg : Expr} {it : Addr} {u : Value} {o : Obj} {n : String} {vs : Array Value} {Q : Unit → Shared → Prop} (ho : s.heap.get? it = some o) (hc : o.cls = .type n) (hd : o.data = .fields vs)
    (hn : ["enumerate", "zip", "dict_itemiterator", "dict_reverseitemiterator", "odict_iterator", "itertools.zip_longest", "itertools.pairwise"].contains n = false) (hQ : Q () s) : wpAny M A (letOwnedTupleGo tg (.ref it) u) Q E s := by
  unfold letOwnedTupleGo
  cases tg <;> first
    | exact wpAny_pure hQ
    | (cases u <;> first
        | exact wpAny_pure hQ
        | (refine wpAny_bind (wpAny_load ho ?_)
           rw [hc, hd]
           show wpAny M A (if (["enumerate", "zip", "dict_itemiterator", "dict_reverseitemiterator", "odict_iterator", "itertools.zip_longest", "itertools.pairwise"].contains n && vs[0]? == some (rawInt _)) = true then _ else _) Q E s
           rw [if_neg (by intro h; rw [hn, Bool.false_and] at h; cases h)]
           exact wpAny_pure hQ))
def Itl (K : PySem.W.Frag) (a : Addr) : It :=
  ⟨fun i H => ∃ xs x, SqL K H a xs ∧ xs[i]? = some x, fun i H x H' => H' = H ∧ ∀ xs, SqL K H a xs → xs[i]? = some x, fun i H => ∃ xs, SqL K H a xs ∧ xs.length ≤ i⟩
def Itt (K : PySem.W.Frag) (a : Addr) : It :=
  ⟨fun i H => ∃ xs x, SqT K H a xs ∧ xs[i]? = some x, fun i H x H' => H' = H ∧ ∀ xs, SqT K H a xs → xs[i]? = some x, fun i H => ∃ xs, SqT K H a xs ∧ xs.length ≤ i⟩
def Itr (lo : Int) (n : Nat) : It := ⟨fun i _ => i < n, fun i H x H' => H' = H ∧ x = .int (lo + i), fun i _ => n ≤ i⟩
theorem turn_list {P : Program} {w : World} {K : PySem.W.Frag} {tg : Expr} (a it : Addr) : Turn P w K tg (Itl K a) [it] it (fun i h => h.IsListIter it a i) where
  mem := by simp
  obj := fun i h st b hb => by
    have e : b = it := by simpa using hb
    subst e
    obtain ⟨o, e, c, d⟩ := st
    exact ⟨o, e, fun v z => by rw [d] at z; cases z⟩
  keep := fun i h h' st k => st.at fun o e => k it (by simp) o e
  item := by
    intro X hP hw hK hc i pins s σ H E I hf st hg
    subst hP hw hK
    obtain ⟨xs, x, hq, hx⟩ := hg
    obtain ⟨its, rv, p, hz⟩ := I.list hq
    obtain ⟨u, hu, ru⟩ := rv.get hx
    obtain ⟨f0, f1, f2, f3, f4, f5⟩ := hf it (by simp)
    refine wpAny_pyNext_list_item st p.isList (x := u) (by simpa using hu) fun h' st' sb => ?_
    have I1 : Inv X pins σ H { s with heap := h' } := I.turned (t' := s.toks) (fun b o hb e => (sb.2 b hb).trans e) f0 f1 f3 f4 f5
    obtain ⟨o, e, c, d⟩ := id st'
    exact ⟨u, rfl, go_of (s := { s with heap := h' }) e c d (by decide) ⟨x, H, I1, ru, ⟨rfl, fun ys hy => by rw [I.list_inj hy hq]; exact hx⟩, st', fun b hb => (hf b hb).1⟩⟩
  done := by
    intro X hP hw hK hc i pins s σ H E I hf st hg
    subst hP hw hK
    obtain ⟨xs, hq, hx⟩ := hg
    obtain ⟨its, rv, p, hz⟩ := I.list hq
    obtain ⟨f0, f1, f2, f3, f4, f5⟩ := hf it (by simp)
    have hl := rv.length
    exact wpAny_pyNext_list_end (I.ok.hd hc) st p.isList (by simp; omega) fun h' eb => ⟨rfl, I.turned (t' := s.toks) (fun b o hb e => eb b o hb e) f0 f1 f3 f4 f5⟩
  self := fun _ _ _ _ _ st h => wpAny_pyIter_listiter st h
theorem turn_tuple {P : Program} {w : World} {K : PySem.W.Frag} {tg : Expr} (a it : Addr) : Turn P w K tg (Itt K a) [it] it (fun i h => h.IsTupleIter it a i) where
  mem := by simp
  obj := fun i h st b hb => by
    have e : b = it := by simpa using hb
    subst e
    obtain ⟨o, e, c, d⟩ := st
    exact ⟨o, e, fun v z => by rw [d] at z; cases z⟩
  keep := fun i h h' st k => st.at fun o e => k it (by simp) o e
  item := by
    intro X hP hw hK hc i pins s σ H E I hf st hg
    subst hP hw hK
    obtain ⟨xs, x, hq, hx⟩ := hg
    obtain ⟨its, rv, p, hz⟩ := I.tuple hq
    obtain ⟨u, hu, ru⟩ := rv.get hx
    obtain ⟨f0, f1, f2, f3, f4, f5⟩ := hf it (by simp)
    refine wpAny_pyNext_tuple_item st (show s.heap.IsTuple a its.toArray from p) (x := u) (by simpa using hu) fun h' st' sb => ?_
    have I1 : Inv X pins σ H { s with heap := h' } := I.turned (t' := s.toks) (fun b o hb e => (sb.2 b hb).trans e) f0 f1 f3 f4 f5
    obtain ⟨o, e, c, d⟩ := id st'
    exact ⟨u, rfl, go_of (s := { s with heap := h' }) e c d (by decide) ⟨x, H, I1, ru, ⟨rfl, fun ys hy => by rw [I.tuple_inj hy hq]; exact hx⟩, st', fun b hb => (hf b hb).1⟩⟩
  done := by
    intro X hP hw hK hc i pins s σ H E I hf st hg
    subst hP hw hK
    obtain ⟨xs, hq, hx⟩ := hg
    obtain ⟨its, rv, p, hz⟩ := I.tuple hq
    obtain ⟨f0, f1, f2, f3, f4, f5⟩ := hf it (by simp)
    have hl := rv.length
    exact wpAny_pyNext_tuple_end (I.ok.hd hc) st (show s.heap.IsTuple a its.toArray from p) (by simp; omega) fun h' eb => ⟨rfl, I.turned (t' := s.toks) (fun b o hb e => eb b o hb e) f0 f1 f3 f4 f5⟩
  self := fun _ _ _ _ _ st h => wpAny_pyIter_tupleiter st h
theorem turn_range {P : Program} {w : World} {K : PySem.W.Frag} {tg : Expr} (it : Addr) (lo : Int) (n : Nat) : Turn P w K tg (Itr lo n) [it] it (fun i h => IsRangeIter h it (lo + (i : Nat) * 1) ((n : Int) - (i : Nat)) 1) where
  mem := by simp
  obj := fun i h st b hb => by
    have e : b = it := by simpa using hb
    subst e
    exact ⟨_, st, fun v z => by
      have z' : Data.fields _ = Data.cell v := z
      cases z'⟩
  keep := fun i h h' st k => k it (by simp) _ st
  item := by
    intro X hP hw hK hc i pins s σ H E I hf st hg
    subst hP hw hK
    obtain ⟨f0, f1, f2, f3, f4, f5⟩ := hf it (by simp)
    have W := Walks.range (prog := X.prog) (w := X.w) (I.ok.hd hc) it lo 1 n
    refine W.item i s _ _ hg st fun v h' tk hv st' kk => ?_
    obtain ⟨t, rfl⟩ := hv
    have I1 : Inv X pins σ H { s with heap := h', toks := tk } := I.turned (fun b o hb e => kk b o (by simpa using hb) e) f0 f1 f3 f4 f5
    refine ⟨_, rfl, go_of (s := { s with heap := h', toks := tk }) (n := "range_iterator") st' rfl rfl (by decide) ⟨.int (lo + i), H, I1, ⟨t, ?_⟩, ⟨rfl, rfl⟩, st', fun b hb => (hf b hb).1⟩⟩
    rw [Int.mul_one]
  done := by
    intro X hP hw hK hc i pins s σ H E I hf st hg
    subst hP hw hK
    obtain ⟨f0, f1, f2, f3, f4, f5⟩ := hf it (by simp)
    exact wpAny_pyNext_range_end (I.ok.hd hc) st (by have : n ≤ i := hg; omega) fun h' eb => ⟨rfl, I.turned (t' := s.toks) (fun b o hb e => eb b o hb e) f0 f1 f3 f4 f5⟩
  self := fun _ _ _ _ _ st h => wpAny_pyIter_rangeiter st h
end L2
namespace L2
open PySem PySem.Spec PyProof.Rows
section
variable {X : Cx} {tg : Expr}
def iList (K : PySem.W.Frag) (tl : TE) : TI := fun σ H R => tl σ H fun x H1 => ∃ a, x = .ref a ∧ (∃ xs, SqL K H1 a xs) ∧ R (Itl K a) H1
def iTup (K : PySem.W.Frag) (tl : TE) : TI := fun σ H R => tl σ H fun x H1 => ∃ a, x = .ref a ∧ (∃ xs, SqT K H1 a xs) ∧ R (Itt K a) H1
theorem pi_list {l : Expr} {tl : TE} (hl : PE X l tl) : PI X tg l (iList X.K tl) := by
  intro pins s σ H R I h
  refine thn (hl pins s σ H _ I h) fun v s1 ⟨x, H1, I1, r1, q1⟩ => ?_
  obtain ⟨a, e, ⟨xs, hq⟩, q⟩ := q1
  subst e
  cases r1
  obtain ⟨its, rv, p, hz⟩ := I1.list hq
  refine wpAny_pyIter_list p.isList ?_
  refine ⟨s1.heap.objs.size, [s1.heap.objs.size], _, _, H1, rfl, I1.kept (t' := s1.toks) fun b o e => Heap.get?_push_of_some _ e, turn_list a _, ⟨_, Heap.get?_push_size _ rfl, rfl, rfl⟩, fun b hb => ?_, q⟩
  have e : b = s1.heap.objs.size := by simpa using hb
  subst e
  exact I1.fpOk (Nat.le_refl _) (I1.hok.fresh (Nat.le_refl _))
theorem pi_tup {l : Expr} {tl : TE} (hl : PE X l tl) : PI X tg l (iTup X.K tl) := by
  intro pins s σ H R I h
  refine thn (hl pins s σ H _ I h) fun v s1 ⟨x, H1, I1, r1, q1⟩ => ?_
  obtain ⟨a, e, ⟨xs, hq⟩, q⟩ := q1
  subst e
  cases r1
  obtain ⟨its, rv, p, hz⟩ := I1.tuple hq
  refine wpAny_pyIter_tuple (show s1.heap.IsTuple a its.toArray from p) ?_
  refine ⟨s1.heap.objs.size, [s1.heap.objs.size], _, _, H1, rfl, I1.kept (t' := s1.toks) fun b o e => Heap.get?_push_of_some _ e, turn_tuple a _, ⟨_, Heap.get?_push_size _ rfl, rfl, rfl⟩, fun b hb => ?_, q⟩
  have e : b = s1.heap.objs.size := by simpa using hb
  subst e
  exact I1.fpOk (Nat.le_refl _) (I1.hok.fresh (Nat.le_refl _))
theorem range_it {pins : List (Addr × Obj)} {σ : St} {H : Hp} {s : Shared} {R : It → Hp → Prop} {E : Value → Shared → Prop} {lo hi : Int} {t u v : Tok} {tk : Nat} (I : Inv X pins σ H s) (h1 : -(2 ^ 62) ≤ lo) (h2 : lo < 2 ^ 62) (h3 : -(2 ^ 62) ≤ hi) (h4 : hi < 2 ^ 62)
    (q : R (Itr lo (hi - lo).toNat) H) : wpAny (model X.prog X.w) X.A (pyIter (.ref s.heap.objs.size)) (PIE X pins σ tg R) E { s with heap := s.heap.push { cls := .type "range", data := .fields #[.int lo t, .int hi u, .int 1 v] }, toks := tk } := by
  refine wpAny_pyIter_range (IsRange.new ..) (small_one h1 h2 h3 h4) ?_
  have I1 : Inv X pins σ H { s with heap := s.heap.push { cls := .type "range", data := .fields #[.int lo t, .int hi u, .int 1 v] }, toks := tk } := I.kept fun b o e => Heap.get?_push_of_some _ e
  refine ⟨(s.heap.push { cls := .type "range", data := .fields #[.int lo t, .int hi u, .int 1 v] }).objs.size, [(s.heap.push { cls := .type "range", data := .fields #[.int lo t, .int hi u, .int 1 v] }).objs.size], _, _, H, rfl,
    I1.kept (t' := tk) fun b o e => Heap.get?_push_of_some _ e, turn_range _ lo (hi - lo).toNat, ?_, fun b hb => ?_, q⟩
  · have e1 : lo + ((0 : Nat) : Int) * 1 = lo := by simp
    have e2 : (((hi - lo).toNat : Nat) : Int) - ((0 : Nat) : Int) = Builtin.Range.rangeSize lo hi 1 := by rw [rangeSize_one]; split <;> omega
    show IsRangeIter _ _ (lo + ((0 : Nat) : Int) * 1) ((((hi - lo).toNat : Nat) : Int) - ((0 : Nat) : Int)) 1
    rw [e1, e2]
    exact Heap.get?_push_size _ rfl
  · have e : b = (s.heap.push { cls := .type "range", data := .fields #[.int lo t, .int hi u, .int 1 v] }).objs.size := by simpa using hb
    subst e
    exact I1.fpOk (Nat.le_refl _) (I1.hok.fresh (Nat.le_refl _))
def iRng1 (ta : TA) : TI := fun σ H R => ta σ H fun vs H1 => ∃ j : Int, vs = [.int j] ∧ -(2 ^ 62) ≤ j ∧ j < 2 ^ 62 ∧ R (Itr 0 j.toNat) H1
theorem pi_range1 {a : Expr} {ta : TA} {p pos : Pos} (hg : Gl X "range") (hm : X.mg "range" = none) (ha : PA X [a] ta) (hs : starEach [a] X.env = [(false, eval a X.env)] := by rfl) : PI X tg (.Call (.Name "range" p) [a] [] pos) (iRng1 ta) := by
  intro pins s σ H R I h
  refine Call_ (ld_blt I hg hm boot_range (PyProof.Rows.callWith_type1 (thn (ha pos pins s σ H _ I h) fun us s1 ⟨vs, H1, I1, r1, q1⟩ => ?_) hs rfl))
  obtain ⟨j, e, q1, q2, q⟩ := q1
  subst e
  cases r1 with
  | cons r rr =>
    cases rr
    obtain ⟨t, rfl⟩ := r
    exact call_range_1 (range_it I1 (by omega) (by omega) q1 q2 (by simpa using q))
def tFor (wi : TI) (g : TG) (tb : TS) : TS := fun D σ H => wi σ H fun J H1 => ∃ W : Nat → Nat → St → Hp → Prop, (∃ m, W 0 m σ H1) ∧ ∀ i m σ H, W i m σ H →
  (J.stop i H ∧ D.nx σ H) ∨ (J.go i H ∧ ∃ N : St → Hp → Prop, (∀ σ' H', N σ' H' → ∃ m', m' < m ∧ W (i + 1) m' σ' H') ∧ ∀ x H', J.yld i H x H' → g x σ H' fun σ2 H2 => tb { D with nx := N, ct := N, bk := D.nx } σ2 H2)
def pinsAt (fp : List Addr) (h : Heap) : List (Addr × Obj) := fp.filterMap fun b => (h.get? b).map fun o => (b, o)
theorem mem_pinsAt {fp : List Addr} {h : Heap} {b : Addr} {o : Obj} (hb : b ∈ fp) (e : h.get? b = some o) : (b, o) ∈ pinsAt fp h := List.mem_filterMap.mpr ⟨b, hb, by rw [e]; rfl⟩
theorem of_pinsAt {fp : List Addr} {h : Heap} {p : Addr × Obj} (hp : p ∈ pinsAt fp h) : p.1 ∈ fp ∧ h.get? p.1 = some p.2 := by
  obtain ⟨b, hb, e⟩ := List.mem_filterMap.mp hp
  cases q : h.get? b with
  | none => rw [q] at e; cases e
  | some o =>
    rw [q] at e
    have e' : (b, o) = p := Option.some.inj e
    subst e'
    exact ⟨hb, q⟩
theorem Inv.pinned {pins : List (Addr × Obj)} {σ : St} {H : Hp} {s : Shared} {fp : List Addr} (I : Inv X pins σ H s) (hf : ∀ b ∈ fp, FpOk X pins H b) (ho : ∀ b ∈ fp, ∃ o, s.heap.get? b = some o ∧ ∀ v, o.data ≠ .cell v) : Inv X (pins ++ pinsAt fp s.heap) σ H s :=
  I.pins_of fun p hp => (List.mem_append.mp hp).elim (fun z => I.pin p (List.mem_append_right _ z)) fun z => by
    obtain ⟨hb, e⟩ := of_pinsAt z
    obtain ⟨f0, f1, f2, _⟩ := hf p.1 hb
    obtain ⟨o, e', d⟩ := ho p.1 hb
    rw [e] at e'; cases e'
    exact ⟨e, f0, f1, f2, d⟩
theorem Inv.unpinned {pins pl : List (Addr × Obj)} {σ : St} {H : Hp} {s : Shared} (I : Inv X (pins ++ pl) σ H s) : Inv X pins σ H s := I.pins_of fun p hp => I.pin p (List.mem_append_right _ (List.mem_append_left _ hp))
theorem ps_for {iter : Expr} {body : List Stmt} {wi : TI} {g : TG} {tb : TS} {pos : Pos} (hp : PassesOwn (model X.prog X.w) X.A X.env X.xe) (hc : X.calm = true) (hi : PI X tg iter wi) (hg : PG X tg g) (hb : PSs X body tb)
    (hs : ∀ x, foldedSetIterable iter X.env x = pure x := by intro _; rfl) : PS X (.For tg iter body [] pos) (tFor wi g tb) := by
  intro pins s σ H D I h
  refine wpAny_For (thn (hi pins s σ H _ I h) fun v s1 h1 => thn h1 fun itv s2 h2 => ?_) hs
  obtain ⟨it, fp, tn, J, H2, e, I2, T, st2, f2, W, ⟨m0, w0⟩, turn⟩ := h2
  subst e
  have stat : ∀ {H' : Hp}, (∀ b ∈ fp, H' b = none) → ∀ b ∈ fp, FpOk X pins H' b := fun hn b hb => ⟨hn b hb, (f2 b hb).2⟩
  refine codeAny_forLoop_any (fun n s' => ∃ i σ' H', Inv X pins σ' H' s' ∧ tn i s'.heap ∧ (∀ b ∈ fp, H' b = none) ∧ W i n σ' H') ?_ m0 ⟨0, σ, H2, I2, st2, fun b hb => (f2 b hb).1, w0⟩
  rintro n s3 ⟨i, σ3, H3, I3, st3, fr3, w3⟩
  rcases turn i n σ3 H3 w3 with ⟨stop, qn⟩ | ⟨go, N, hN, step⟩
  · refine wpAny_passesOwn hp (thn (T.done X rfl rfl rfl hc i pins s3 σ3 H3 X.xe I3 (stat fr3) st3 stop) fun r s4 ⟨hr, I4⟩ => ?_)
    subst hr
    exact wpAny_execs_nil ⟨σ3, H3, I4, qn⟩
  · refine wpAny_passesOwn hp (thn (T.item X rfl rfl rfl hc i pins s3 σ3 H3 X.xe I3 (stat fr3) st3 go) fun r s4 ⟨u, hr, h4⟩ => ?_)
    subst hr
    refine wpAny_passesOwn hp (thn h4 fun _ s5 ⟨x, H5, I5, r5, y5, st5, fr5⟩ => ?_)
    have I5' := I5.pinned (stat fr5) (T.obj _ _ st5)
    refine wpAny_passesOwn hp (thn (hg _ s5 σ3 H5 x u _ I5' r5 (step x H5 y5)) fun _ s6 ⟨σ6, H6, I6, q6⟩ => ?_)
    refine wpAny_passesOwn hp (thn (hb _ s6 σ6 H6 _ I6 q6) fun f s7 q7 => ?_)
    have again : ∀ {σ7 : St} {H7 : Hp}, Inv X (pins ++ pinsAt fp s5.heap) σ7 H7 s7 → N σ7 H7 → ∃ m, m < n ∧ ∃ i σ' H', Inv X pins σ' H' s7 ∧ tn i s7.heap ∧ (∀ b ∈ fp, H' b = none) ∧ W i m σ' H' := fun {σ7 H7} I7 n7 => by
      obtain ⟨m', hm, w7⟩ := hN σ7 H7 n7
      refine ⟨m', hm, i + 1, σ7, H7, I7.unpinned, T.keep _ _ _ st5 fun b hb o e => (I7.pin (b, o) (List.mem_append_right _ (List.mem_append_right _ (mem_pinsAt hb e)))).1, fun b hb => ?_, w7⟩
      obtain ⟨o, e, d⟩ := T.obj _ _ st5 b hb
      exact (I7.pin (b, o) (List.mem_append_right _ (List.mem_append_right _ (mem_pinsAt hb e)))).2.1
    cases f with
    | next => obtain ⟨σ7, H7, I7, n7⟩ := q7; exact again I7 n7
    | cont => obtain ⟨σ7, H7, I7, n7⟩ := q7; exact again I7 n7
    | brk => obtain ⟨σ7, H7, I7, q7⟩ := q7; exact ⟨σ7, H7, I7.unpinned, q7⟩
    | ret v => obtain ⟨x7, σ7, H7, I7, r7, q7⟩ := q7; exact ⟨x7, σ7, H7, I7.unpinned, r7, q7⟩
end
theorem for_list {K : PySem.W.Frag} {a : Addr} {xs : List V} {g : TG} {tb : TS} {D : Ends} {σ : St} {H : Hp} (Pv : Nat → St → Hp → Prop) (h0 : Pv 0 σ H) (hl : ∀ i σ H, i ≤ xs.length → Pv i σ H → SqL K H a xs)
    (hs : ∀ i x σ H, xs[i]? = some x → Pv i σ H → g x σ H fun σ2 H2 => tb { D with nx := Pv (i + 1), ct := Pv (i + 1), bk := D.nx } σ2 H2) (hd : ∀ σ H, Pv xs.length σ H → D.nx σ H) :
    ∃ W : Nat → Nat → St → Hp → Prop, (∃ m, W 0 m σ H) ∧ ∀ i m σ H, W i m σ H →
      ((Itl K a).stop i H ∧ D.nx σ H) ∨ ((Itl K a).go i H ∧ ∃ N : St → Hp → Prop, (∀ σ' H', N σ' H' → ∃ m', m' < m ∧ W (i + 1) m' σ' H') ∧ ∀ x H', (Itl K a).yld i H x H' → g x σ H' fun σ2 H2 => tb { D with nx := N, ct := N, bk := D.nx } σ2 H2) := by
  refine ⟨fun i m σ H => m = xs.length - i ∧ i ≤ xs.length ∧ Pv i σ H, ⟨xs.length, by simp, Nat.zero_le _, h0⟩, ?_⟩
  rintro i m σ H ⟨rfl, hi, p⟩
  have q := hl i σ H hi p
  by_cases hlt : i < xs.length
  · refine .inr ⟨⟨xs, xs[i], q, by simp [hlt]⟩, Pv (i + 1), fun σ' H' p' => ⟨xs.length - (i + 1), by omega, rfl, hlt, p'⟩, fun x H' y => ?_⟩
    obtain ⟨e, y⟩ := y
    subst e
    exact hs i x σ _ (y xs q) p
  · have e : i = xs.length := by omega
    subst e
    exact .inl ⟨⟨xs, q, Nat.le_refl _⟩, hd σ H p⟩
theorem for_range {lo : Int} {n : Nat} {g : TG} {tb : TS} {D : Ends} {σ : St} {H : Hp} (Pv : Nat → St → Hp → Prop) (h0 : Pv 0 σ H)
    (hs : ∀ i σ H, i < n → Pv i σ H → g (.int (lo + i)) σ H fun σ2 H2 => tb { D with nx := Pv (i + 1), ct := Pv (i + 1), bk := D.nx } σ2 H2) (hd : ∀ σ H, Pv n σ H → D.nx σ H) :
    ∃ W : Nat → Nat → St → Hp → Prop, (∃ m, W 0 m σ H) ∧ ∀ i m σ H, W i m σ H →
      ((Itr lo n).stop i H ∧ D.nx σ H) ∨ ((Itr lo n).go i H ∧ ∃ N : St → Hp → Prop, (∀ σ' H', N σ' H' → ∃ m', m' < m ∧ W (i + 1) m' σ' H') ∧ ∀ x H', (Itr lo n).yld i H x H' → g x σ H' fun σ2 H2 => tb { D with nx := N, ct := N, bk := D.nx } σ2 H2) := by
  refine ⟨fun i m σ H => m = n - i ∧ i ≤ n ∧ Pv i σ H, ⟨n, by simp, Nat.zero_le _, h0⟩, ?_⟩
  rintro i m σ H ⟨rfl, hi, p⟩
  by_cases hlt : i < n
  · refine .inr ⟨hlt, Pv (i + 1), fun σ' H' p' => ⟨n - (i + 1), by omega, rfl, hlt, p'⟩, fun x H' y => ?_⟩
    obtain ⟨e, y⟩ := y
    subst e y
    exact hs i σ _ hlt p
  · have e : i = n := by omega
    subst e
    exact .inl ⟨Nat.le_refl _, hd σ H p⟩
end L2
namespace L2
open PySem PySem.Spec PyProof.Rows
abbrev R2 := V → V → Hp → VK → Prop
def OpR (X : Cx) (f : Value → Value → Sem Value) (r : R2) : Prop :=
  ∀ (pins : List (Addr × Obj)) (s : Shared) (σ : St) (H : Hp) (x y : V) (v u : Value) (Q : VK), Inv X pins σ H s → RelV x v → RelV y u → r x y H Q →
    wpAny (model X.prog X.w) X.A (f v u) (EP X pins σ Q) X.xe s
def UnR (X : Cx) (f : Value → Sem Value) (r : V → Hp → VK → Prop) : Prop :=
  ∀ (pins : List (Addr × Obj)) (s : Shared) (σ : St) (H : Hp) (x : V) (v : Value) (Q : VK), Inv X pins σ H s → RelV x v → r x H Q →
    wpAny (model X.prog X.w) X.A (f v) (EP X pins σ Q) X.xe s
def CallR (X : Cx) (f : Value) (r : List V → Hp → VK → Prop) : Prop :=
  ∀ (pins : List (Addr × Obj)) (s : Shared) (σ : St) (H : Hp) (xs : List V) (us : List Value) (Q : VK), Inv X pins σ H s → Vals xs us → r xs H Q →
    wpAny (model X.prog X.w) X.A (call f us) (EP X pins σ Q) X.xe s
def tOp (r : R2) (ta tb : TE) : TE := fun σ H Q => ta σ H fun x H1 => tb σ H1 fun y H2 => r x y H2 Q
def tUn (r : V → Hp → VK → Prop) (ta : TE) : TE := fun σ H Q => ta σ H fun x H1 => r x H1 Q
def rI (C : Int → Int → Prop) (g : Int → Int → V) : R2 := fun x y H Q => ∃ i j, x = .int i ∧ y = .int j ∧ C i j ∧ Q (g i j) H
def rI0 (g : Int → Int → V) : R2 := fun x y H Q => ∃ i j, x = .int i ∧ y = .int j ∧ Q (g i j) H
def rU (g : Int → V) : V → Hp → VK → Prop := fun x H Q => ∃ i, x = .int i ∧ Q (g i) H
section
variable {X : Cx} {a b c : Expr} {ta tb tc : TE} {pos : Pos}
theorem binT (ha : PE X a ta) (hb : PE X b tb) {pins : List (Addr × Obj)} {s : Shared} {σ : St} {H : Hp} {R : V → V → Hp → Prop} (I : Inv X pins σ H s)
    (h : ta σ H fun x H1 => tb σ H1 fun y H2 => R x y H2) {Q : Value → Shared → Prop} {f : Value → Value → Sem Value}
    (hf : ∀ v u s2 x y H2, Inv X pins σ H2 s2 → RelV x v → RelV y u → R x y H2 → wpAny (model X.prog X.w) X.A (f v u) Q X.xe s2) :
    wpAny (model X.prog X.w) X.A (eval a X.env) (fun v s₁ => wpAny (model X.prog X.w) X.A (eval b X.env) (fun u s₂ => wpAny (model X.prog X.w) X.A (f v u) Q X.xe s₂) X.xe s₁) X.xe s := by
  refine thn (ha pins s σ H _ I h) fun v s1 ⟨x, H1, I1, r1, q1⟩ => ?_
  refine thn (hb pins s1 σ H1 _ I1 q1) fun u s2 ⟨y, H2, I2, r2, q2⟩ => ?_
  exact hf v u s2 x y H2 I2 r1 r2 q2
theorem pe_op {op : Operator} {r : R2} (ho : OpR X (binaryOp op) r) (ha : PE X a ta) (hb : PE X b tb) : PE X (.BinOp a op b pos) (tOp r ta tb) := by
  intro pins s σ H Q I h
  exact wpAny_BinOp (binT ha hb I h fun v u s2 x y H2 I2 rx ry q => ho pins s2 σ H2 x y v u Q I2 rx ry q)
theorem pe_un {op : UnaryOp} {r : V → Hp → VK → Prop} (ho : UnR X (unaryOp op) r) (ha : PE X a ta) : PE X (.UnaryOp op a pos) (tUn r ta) := by
  intro pins s σ H Q I h
  exact UnaryOp_ (thn (ha pins s σ H _ I h) fun v s1 ⟨x, H1, I1, r1, q1⟩ => ho pins s1 σ H1 x v Q I1 r1 q1)
theorem opI {f : Value → Value → Sem Value} {C : Int → Int → Prop} {g : Int → Int → Int}
    (rule : ∀ (i j : Int) (t u : Tok) (s : Shared) (Q : Value → Shared → Prop) (E : Value → Shared → Prop), C i j → Q (.int (g i j) s.toks) { s with toks := s.toks + 1 } → wpAny (model X.prog X.w) X.A (f (.int i t) (.int j u)) Q E s) :
    OpR X f (rI C fun i j => .int (g i j)) := by
  intro pins s σ H x y v u Q I rx ry h
  obtain ⟨i, j, rfl, rfl, hc, q⟩ := h
  obtain ⟨t, rfl⟩ := rx
  obtain ⟨t', rfl⟩ := ry
  exact rule i j t t' s _ _ hc ⟨.int (g i j), H, I.tok _, ⟨_, rfl⟩, q⟩
theorem opI0 {f : Value → Value → Sem Value} {g : Int → Int → Int}
    (rule : ∀ (i j : Int) (t u : Tok) (s : Shared) (Q : Value → Shared → Prop) (E : Value → Shared → Prop), Q (.int (g i j) s.toks) { s with toks := s.toks + 1 } → wpAny (model X.prog X.w) X.A (f (.int i t) (.int j u)) Q E s) :
    OpR X f (rI0 fun i j => .int (g i j)) := by
  intro pins s σ H x y v u Q I rx ry h
  obtain ⟨i, j, rfl, rfl, q⟩ := h
  obtain ⟨t, rfl⟩ := rx
  obtain ⟨t', rfl⟩ := ry
  exact rule i j t t' s _ _ ⟨.int (g i j), H, I.tok _, ⟨_, rfl⟩, q⟩
theorem opB0 {f : Value → Value → Sem Value} {g : Int → Int → Bool}
    (rule : ∀ (i j : Int) (t u : Tok) (s : Shared) (Q : Value → Shared → Prop) (E : Value → Shared → Prop), Q (.bool (g i j)) s → wpAny (model X.prog X.w) X.A (f (.int i t) (.int j u)) Q E s) :
    OpR X f (rI0 fun i j => .bl (g i j)) := by
  intro pins s σ H x y v u Q I rx ry h
  obtain ⟨i, j, rfl, rfl, q⟩ := h
  obtain ⟨t, rfl⟩ := rx
  obtain ⟨t', rfl⟩ := ry
  exact rule i j t t' s _ _ ⟨.bl (g i j), H, I, rfl, q⟩
def CDiv (i j : Int) : Prop := 0 < j ∧ j < 1073741824
def CPow (i j : Int) : Prop := 0 ≤ j ∧ j ≤ 1000000 ∧ i.natAbs < 2 ^ 64
def CMul (i j : Int) : Prop := (-(2 ^ 64) < i ∧ i < 2 ^ 64) ∨ (-(2 ^ 64) < j ∧ j < 2 ^ 64)
theorem CMul.ok {i j : Int} (h : CMul i j) : IntMulOk i j := by
  rcases h with ⟨h1, h2⟩ | ⟨h1, h2⟩
  · exact .of_left (intBits_le_64 h1 h2)
  · exact .of_right (intBits_le_64 h1 h2)
theorem op_add : OpR X (binaryOp .Add) (rI0 fun i j => .int (i + j)) := opI0 fun _ _ _ _ _ _ _ q => add_int q
theorem op_sub : OpR X (binaryOp .Sub) (rI0 fun i j => .int (i - j)) := opI0 fun _ _ _ _ _ _ _ q => sub_int q
theorem op_mul : OpR X (binaryOp .Mult) (rI CMul fun i j => .int (i * j)) := opI fun _ _ _ _ _ _ _ hc q => mul_int q hc.ok
theorem op_fdiv : OpR X (binaryOp .FloorDiv) (rI CDiv fun i j => .int (i / j)) := opI fun i j _ _ _ _ _ hc q => by
  have h1 : (0 : Int) < j := hc.1
  have h2 : j < 1073741824 := hc.2
  exact floordiv_int (by omega) (by rw [Int.fdiv_eq_ediv_of_nonneg i (by omega)]; exact q) (.inl (PyProof.noPylong_small (by omega)))
theorem op_mod : OpR X (binaryOp .Mod) (rI (fun _ j => 0 < j) fun i j => .int (i % j)) := opI fun i j _ _ _ _ _ hc q => by
  have h1 : (0 : Int) < j := hc
  exact mod_int' (by omega) (by rw [Int.fmod_eq_emod_of_nonneg i (by omega)]; exact q)
theorem op_pow : OpR X (binaryOp .Pow) (rI CPow fun i j => .int (i ^ j.toNat)) := opI fun _ _ _ _ _ _ _ hc q => pow_int_small hc.1 hc.2.1 hc.2.2 q
theorem unI {f : Value → Sem Value} {g : Int → Int}
    (rule : ∀ (i : Int) (t : Tok) (s : Shared) (Q : Value → Shared → Prop) (E : Value → Shared → Prop), Q (.int (g i) s.toks) { s with toks := s.toks + 1 } → wpAny (model X.prog X.w) X.A (f (.int i t)) Q E s) :
    UnR X f (rU fun i => .int (g i)) := by
  intro pins s σ H x v Q I rx h
  obtain ⟨i, rfl, q⟩ := h
  obtain ⟨t, rfl⟩ := rx
  exact rule i t s _ _ ⟨.int (g i), H, I.tok _, ⟨_, rfl⟩, q⟩
theorem un_neg : UnR X (unaryOp .USub) (rU fun i => .int (-i)) := unI fun _ _ _ _ _ q => neg_int q
end
def scal : V → V → Bool
  | .non, .non => true | .non, .int _ => true | .int _, .non => true | .non, .bl _ => true | .bl _, .non => true | .non, .str _ => true | .str _, .non => true
  | .int _, .int _ => true | .bl _, .bl _ => true | .str _, .str _ => true | .byt _, .byt _ => true
  | .int _, .str _ => true | .str _, .int _ => true | .bl _, .str _ => true | .str _, .bl _ => true
  | _, _ => false
def rEq : R2 := fun x y H Q => scal x y = true ∧ Q (.bl (decide (x = y))) H
def rNe : R2 := fun x y H Q => scal x y = true ∧ Q (.bl (!decide (x = y))) H
theorem dec_int {i j : Int} : decide (V.int i = V.int j) = (i == j) := by
  rw [Bool.eq_iff_iff]
  simp
theorem dec_bl {i j : Bool} : decide (V.bl i = V.bl j) = (i == j) := by
  rw [Bool.eq_iff_iff]
  simp
theorem dec_str {i j : Str} : decide (V.str i = V.str j) = (i == j) := by
  rw [Bool.eq_iff_iff]
  simp
theorem dec_byt {i j : Array UInt8} : decide (V.byt i = V.byt j) = (i.toList == j.toList) := by
  rw [Bool.eq_iff_iff]
  cases i
  cases j
  simp
section
variable {X : Cx} {a b c : Expr} {ta tb tc : TE} {pos : Pos}
theorem fin_bl {pins : List (Addr × Obj)} {σ : St} {H : Hp} {s : Shared} {Q : VK} {k k' : Bool} (I : Inv X pins σ H s) (q : Q (.bl k) H) (e : k = k') : EP X pins σ Q (.bool k') s := by
  subst e
  exact ⟨.bl k, H, I, rfl, q⟩
theorem op_eq : OpR X (compareOp .Eq) rEq := by
  intro pins s σ H x y v u Q I rx ry h
  obtain ⟨hs, q⟩ := h
  cases x with
  | non =>
    cases rx
    cases y with
    | non => cases ry; exact PySem.EqNone.eq_none_none (fin_bl I q (by simp))
    | bl j => cases ry; exact PySem.EqNone.eq_none_bool (fin_bl I q (by simp))
    | int j => obtain ⟨t', rfl⟩ := ry; exact PySem.EqNone.eq_none_int (fin_bl I q (by simp))
    | str j => obtain ⟨t', rfl⟩ := ry; exact PySem.EqNone.eq_none_str (fin_bl I q (by simp))
    | _ => exact absurd (show false = true from hs) Bool.false_ne_true
  | bl i =>
    cases rx
    cases y with
    | non => cases ry; exact PySem.EqNone.eq_bool_none (fin_bl I q (by simp))
    | bl j => cases ry; exact eq_bool (fin_bl I q dec_bl)
    | str j => obtain ⟨t', rfl⟩ := ry; exact PySem.EqMixed.eq_bool_str (fin_bl I q (by simp))
    | _ => exact absurd (show false = true from hs) Bool.false_ne_true
  | int i =>
    obtain ⟨t, rfl⟩ := rx
    cases y with
    | non => cases ry; exact PySem.EqNone.eq_int_none (fin_bl I q (by simp))
    | int j => obtain ⟨t', rfl⟩ := ry; exact eq_int (fin_bl I q dec_int)
    | str j => obtain ⟨t', rfl⟩ := ry; exact PySem.EqMixed.eq_int_str (fin_bl I q (by simp))
    | _ => exact absurd (show false = true from hs) Bool.false_ne_true
  | str i =>
    obtain ⟨t, rfl⟩ := rx
    cases y with
    | non => cases ry; exact PySem.EqNone.eq_str_none (fin_bl I q (by simp))
    | bl j => cases ry; exact PySem.EqMixed.eq_str_bool (fin_bl I q (by simp))
    | int j => obtain ⟨t', rfl⟩ := ry; exact PySem.EqMixed.eq_str_int (fin_bl I q (by simp))
    | str j => obtain ⟨t', rfl⟩ := ry; exact eq_str (fin_bl I q dec_str)
    | _ => exact absurd (show false = true from hs) Bool.false_ne_true
  | byt i =>
    obtain ⟨t, rfl⟩ := rx
    cases y with
    | byt j => obtain ⟨t', rfl⟩ := ry; exact PySem.W.eq_bytes (fin_bl I q dec_byt)
    | _ => exact absurd (show false = true from hs) Bool.false_ne_true
  | _ => cases y <;> exact absurd (show false = true from hs) Bool.false_ne_true
theorem op_ne : OpR X (compareOp .NotEq) rNe := by
  intro pins s σ H x y v u Q I rx ry h
  obtain ⟨hs, q⟩ := h
  cases x with
  | non =>
    cases rx
    cases y with
    | non => cases ry; exact PySem.EqNone.ne_none_none (fin_bl I q (by simp))
    | bl j => cases ry; exact PySem.EqNone.ne_none_bool (fin_bl I q (by simp))
    | int j => obtain ⟨t', rfl⟩ := ry; exact PySem.EqNone.ne_none_int (fin_bl I q (by simp))
    | str j => obtain ⟨t', rfl⟩ := ry; exact PySem.EqNone.ne_none_str (fin_bl I q (by simp))
    | _ => exact absurd (show false = true from hs) Bool.false_ne_true
  | bl i =>
    cases rx
    cases y with
    | non => cases ry; exact PySem.EqNone.ne_bool_none (fin_bl I q (by simp))
    | bl j => cases ry; exact ne_bool (fin_bl I q (congrArg not dec_bl))
    | str j => obtain ⟨t', rfl⟩ := ry; exact PySem.EqMixed.ne_bool_str (fin_bl I q (by simp))
    | _ => exact absurd (show false = true from hs) Bool.false_ne_true
  | int i =>
    obtain ⟨t, rfl⟩ := rx
    cases y with
    | non => cases ry; exact PySem.EqNone.ne_int_none (fin_bl I q (by simp))
    | int j => obtain ⟨t', rfl⟩ := ry; exact ne_int (fin_bl I q (congrArg not dec_int))
    | str j => obtain ⟨t', rfl⟩ := ry; exact PySem.EqMixed.ne_int_str (fin_bl I q (by simp))
    | _ => exact absurd (show false = true from hs) Bool.false_ne_true
  | str i =>
    obtain ⟨t, rfl⟩ := rx
    cases y with
    | non => cases ry; exact PySem.EqNone.ne_str_none (fin_bl I q (by simp))
    | bl j => cases ry; exact PySem.EqMixed.ne_str_bool (fin_bl I q (by simp))
    | int j => obtain ⟨t', rfl⟩ := ry; exact PySem.EqMixed.ne_str_int (fin_bl I q (by simp))
    | str j => obtain ⟨t', rfl⟩ := ry; exact ne_str (fin_bl I q (congrArg not dec_str))
    | _ => exact absurd (show false = true from hs) Bool.false_ne_true
  | byt i =>
    obtain ⟨t, rfl⟩ := rx
    cases y with
    | byt j => obtain ⟨t', rfl⟩ := ry; exact PySem.W.ne_bytes (fin_bl I q (congrArg not dec_byt))
    | _ => exact absurd (show false = true from hs) Bool.false_ne_true
  | _ => cases y <;> exact absurd (show false = true from hs) Bool.false_ne_true
theorem op_lt : OpR X (compareOp .Lt) (rI0 fun i j => .bl (decide (i < j))) := opB0 fun _ _ _ _ _ _ _ q => lt_int q
theorem op_le : OpR X (compareOp .LtE) (rI0 fun i j => .bl (decide (i ≤ j))) := opB0 fun _ _ _ _ _ _ _ q => le_int q
theorem op_gt : OpR X (compareOp .Gt) (rI0 fun i j => .bl (decide (j < i))) := opB0 fun _ _ _ _ _ _ _ q => gt_int q
theorem op_isN : OpR X (compareOp .Is) (fun x y H Q => y = .non ∧ Q (.bl (decide (x = .non))) H) := by
  intro pins s σ H x y v u Q I rx ry h
  obtain ⟨rfl, q⟩ := h
  cases ry
  refine is_none_gen (fin_bl I q ?_)
  cases x <;> first
    | (cases rx; rfl)
    | (obtain ⟨t, rfl⟩ := rx; rfl)
theorem op_notN : OpR X (compareOp .IsNot) (fun x y H Q => y = .non ∧ Q (.bl (!decide (x = .non))) H) := by
  intro pins s σ H x y v u Q I rx ry h
  obtain ⟨rfl, q⟩ := h
  cases ry
  refine isnot_none_gen (fin_bl I q ?_)
  cases x <;> first
    | (cases rx; rfl)
    | (obtain ⟨t, rfl⟩ := rx; rfl)
theorem nomark (b : Expr) {op : CmpOp} (h : op ≠ .In := by decide) (h2 : op ≠ .NotIn := by decide) : behindInMarks op b = false := by
  have e1 : (op == CmpOp.In) = false := by cases op <;> first | rfl | exact absurd rfl h
  have e2 : (op == CmpOp.NotIn) = false := by cases op <;> first | rfl | exact absurd rfl h2
  cases b <;> simp [behindInMarks, e1, e2]
theorem pe_cmpR {op : CmpOp} {r : R2} (ho : OpR X (compareOp op) r) (ha : PE X a ta) (hb : PE X b tb) (hm : behindInMarks op b = false) : PE X (.Compare a [op] [b] pos) (tOp r ta tb) := by
  intro pins s σ H Q I h
  exact wpAny_Compare1 (binT ha hb I h fun v u s2 x y H2 I2 rx ry q => ho pins s2 σ H2 x y v u Q I2 rx ry q) hm
def tTest (t : TE) : TT := fun σ H Q => t σ H fun x H' => ∃ k, x = .bl k ∧ Q k H'
theorem pt_cmpR {op : CmpOp} {r : R2} (ho : OpR X (compareOp op) r) (ha : PE X a ta) (hb : PE X b tb) (hm : behindInMarks op b = false) : PT X (.Compare a [op] [b] pos) (tTest (tOp r ta tb)) := by
  intro pins s σ H Q I h
  refine wpAny_isTrue_Compare1 (thn (ha pins s σ H _ I h) fun v s1 ⟨x, H1, I1, r1, q1⟩ => thn (hb pins s1 σ H1 _ I1 q1) fun u s2 ⟨y, H2, I2, r2, q2⟩ =>
    thn (ho pins s2 σ H2 x y v u _ I2 r1 r2 q2) fun c s3 ⟨z, H3, I3, r3, k, e, q3⟩ => ?_) hm
  subst e
  cases r3
  exact wpAny_truthy_bool ⟨H3, I3, q3⟩
def tChain (r r' : R2) (ta tb tc : TE) : TE := fun σ H Q => ta σ H fun x H1 => tb σ H1 fun y H2 => r x y H2 fun z H3 => ∃ k, z = .bl k ∧
  (if k = true then tc σ H3 fun w' H4 => r' y w' H4 Q else Q (.bl false) H3)
theorem pe_chain {op op' : CmpOp} {r r' : R2} (ho : OpR X (compareOp op) r) (ho' : OpR X (compareOp op') r') (ha : PE X a ta) (hb : PE X b tb) (hc : PE X c tc)
    (hm : lastMarks [op, op'] [b, c] = false := by with_unfolding_all rfl) : PE X (.Compare a [op, op'] [b, c] pos) (tChain r r' ta tb tc) := by
  intro pins s σ H Q I h
  refine Compare_chain (thn (ha pins s σ H _ I h) fun v s1 ⟨x, H1, I1, r1, q1⟩ => chain_link (thn (hb pins s1 σ H1 _ I1 q1) fun u s2 ⟨y, H2, I2, r2, q2⟩ =>
    thn (ho pins s2 σ H2 x y v u _ I2 r1 r2 q2) fun d s3 ⟨z, H3, I3, r3, k, e, q3⟩ => ?_)) hm
  subst e
  cases r3
  refine wpAny_truthy_bool ?_
  cases k with
  | false => exact ite_ff ⟨.bl false, H3, I3, rfl, q3⟩
  | true => exact ite_tt (chain_last (thn (hc pins s3 σ H3 _ I3 q3) fun w' s4 ⟨z', H4, I4, r4, q4⟩ => ho' pins s4 σ H4 y z' u w' Q I4 r2 r4 q4))
theorem line63 : (sizeLine : Nat) < 2 ^ 63 := by rw [sizeLine_eq]; decide
theorem op_add_str : OpR X (binaryOp .Add) (fun x y H Q => ∃ i j, x = .str i ∧ y = .str j ∧ i.length + j.length ≤ sizeLine ∧ Q (.str (i ++ j)) H) := by
  intro pins s σ H x y v u Q I rx ry h
  obtain ⟨i, j, rfl, rfl, hz, q⟩ := h
  obtain ⟨t, rfl⟩ := rx
  obtain ⟨t', rfl⟩ := ry
  exact add_str (fun t' tk => ⟨.str (i ++ j), H, I.tok _, ⟨_, rfl⟩, q⟩) hz
theorem vals1 {x : V} {us : List Value} (r : Vals [x] us) : ∃ u, us = [u] ∧ RelV x u := by
  cases r with
  | cons r1 r2 => cases r2; exact ⟨_, rfl, r1⟩
theorem vals2 {x y : V} {us : List Value} (r : Vals [x, y] us) : ∃ u w', us = [u, w'] ∧ RelV x u ∧ RelV y w' := by
  cases r with
  | cons r1 r2 =>
    cases r2 with
    | cons r3 r4 => cases r4; exact ⟨_, _, rfl, r1, r3⟩
theorem call_max2 (hc : X.calm = true) : CallR X (.builtin "max") (fun xs H Q => ∃ i j, xs = [.int i, .int j] ∧ Q (.int (if j > i then j else i)) H) := by
  intro pins s σ H xs us Q I r h
  obtain ⟨i, j, rfl, q⟩ := h
  obtain ⟨u, w', rfl, ⟨t, rfl⟩, ⟨t', rfl⟩⟩ := vals2 r
  refine max_two_ints (I.ok.hd hc) fun h' tk k => ⟨_, H, I.kept k, ?_, q⟩
  by_cases hj : j > i
  · rw [if_pos hj, if_pos hj]; exact ⟨_, rfl⟩
  · rw [if_neg hj, if_neg hj]; exact ⟨_, rfl⟩
theorem call_min2 (hc : X.calm = true) : CallR X (.builtin "min") (fun xs H Q => ∃ i j, xs = [.int i, .int j] ∧ Q (.int (if j < i then j else i)) H) := by
  intro pins s σ H xs us Q I r h
  obtain ⟨i, j, rfl, q⟩ := h
  obtain ⟨u, w', rfl, ⟨t, rfl⟩, ⟨t', rfl⟩⟩ := vals2 r
  refine min_two_ints (I.ok.hd hc) fun h' tk k => ⟨_, H, I.kept k, ?_, q⟩
  by_cases hj : j < i
  · rw [if_pos hj, if_pos hj]; exact ⟨_, rfl⟩
  · rw [if_neg hj, if_neg hj]; exact ⟨_, rfl⟩
theorem call_str_int : CallR X (.type "str") (fun xs H Q => ∃ i, xs = [.int i] ∧ i.natAbs.log2 < 1920 ∧ Q (.str (toString i)) H) := by
  intro pins s σ H xs us Q I r h
  obtain ⟨i, rfl, hz, q⟩ := h
  obtain ⟨u, rfl, t, rfl⟩ := vals1 r
  exact PySem.P.str_of_int hz ⟨.str _, H, I.tok _, ⟨_, rfl⟩, q⟩
theorem call_ord : CallR X (.builtin "ord") (fun xs H Q => ∃ x, xs = [.str x] ∧ x.length = 1 ∧ Q (.int (x.cps.getD 0 0 : Nat)) H) := by
  intro pins s σ H xs us Q I r h
  obtain ⟨x, rfl, hz, q⟩ := h
  obtain ⟨u, rfl, t, rfl⟩ := vals1 r
  exact ord_of_one hz ⟨.int _, H, I.tok _, ⟨_, rfl⟩, q⟩
end
end L2
namespace L2
open PySem PySem.Spec PyProof.Rows
structure ObjM (h : Heap) (x dx C : Addr) (mA : Str → Option Value) : Prop where
  obj : h.get? x = some (PySem.W.instObj C dx)
  ns : h.Ns1 dx mA
  ne : dx ≠ x
theorem lookIn_ns {h : Heap} {dx : Addr} {mA : Str → Option Value} (n : h.Ns1 dx mA) : ∃ od, h.get? dx = some od ∧ ∀ name, PySem.W.lookIn name od = some (mA name) := by
  obtain ⟨o, es, ep, ho, hd, hk, _, hm⟩ := n
  refine ⟨o, ho, fun name => ?_⟩
  have e := hm name
  unfold nsFind findBy at e
  rw [← Array.find?_toList] at e
  unfold PySem.W.lookIn
  rw [hd]
  dsimp only
  split
  · rename_i y q
    rw [q] at e
    exact congrArg some e
  · rename_i q
    rw [q] at e
    have a : es.toList.any (·.refKey) = false := by
      rw [List.any_eq_false]
      intro y hy
      obtain ⟨z, t, hkey⟩ := hk y (Array.mem_toList_iff.mp hy)
      simp [DictEntry.refKey, hkey]
    have a' : ¬ es.toList.any (·.refKey) = true := by rw [a]; exact Bool.false_ne_true
    rw [if_neg a']
    exact congrArg some e
theorem ObjM.look {h : Heap} {x dx C : Addr} {mA : Str → Option Value} (I : ObjM h x dx C mA) : ∃ od, PySem.W.InstAt h x (PySem.W.instObj C dx) C (some od) ∧ ∀ name, PySem.W.lookIn name od = some (mA name) :=
  let ⟨od, ho, hl⟩ := lookIn_ns I.ns
  ⟨od, ⟨I.obj, rfl, rfl, ho⟩, hl⟩
section
variable {prog : Program} {w : World} {A : Around} {E : Value → Shared → Prop} {s : Shared} {K : PySem.W.Frag} {x dx C f : Addr} {mA : Str → Option Value} {name : Str} {v : Value}
theorem get_map {expr : Bool} {Q : Value → Shared → Prop} (X : K.In s.heap) (I : ObjM s.heap x dx C mA) (hg : PySem.W.plainGet K C name = true) (hh : PySem.W.hasDictIn K C = true)
    (ha : PySem.W.findIn K (.ref C) name = some none) (hv : mA name = some v) (hv' : PySem.W.handedIn v = true) (h : Q v { s with toks := s.toks + 1 }) :
    wpAny (model prog w) A (getAttr (.ref x) name expr) Q E s := by
  obtain ⟨od, J, hl⟩ := I.look
  exact PySem.W.get_value X J (PySem.W.plainGet_of hg).1 (PySem.W.findObj_own hh ha rfl (by rw [hl, hv])) hv' h
theorem get_meth {pl : Sem Bool} {Q : Value × List Value → Shared → Prop} (X : K.In s.heap) (I : ObjM s.heap x dx C mA) (hg : PySem.W.plainGet K C name = true)
    (hf : PySem.W.findIn K (.ref C) name = some (some (.ref f))) (ht : PySem.W.isFn K (.ref f) = true) (hv : mA name = none) (h : Q (.ref f, [.ref x]) s) :
    wpAny (model prog w) A (getMethod (.ref x) name pl) Q E s := by
  obtain ⟨od, J, hl⟩ := I.look
  exact PySem.W.method_fn X J (PySem.W.plainGet_of hg).1 (PySem.W.plainGet_of hg).2 hf (beq_iff_eq.mp ht) (by show (PySem.W.lookIn name od).map (·.isSome) = some false; rw [hl, hv]; rfl) h
theorem set_map {ns : List Str} {Q : Unit → Shared → Prop} (X : K.In s.heap) (I : ObjM s.heap x dx C mA)
    (hs : PySem.W.findIn K (.ref C) "__setattr__" = some (some (.builtin "object.__setattr__"))) (hp : PySem.W.plainOver K C = true) (ht : PySem.W.takerIn K C name = some none) (hh : PySem.W.hasDictIn K C = true)
    (hw : PySem.Within mA ns) (hsz : ns.length ≤ sizeLine)
    (h : ∀ h', ObjM h' x dx C (fun y => if y = name then some v else mA y) → Heap.SameBut dx s.heap h' → Q () { s with heap := h', toks := s.toks + 2 }) :
    wpAny (model prog w) A (setAttr (.ref x) name v) Q E s := by
  obtain ⟨od, J, hl⟩ := I.look
  refine PySem.W.set_plain X J hs (PySem.W.osa_open (s := { s with toks := s.toks + 1 }) (r := none) X J hp ht fun b => ?_)
  obtain ⟨cd, hc, hd'⟩ := PySem.W.any_some hh
  have hx : s.heap.get? x = some ⟨.ref C, some dx, .plain, #[]⟩ := I.obj
  refine wpAny_bind (wpAny_pure (wpAny_bind (wpAny_bind (wpAny_loadPart hx (wpAny_bind (PySem.W.Looks.here (s := { s with toks := s.toks + 1 }) (PySem.W.looks_clsIn X hc) ?_))))))
  rw [hd']
  refine wpAny_pure (a := some dx) (wpAny_bind (wpAny_pure (wpAny_bind ?_)))
  refine wpAny_nsSet1 (s := { s with toks := s.toks + 1 }) I.ns fun h' hn2 hs2 => ?_
  obtain ⟨oD, esD, epD, hoD, hdD, hcD⟩ := hn2.count (PySem.Within.cons name v hw)
  refine wpAny_bind (wpAny_lookBehind hoD (by rw [hdD]; exact pastItsLine_dict (Nat.le_trans hcD (by rw [List.length_cons]; omega))) ?_)
  exact wpAny_pure (h _ ⟨(hs2.2 _ (Ne.symm I.ne)).trans I.obj, hn2, I.ne⟩ hs2)
theorem make_map {R : Result → Shared → Prop} {vs : List Value} {kw : List (Str × Value)} (X : K.In s.heap) (hm : PySem.W.makesIn K C = true)
    (hi : PySem.W.findIn K (.ref C) "__init__" = some (some (.ref f))) (hf : PySem.W.typeIn K (.ref f) = some (.type "function"))
    (h : codeAny (model prog w) (A.under (.builtin "type.__call__" ⟨.ref C :: vs, kw⟩)) (.call (.ref f) ⟨.ref (s.heap.objs.size + 1) :: vs, kw⟩) (PySem.W.InitBack (s.heap.objs.size + 1) R)
      { s with heap := (s.heap.push PySem.W.emptyDict).push (PySem.W.instObj C s.heap.objs.size) }) :
    codeAny (model prog w) A (.call (.ref C) ⟨vs, kw⟩) R s := by
  obtain ⟨hh, g, d, t, os⟩ := s
  exact PySem.W.make_core (PySem.W.makes_of X hm) (PySem.W.looks_findIn X hi) (fun self => PySem.W.bind_fn X self hf) (.inl rfl) h
end
def putF (f : Str) (v : V) : List (Str × V) → List (Str × V)
  | [] => [(f, v)]
  | (g, x) :: r => if g = f then (g, v) :: r else (g, x) :: putF f v r
theorem lookup_putF (f g : Str) (v : V) : ∀ fs : List (Str × V), (putF f v fs).lookup g = if g = f then some v else fs.lookup g
  | [] => by
    show List.lookup g [(f, v)] = _
    by_cases h : g = f
    · have hb : (g == f) = true := beq_iff_eq.mpr h
      simp only [List.lookup, hb, if_pos h]
    · have hb : (g == f) = false := beq_eq_false_iff_ne.mpr h
      simp only [List.lookup, hb, if_neg h]
  | (k, x) :: r => by
    have ih := lookup_putF f g v r
    rw [show putF f v ((k, x) :: r) = (if k = f then (k, v) :: r else (k, x) :: putF f v r) from rfl]
    by_cases hk : k = f
    · rw [if_pos hk]
      by_cases h : g = k
      · have hb : (g == k) = true := beq_iff_eq.mpr h
        simp only [List.lookup, hb, if_pos (h.trans hk)]
      · have hb : (g == k) = false := beq_eq_false_iff_ne.mpr h
        simp only [List.lookup, hb, if_neg (fun e : g = f => h (e.trans hk.symm))]
    · rw [if_neg hk]
      by_cases h : g = k
      · have hb : (g == k) = true := beq_iff_eq.mpr h
        simp only [List.lookup, hb, if_neg (fun e : g = f => hk (h.symm.trans e))]
      · have hb : (g == k) = false := beq_eq_false_iff_ne.mpr h
        simp only [List.lookup, hb]
        exact ih
theorem keys_putF (f : Str) (v : V) : ∀ fs : List (Str × V), f ∈ (putF f v fs).map (·.1) ∧ ∀ g, g ∈ fs.map (·.1) → g ∈ (putF f v fs).map (·.1)
  | [] => ⟨by simp [putF], fun g h => by simp at h⟩
  | (k, x) :: r => by
    obtain ⟨i1, i2⟩ := keys_putF f v r
    rw [show putF f v ((k, x) :: r) = (if k = f then (k, v) :: r else (k, x) :: putF f v r) from rfl]
    by_cases hk : k = f
    · rw [if_pos hk]
      subst hk
      exact ⟨by simp, fun g h => by simpa using h⟩
    · rw [if_neg hk]
      refine ⟨?_, fun g h => ?_⟩
      · rw [List.map_cons]
        exact List.mem_cons_of_mem _ i1
      · rw [List.map_cons] at h ⊢
        rcases List.mem_cons.mp h with e | e
        · exact List.mem_cons.mpr (.inl e)
        · exact List.mem_cons_of_mem _ (i2 g e)
theorem length_putF (f : Str) (v : V) : ∀ fs : List (Str × V), (putF f v fs).length ≤ fs.length + 1
  | [] => by simp [putF]
  | (k, x) :: r => by
    have ih := length_putF f v r
    rw [show putF f v ((k, x) :: r) = (if k = f then (k, v) :: r else (k, x) :: putF f v r) from rfl]
    by_cases hk : k = f
    · rw [if_pos hk, List.length_cons, List.length_cons]; omega
    · rw [if_neg hk, List.length_cons, List.length_cons]; omega
theorem RelO.some_of {v : V} {o : Option Value} (r : RelO (some v) o) : ∃ u, o = some u ∧ RelV v u := by
  cases o with
  | none => exact (show False from r).elim
  | some u => exact ⟨u, rfl, r⟩
theorem RelO.none_of {o : Option Value} (r : RelO none o) : o = none := by
  cases o with
  | none => rfl
  | some u => exact (show False from r).elim
theorem handed_of {v : V} {u : Value} (r : RelV v u) : PySem.W.handedIn u = true := by
  cases v with
  | non => cases (show u = Value.none from r); rfl
  | bl b => cases (show u = Value.bool b from r); rfl
  | int i => obtain ⟨t, e⟩ := (show ∃ t, u = Value.int i t from r); cases e; rfl
  | str x => obtain ⟨t, e⟩ := (show ∃ t, u = Value.str x t from r); cases e; rfl
  | byt b => obtain ⟨t, e⟩ := (show ∃ t, u = Value.bytes b t from r); cases e; rfl
  | flt b => obtain ⟨t, e⟩ := (show ∃ t, u = Value.float b t from r); cases e; rfl
  | ref a => cases (show u = Value.ref a from r); rfl
  | ty n => cases (show u = Value.type n from r); rfl
section
variable {P : Program} {w : World} {H H' : Hp} {h h' : Heap} {a C dx : Addr} {fs fs' : List (Str × V)}
theorem ins_get (hok : HOk P w H h) (e : H a = some (.ins C dx fs)) : ∃ mA, ObjM h a dx C mA ∧ (∀ f, RelO (fs.lookup f) (mA f)) ∧ PySem.Within mA (fs.map (·.1)) ∧ fs.length ≤ 1000 ∧ H dx = some (.own a) := by
  obtain ⟨d, z, ne, ob, mA, n, r, q⟩ := (show ObjOk P w H h a (.ins C dx fs) from hok a _ e)
  exact ⟨mA, ⟨ob, n, ne⟩, r, q, z, d⟩
end
structure Cls (K : PySem.W.Frag) (C : Addr) : Prop where
  pg : PySem.W.plainGet K C Str.empty = true
  hd : PySem.W.hasDictIn K C = true
  po : PySem.W.plainOver K C = true
  sa : PySem.W.findIn K (.ref C) "__setattr__" = some (some (.builtin "object.__setattr__"))
theorem Cls.get {K : PySem.W.Frag} {C : Addr} (c : Cls K C) (f : Str) : PySem.W.plainGet K C f = true := c.pg
def NoAttr (K : PySem.W.Frag) (C : Addr) (f : Str) : Prop := PySem.W.findIn K (.ref C) f = some none
theorem NoAttr.taker {K : PySem.W.Frag} {C : Addr} {f : Str} (n : NoAttr K C f) : PySem.W.takerIn K C f = some none := by
  unfold PySem.W.takerIn
  rw [show PySem.W.findIn K (.ref C) f = some none from n]
  rfl
structure Meth (K : PySem.W.Frag) (C : Addr) (m : Str) (f : Addr) : Prop where
  at_ : PySem.W.findIn K (.ref C) m = some (some (.ref f))
  fn : PySem.W.isFn K (.ref f) = true
  kp : PySem.W.keepIn K (.ref f) = true
section
variable {X : Cx} {pins : List (Addr × Obj)} {σ : St} {H : Hp} {s : Shared} {a C dx : Addr} {fs : List (Str × V)} {f : Str} {v : V} {A : Around} {E : Value → Shared → Prop}
theorem getattr_ok {b : Bool} {Q : Value → Shared → Prop} (I : Inv X pins σ H s) (e : H a = some (.ins C dx fs)) (c : Cls X.K C) (n : NoAttr X.K C f) (l : fs.lookup f = some v)
    (h : ∀ u s', Inv X pins σ H s' → RelV v u → Q u s') : wpAny (model X.prog X.w) A (getAttr (.ref a) f b) Q E s := by
  obtain ⟨mA, O, r, _, _, _⟩ := ins_get I.hok e
  obtain ⟨u, hu, ru⟩ := RelO.some_of (v := v) (o := mA f) (by rw [← l]; exact r f)
  exact get_map I.kIn O (c.get f) c.hd n hu (handed_of ru) (h u _ (I.tok _) ru)
theorem getmeth_ok {m : Str} {g : Addr} {pl : Sem Bool} {Q : Value × List Value → Shared → Prop} (I : Inv X pins σ H s) (e : H a = some (.ins C dx fs)) (c : Cls X.K C) (k : Meth X.K C m g) (l : fs.lookup m = none)
    (h : Q (.ref g, [.ref a]) s) : wpAny (model X.prog X.w) A (getMethod (.ref a) m pl) Q E s := by
  obtain ⟨mA, O, r, _, _, _⟩ := ins_get I.hok e
  have hn : mA m = none := RelO.none_of (by rw [← l]; exact r m)
  exact get_meth I.kIn O (c.get m) k.at_ k.fn hn h
theorem setattr_ok {y : V} {u : Value} {Q : Unit → Shared → Prop} (I : Inv X pins σ H s) (e : H a = some (.ins C dx fs)) (c : Cls X.K C) (n : NoAttr X.K C f) (hl : fs.length < 1000) (ry : RelV y u)
    (h : ∀ s', Inv X pins σ (upd H a (.ins C dx (putF f y fs))) s' → Q () s') : wpAny (model X.prog X.w) A (setAttr (.ref a) f u) Q E s := by
  obtain ⟨mA, O, r, wi, _, ho⟩ := ins_get I.hok e
  have hz : (fs.map (·.1)).length ≤ sizeLine := by rw [List.length_map, sizeLine_eq]; omega
  refine set_map I.kIn O c.sa c.po n.taker c.hd wi hz fun h' O' sb => h _ ?_
  have hd : ∃ o, h'.get? dx = some o := let ⟨o, _, _, e', _⟩ := O'.ns; ⟨o, e'⟩
  refine I.write (x := a) (e := dx) (by rw [e]; exact True.intro) (.inr ho) (fun b q hb z => (sb.2 b hb).trans z) hd ?_
  refine ⟨by rw [upd_ne O.ne]; exact ho, ?_, O.ne, O'.obj, _, O'.ns, fun g => ?_, fun g hg => ?_⟩
  · have := length_putF f y fs; omega
  · show RelO ((putF f y fs).lookup g) (if g = f then some u else mA g)
    rw [lookup_putF]
    by_cases q : g = f
    · rw [if_pos q, if_pos q]; exact ry
    · rw [if_neg q, if_neg q]; exact r g
  · by_cases q : g = f
    · rw [q]; exact (keys_putF f y fs).1
    · refine (keys_putF f y fs).2 g (wi g fun z => hg ?_)
      show (if g = f then some u else mA g) = none
      rw [if_neg q]; exact z
theorem Inv.made (I : Inv X pins σ H s) : Inv X pins σ (upd (upd H s.heap.objs.size (.own (s.heap.objs.size + 1))) (s.heap.objs.size + 1) (.ins C s.heap.objs.size []))
    { s with heap := (s.heap.push PySem.W.emptyDict).push (PySem.W.instObj C s.heap.objs.size) } := by
  have e1 : (s.heap.push PySem.W.emptyDict).get? s.heap.objs.size = some PySem.W.emptyDict := Heap.get?_push_size s.heap rfl
  have e2 : ((s.heap.push PySem.W.emptyDict).push (PySem.W.instObj C s.heap.objs.size)).get? (s.heap.objs.size + 1) = some (PySem.W.instObj C s.heap.objs.size) := by
    have := Heap.get?_push_size (s.heap.push PySem.W.emptyDict) (o := PySem.W.instObj C s.heap.objs.size) rfl
    rwa [Heap.size_push] at this
  have e3 : (s.heap.push PySem.W.emptyDict).Ns s.heap.objs.size (fun _ => none) := ⟨PySem.W.emptyDict, #[], _, e1, rfl, (fun e he => absurd he (by simp)), fun _ => rfl⟩
  have I1 := I.laid (a := s.heap.objs.size) (o := .own (s.heap.objs.size + 1)) (h' := s.heap.push PySem.W.emptyDict) (t' := s.toks) (fun b u q => Heap.get?_push_of_some _ q) (Nat.le_refl _) ⟨_, e1⟩
  refine I1.laid (a := s.heap.objs.size + 1) (o := .ins C s.heap.objs.size []) (t' := s.toks) (fun b u q => Heap.get?_push_of_some _ q) (Nat.le_of_eq (Heap.size_push _ _)) ?_
  have ne : s.heap.objs.size ≠ s.heap.objs.size + 1 := Nat.ne_of_lt (Nat.lt_succ_self _)
  refine ⟨by rw [upd_ne ne, upd_same], Nat.zero_le _, ne, e2, fun _ => none, (Heap.Ns1.of_empty e3).at fun o q => Heap.get?_push_of_some _ q, fun _ => True.intro, fun y hy => absurd rfl hy⟩
theorem attr_of {prog : Program} {w : World} {env : Env} {e : Expr} {f : Str} {pos : Pos} {s : Shared} {Q : Value → Shared → Prop} (hb : attributeBase e f env (eval e env) = eval e env)
    (h : wpAny (model prog w) A (eval e env) (fun o s₁ => wpAny (model prog w) A (getAttr o f true) Q E s₁) E s) : wpAny (model prog w) A (eval (.Attribute e f pos) env) Q E s :=
  Attribute_any_ h (by rw [arm_eval_Attribute, hb])
end
def tFld (K : PySem.W.Frag) (ta : TE) (f : Str) : TE := fun σ H Q => ta σ H fun x H1 => ∃ a C dx fs v, x = .ref a ∧ H1 a = some (.ins C dx fs) ∧ Cls K C ∧ NoAttr K C f ∧ fs.lookup f = some v ∧ Q v H1
def sFld (K : PySem.W.Frag) (ta tv : TE) (f : Str) : TS := fun D σ H => tv σ H fun y H1 => ta σ H1 fun x H2 => ∃ a C dx fs, x = .ref a ∧ H2 a = some (.ins C dx fs) ∧ Cls K C ∧ NoAttr K C f ∧ fs.length < 1000 ∧
  D.nx σ (upd H2 a (.ins C dx (putF f y fs)))
def InOp (X : Cx) (op : Operator) (rd : V → V → Hp → VK → Prop) : Prop :=
  ∀ (pins : List (Addr × Obj)) (s : Shared) (σ : St) (H : Hp) (x y : V) (u v : Value) (Q : VK), Inv X pins σ H s → RelV x u → RelV y v → rd x y H Q → wpAny (model X.prog X.w) X.A (inplaceOp op u v) (EP X pins σ Q) X.xe s
def sFldAug (K : PySem.W.Frag) (ta tv : TE) (rd : V → V → Hp → VK → Prop) (f : Str) : TS := fun D σ H => ta σ H fun x H1 => ∃ a C dx fs v, x = .ref a ∧ H1 a = some (.ins C dx fs) ∧ Cls K C ∧ NoAttr K C f ∧ fs.lookup f = some v ∧
  tv σ H1 fun y H2 => rd v y H2 fun z H3 => ∃ dx' fs', H3 a = some (.ins C dx' fs') ∧ fs'.length < 1000 ∧ D.nx σ (upd H3 a (.ins C dx' (putF f z fs')))
section
variable {X : Cx} {o e value : Expr} {f : Str} {pos pos' tpos : Pos} {ta tv : TE}
theorem pe_fld (he : PE X e ta) (hb : attributeBase e f X.env (eval e X.env) = eval e X.env) : PE X (.Attribute e f pos) (tFld X.K ta f) := by
  intro pins s σ H Q I h
  refine attr_of hb (thn (he pins s σ H _ I h) fun u s1 ⟨x, H1, I1, rx, a, C, dx, fs, v, ex, ea, c, n, l, q⟩ => ?_)
  subst ex
  obtain rfl : u = Value.ref a := rx
  exact getattr_ok I1 ea c n l fun u' s2 I2 ru => ⟨v, H1, I2, ru, q⟩
theorem ps_fld (ha : PE X o ta) (hv : PE X value tv) (hs : swapsWith value (some (.Attribute o f pos')) pos.line X.env = pure false) : PS X (.Assign [.Attribute o f pos'] value pos) (sFld X.K ta tv f) := by
  intro pins s σ H D I h
  refine plainObj_wpAny_Assign_Attribute (thn (hv pins s σ H _ I h) fun u s1 ⟨y, H1, I1, ry, q⟩ => thn (ha pins s1 σ H1 _ I1 q) fun ov s2 ⟨x, H2, I2, rx, a, C, dx, fs, ex, ea, c, n, l, q2⟩ => ?_) hs
  subst ex
  obtain rfl : ov = Value.ref a := rx
  exact setattr_ok I2 ea c n l ry fun s3 I3 => ⟨σ, _, I3, q2⟩
theorem ps_fldaug {op : Operator} {rd : V → V → Hp → VK → Prop} (ha : PE X o ta) (hv : PE X value tv) (hop : InOp X op rd) : PS X (.AugAssign (.Attribute o f tpos) op value pos) (sFldAug X.K ta tv rd f) := by
  intro pins s σ H D I h
  refine wpAny_AugAssign_AttributeAny (thn (ha pins s σ H _ I h) fun ov s1 ⟨x, H1, I1, rx, a, C, dx, fs, v, ex, ea, c, n, l, q⟩ => ?_)
  subst ex
  obtain rfl : ov = Value.ref a := rx
  refine getattr_ok I1 ea c n l fun u s2 I2 ru => thn (hv pins s2 σ H1 _ I2 q) fun w3 s3 ⟨y, H2, I3, ry, q3⟩ => thn (hop pins s3 σ H2 v y u w3 _ I3 ru ry q3) fun w4 s4 ⟨z, H3, I4, rz, dx', fs', ea', l', q4⟩ => ?_
  exact setattr_ok I4 ea' c n l' rz fun s5 I5 => ⟨σ, _, I5, q4⟩
def rAdd : V → V → Hp → VK → Prop := fun x y H Q => ∃ i j, x = .int i ∧ y = .int j ∧ Q (.int (i + j)) H
theorem in_add : InOp X .Add rAdd := by
  rintro pins s σ H x y u v Q I rx ry ⟨i, j, rfl, rfl, q⟩
  obtain ⟨t, rfl⟩ := (show ∃ t, u = Value.int i t from rx)
  obtain ⟨t', rfl⟩ := (show ∃ t', v = Value.int j t' from ry)
  exact PyProof.Rows.iadd_int ⟨.int (i + j), H, I.tok _, ⟨_, rfl⟩, q⟩
end
section
variable {X : Cx} {pins : List (Addr × Obj)} {σ : St} {H : Hp} {s : Shared} {A : Around} {E : Value → Shared → Prop} {Q : Value → Shared → Prop} {c : Value} {b : Bool}
inductive TyOf (K : PySem.W.Frag) (H : Hp) : V → Value → Prop where
  | non : TyOf K H .non (.type "NoneType")
  | bl (x : Bool) : TyOf K H (.bl x) (.type "bool")
  | int (i : Int) : TyOf K H (.int i) (.type "int")
  | str (x : Str) : TyOf K H (.str x) (.type "str")
  | flt (x : UInt64) : TyOf K H (.flt x) (.type "float")
  | lst {a : Addr} {xs : List V} (e : H a = some (.lst xs)) : TyOf K H (.ref a) (.type "list")
  | frz {a : Addr} {o : Obj} {xs : List V} (e : H a = some (.frz o (.lst xs))) : TyOf K H (.ref a) (.type "list")
  | tup {a : Addr} {xs : List V} (e : H a = some (.tup xs)) : TyOf K H (.ref a) (.type "tuple")
  | dK {a : Addr} {kvs : List (Key × V)} (e : H a = some (.dK kvs)) : TyOf K H (.ref a) (.type "dict")
  | dT {a : Addr} {kvs : List (List Key × V)} (e : H a = some (.dT kvs)) : TyOf K H (.ref a) (.type "dict")
  | ins {a C dx : Addr} {fs : List (Str × V)} (e : H a = some (.ins C dx fs)) (cl : Cls K C) (ha : PySem.W.findIn K (.ref C) "__class__" = some (some (.builtin "object.__class__")))
      (hn : PySem.W.specialIn K (.builtin "object.__class__") "__get__" = some (some (.builtin "getset_descriptor.__get__"))) (htk : PySem.W.takesIn K (.builtin "object.__class__") = some true)
      (hm : PySem.W.mroIn K C (.type "object") = some true) : TyOf K H (.ref a) (.ref C)
theorem isinst_ok {x : V} {u t : Value} (I : Inv X pins σ H s) (rx : RelV x u) (ty : TyOf X.K H x t) (e : PySem.W.kitOne X.K t c = some b) (h : ∀ tk, Q (.bool b) { s with toks := tk }) :
    wpAny (model X.prog X.w) A (call (.builtin "isinstance") [u, c]) Q E s := by
  cases ty with
  | non => cases (show u = Value.none from rx); exact PySem.W.kia_one PySem.W.kitx_none I.kIn True.intro e (fun z => nomatch z) h
  | bl y => cases (show u = Value.bool y from rx); exact PySem.W.kia_one PySem.W.kitx_bool I.kIn True.intro e (fun z => nomatch z) h
  | int i => obtain ⟨t, q⟩ := (show ∃ t, u = Value.int i t from rx); cases q; exact PySem.W.kia_one PySem.W.kitx_int I.kIn True.intro e (fun z => nomatch z) h
  | str y => obtain ⟨t, q⟩ := (show ∃ t, u = Value.str y t from rx); cases q; exact PySem.W.kia_one PySem.W.kitx_str I.kIn True.intro e (fun z => nomatch z) h
  | flt y => obtain ⟨t, q⟩ := (show ∃ t, u = Value.float y t from rx); cases q; exact PySem.W.kia_one PySem.W.kitx_float I.kIn True.intro e (fun z => nomatch z) h
  | @lst a xs ea =>
    cases (show u = Value.ref a from rx)
    obtain ⟨_, _, n, _, h1⟩ := (show ObjOk X.prog X.w H s.heap a (.lst xs) from I.hok a _ ea)
    exact PySem.W.kia_one PySem.W.kitx_list I.kIn ⟨_, h1, rfl⟩ e (fun z => nomatch z) h
  | @frz a ob xs ea =>
    cases (show u = Value.ref a from rx)
    obtain ⟨_, _, _, n, _, h1⟩ := (show ObjOk X.prog X.w H s.heap a (.frz ob (.lst xs)) from I.hok a _ ea)
    exact PySem.W.kia_one PySem.W.kitx_list I.kIn ⟨_, h1, rfl⟩ e (fun z => nomatch z) h
  | @tup a xs ea =>
    cases (show u = Value.ref a from rx)
    obtain ⟨_, _, _, p⟩ := (show ObjOk X.prog X.w H s.heap a (.tup xs) from I.hok a _ ea)
    obtain ⟨o, h1, h2, _⟩ := p
    exact PySem.W.kia_one PySem.W.kitx_tuple I.kIn ⟨o, h1, h2⟩ e (fun z => nomatch z) h
  | @dK a kvs ea =>
    cases (show u = Value.ref a from rx)
    obtain ⟨_, _, vs, _, p⟩ := (show ObjOk X.prog X.w H s.heap a (.dK kvs) from I.hok a _ ea)
    obtain ⟨o, es, ep, h1, h2, _⟩ := p
    exact PySem.W.kia_one PySem.W.kitx_dict I.kIn ⟨o, h1, h2.1⟩ e (fun z => nomatch z) h
  | @dT a kvs ea =>
    cases (show u = Value.ref a from rx)
    obtain ⟨_, _, xs, _, o, es, ep, h1, h2, _⟩ := (show ObjOk X.prog X.w H s.heap a (.dT kvs) from I.hok a _ ea)
    exact PySem.W.kia_one PySem.W.kitx_dict I.kIn ⟨o, h1, h2.1⟩ e (fun z => nomatch z) h
  | @ins a C dx fs ea cl ha hn htk hm =>
    cases (show u = Value.ref a from rx)
    obtain ⟨mA, O, _⟩ := ins_get I.hok ea
    obtain ⟨od, J, _⟩ := O.look
    exact PySem.W.kia_one (PySem.W.kitx_own (cl.get _) cl.hd ha hn htk hm) I.kIn J e (fun z => nomatch z) h
end
end L2
namespace L2
open PySem PySem.Spec PyProof.Rows
structure Room (k : Nat) (A : Around) : Prop where
  hd : A.handled = none
  dp : A.depth + 3 * k + 5 < recursionLimit
  un : A.units + 16 * k + 200 < cLine
theorem Room.mono {j k : Nat} {A : Around} (r : Room k A) (h : j ≤ k) : Room j A := ⟨r.hd, by have := r.dp; omega, by have := r.un; omega⟩
theorem Room.deeper {k : Nat} {A : Around} (r : Room (k + 1) A) (env : Env) : Room k (A.deeper env) :=
  ⟨r.hd, by have := r.dp; show A.depth + 1 + 3 * k + 5 < _; omega, by have := r.un; show A.units + 3 + 16 * k + 200 < _; omega⟩
theorem make_depth {A : Around} {C : Addr} {us : List Value} {kw : List (Str × Value)} : (A.under (.builtin "type.__call__" ⟨.ref C :: us, kw⟩)).depth = A.depth + 1 := by
  first | rfl | simp [Around.under, Code.weight, Code.isCreation, Code.isGuard, Code.isCaller, Code.frames, Code.isFrame, guardIds]
theorem make_units {A : Around} {C : Addr} {us : List Value} {kw : List (Str × Value)} : (A.under (.builtin "type.__call__" ⟨.ref C :: us, kw⟩)).units = A.units + 1 := by
  first | rfl | simp [Around.under, Code.cUnits, Code.frames, Code.isFrame]
theorem Room.make {k : Nat} {A : Around} (r : Room (k + 1) A) (C : Addr) (us : List Value) (kw : List (Str × Value)) : Room k (A.under (.builtin "type.__call__" ⟨.ref C :: us, kw⟩)) :=
  ⟨r.hd, by have := r.dp; rw [make_depth]; omega, by have := r.un; rw [make_units]; omega⟩
theorem Room.depth {k : Nat} {A : Around} (r : Room k A) : A.depth < recursionLimit := by have := r.dp; omega
theorem Room.units {k : Nat} {A : Around} (r : Room k A) : A.units + 64 < cLine := by have := r.un; omega
def tNil : TA := fun _ H Q => Q [] H
def tCons (ta : TE) (tr : TA) : TA := fun σ H Q => ta σ H fun x H1 => tr σ H1 fun xs H2 => Q (x :: xs) H2
section
variable {X : Cx} {e : Expr} {es : List Expr} {te : TE} {t : TA} {pos : Pos}
theorem pa_nil : PA X [] tNil := fun _ _ _ _ H Q I h => Calls.spliced_nil ⟨[], H, I, .nil, h⟩
theorem pa_cons (ha : PE X e te) (hr : PA X es t) (hs : starEach (e :: es) X.env = (false, eval e X.env) :: starEach es X.env := by rfl) : PA X (e :: es) (tCons te t) := by
  intro pos pins s σ H Q I h
  rw [hs]
  show wpAny _ _ (spliced ((false, eval e X.env) :: backTo pos (starEach es X.env))) _ _ s
  refine Calls.spliced_cons (thn (ha pins s σ H _ I h) fun u s1 ⟨x, H1, I1, r1, q1⟩ => ?_)
  exact thn (hr pos pins s1 σ H1 _ I1 q1) fun us s2 ⟨xs, H2, I2, r2, q2⟩ => ⟨x :: xs, H2, I2, .cons r1 r2, q2⟩
def tTup (t : TA) : TE := fun σ H Q => t σ H fun xs H1 => xs.length ≤ sizeLine ∧ ∀ p, H1 p = none → Q (.ref p) (upd H1 p (.tup xs))
def tLst (t : TA) : TE := fun σ H Q => t σ H fun xs H1 => xs.length ≤ sizeLine ∧ ∀ p, H1 p = none → Q (.ref p) (upd H1 p (.lst xs))
theorem pe_tup {x1} (h : PA X es t) : PE X (.Tuple es x1 pos) (tTup t) := by
  intro pins s σ H Q I hq
  refine wpAny_Tuple_spliced (thn (h pos pins s σ H _ I hq) fun us s1 ⟨xs, H1, I1, r, z, q⟩ => ⟨by rw [← r.length]; exact z, ?_⟩)
  have hf : H1 s1.heap.objs.size = none := I1.hok.fresh (Nat.le_refl _)
  refine ⟨.ref s1.heap.objs.size, upd H1 s1.heap.objs.size (.tup xs), I1.laid (t' := s1.toks) (fun b u e => Heap.get?_push_of_some _ e) (Nat.le_refl _) ?_, rfl, q _ hf⟩
  exact ⟨z, us, r, ⟨_, Heap.get?_push_size _ rfl, rfl, _, rfl⟩⟩
theorem pe_lst (h : PA X es t) : PE X (.List es pos) (tLst t) := by
  intro pins s σ H Q I hq
  refine wpAny_List_spliced (thn (h pos pins s σ H _ I hq) fun us s1 ⟨xs, H1, I1, r, z, q⟩ => ⟨by rw [← r.length]; exact z, ?_⟩)
  have hf : H1 s1.heap.objs.size = none := I1.hok.fresh (Nat.le_refl _)
  refine ⟨.ref s1.heap.objs.size, upd H1 s1.heap.objs.size (.lst xs), I1.laid (t' := s1.toks) (fun b u e => Heap.get?_push_of_some _ e) (Nat.le_refl _) ?_, rfl, q _ hf⟩
  exact ⟨z, us, 0, r, Heap.get?_push_size _ rfl⟩
end
abbrev Sp := List V → Hp → VK → XK → Prop
abbrev CXT := List Env → Hp → Shared → XK → Value → Shared → Prop
structure Env0 (P : Program) (w : World) (K : PySem.W.Frag) (mg : Str → Option Value) (base : Heap) (A : Around) (outer : List Env) (s : Shared) (H : Hp) : Prop where
  frames : A.frames = some outer
  mod : Mod K mg base
  bs : ∀ b o, base.get? b = some o → s.heap.get? b = some o ∧ H b = none
  bsz : base.objs.size ≤ s.heap.objs.size
  funs : s.heap.FunFrames base outer
  frf : ∀ b ∈ frs outer, H b = none
  hok : HOk P w H s.heap
  bare : AllBare s.gens
def CE (outer : List Env) (P : Program) (w : World) (H : Hp) (s : Shared) (Q : VK) (u : Value) (s' : Shared) : Prop :=
  ∃ v H', s'.os = s.os ∧ AllBare s'.gens ∧ Un (frs outer) [] H H' s.heap s'.heap ∧ HOk P w H' s'.heap ∧ RelV v u ∧ Q v H'
def CR (CX : CXT) (outer : List Env) (P : Program) (w : World) (H : Hp) (s : Shared) (Q : VK) (E : XK) (r : Result) (s' : Shared) : Prop :=
  match r with
  | .ok (.ret u) => CE outer P w H s Q u s'
  | .ok _ => False
  | .error e => CX outer H s E e s'
structure FnOk (P : Program) (w : World) (K : PySem.W.Frag) (mg : Str → Option Value) (base : Heap) (CX : CXT) (k : Nat) (f : Addr) (fd : FuncData) (ps : List Str) (sp : Sp) : Prop where
  len : ∀ vs H Q E, sp vs H Q E → vs.length = ps.length
  run : ∀ (A : Around) (outer : List Env) (s : Shared) (H : Hp) (args : Args) (us : List Value) (vs : List V) (Q : VK) (E : XK), Room k A → Env0 P w K mg base A outer s H → BindsTo s fd args (ps.zip us) → Vals vs us → sp vs H Q E →
    codeAny (model P w) A (.call (.ref f) args) (CR CX outer P w H s Q E) s
theorem FnOk.mono {P : Program} {w : World} {K : PySem.W.Frag} {mg : Str → Option Value} {base : Heap} {CX : CXT} {j k : Nat} {f : Addr} {fd : FuncData} {ps : List Str} {sp : Sp} (F : FnOk P w K mg base CX j f fd ps sp) (h : j ≤ k) :
    FnOk P w K mg base CX k f fd ps sp := ⟨F.len, fun A outer s H args us vs Q E hr => F.run A outer s H args us vs Q E (hr.mono h)⟩
theorem FnOk.imp {P : Program} {w : World} {K : PySem.W.Frag} {mg : Str → Option Value} {base : Heap} {CX : CXT} {k : Nat} {f : Addr} {fd : FuncData} {ps : List Str} {sp sp' : Sp} (F : FnOk P w K mg base CX k f fd ps sp)
    (h : ∀ vs H Q E, sp' vs H Q E → sp vs H Q E) : FnOk P w K mg base CX k f fd ps sp' :=
  ⟨fun vs H Q E q => F.len vs H Q E (h _ _ _ _ q), fun A outer s H args us vs Q E hr he hb hv hs => F.run A outer s H args us vs Q E hr he hb hv (h _ _ _ _ hs)⟩
theorem Env0.make {P : Program} {w : World} {K : PySem.W.Frag} {mg : Str → Option Value} {base : Heap} {A : Around} {outer : List Env} {s : Shared} {H : Hp} (e : Env0 P w K mg base A outer s H) (C : Addr) (us : List Value) (kw : List (Str × Value)) :
    Env0 P w K mg base (A.under (.builtin "type.__call__" ⟨.ref C :: us, kw⟩)) outer s H := ⟨by first | exact e.frames | (simpa [Around.under, Code.envs, Code.isFrame, pushEnvs] using e.frames), e.mod, e.bs, e.bsz, e.funs, e.frf, e.hok, e.bare⟩
section
variable {X : Cx} {pins : List (Addr × Obj)} {σ : St} {H : Hp} {s s' : Shared}
theorem Inv.env0 (I : Inv X pins σ H s) : Env0 X.prog X.w X.K X.mg X.base X.A X.stack s H :=
  ⟨I.ok.frames, I.ok.mod, I.bs, Nat.le_trans I.ok.bsz I.sz, I.stack, I.stkFree, I.hok, I.bare⟩
theorem Inv.after {Q : VK} {u : Value} (I : Inv X pins σ H s) (h : CE X.stack X.prog X.w H s Q u s') : EP X pins σ Q u s' := by
  obtain ⟨v, H', os, bare, un, hok, r, q⟩ := h
  obtain ⟨hh, g, d, t, os'⟩ := s'
  obtain rfl : os' = s.os := os
  exact ⟨v, H', I.call (h' := hh) (g' := g) (d' := d) (t' := t) (ch := []) un hok bare (fun b z => absurd z (by simp)), r, q⟩
end
def tCall (sp : Sp) (dvs : List V) (E : XK) (t : TA) : TE := fun σ H Q => t σ H fun vs H1 => sp (vs ++ dvs) H1 Q E
def tMeth (C : Addr) (m : Str) (sp : Sp) (dvs : List V) (E : XK) (ta : TE) (t : TA) : TE := fun σ H Q => ta σ H fun x H1 => ∃ a dx fs, x = .ref a ∧ H1 a = some (.ins C dx fs) ∧ fs.lookup m = none ∧
  t σ H1 fun vs H2 => sp (x :: (vs ++ dvs)) H2 Q E
def tMake (C : Addr) (sp : Sp) (dvs : List V) (E : XK) (t : TA) : TE := fun σ H Q => t σ H fun vs H1 => ∀ x dx, H1 x = none → H1 dx = none → dx ≠ x →
  sp (.ref x :: (vs ++ dvs)) (upd (upd H1 dx (.own x)) x (.ins C dx [])) (fun v H2 => v = .non ∧ Q (.ref x) H2) E
def Binds (K : PySem.W.Frag) (fd : FuncData) (ps : List Str) (ds : List Value) : Prop :=
  ∀ (s : Shared) (us : List Value), K.In s.heap → (us ++ ds).length = ps.length → BindsTo s fd ⟨us, []⟩ (ps.zip (us ++ ds))
theorem Binds.all {K : PySem.W.Frag} {fd : FuncData} {ps : List Str} (h : ∀ us : List Value, us.length = ps.length → bindArgs fd ⟨us, []⟩ = pure (ps.zip us)) : Binds K fd ps [] := fun s us _ hl => by
  rw [List.append_nil] at hl ⊢
  exact .of_eq (h us hl)
def Passes (CX : CXT) (X : Cx) (E : XK) : Prop := ∀ (pins : List (Addr × Obj)) (σ : St) (H : Hp) (s : Shared) (e : Value) (s' : Shared), Inv X pins σ H s → CX X.stack H s E e s' → X.xe e s'
section
variable {X : Cx} {CX : CXT} {k : Nat} {f C : Addr} {fd : FuncData} {ps : List Str} {sp : Sp} {dvs : List V} {ds : List Value} {E : XK} {x m : Str} {p pos apos : Pos} {e o : Expr} {es : List Expr} {ta : TE} {t : TA}
theorem run_fn {pins : List (Addr × Obj)} {σ : St} {H : Hp} {s : Shared} {Q : VK} {us : List Value} {vs : List V} (F : FnOk X.prog X.w X.K X.mg X.base CX k f fd ps sp) (hr : Room k X.A) (hb : Binds X.K fd ps ds) (hd : Vals dvs ds) (hx : Passes CX X E)
    (I : Inv X pins σ H s) (r : Vals vs us) (h : sp (vs ++ dvs) H Q E) : wpAny (model X.prog X.w) X.A (call (.ref f) us) (EP X pins σ Q) X.xe s := by
  have r2 : Vals (vs ++ dvs) (us ++ ds) := r.append hd
  have hl : (us ++ ds).length = ps.length := by rw [← r2.length]; exact F.len _ _ _ _ h
  refine wpAny_call (codeAny_mono (F.run X.A X.stack s H ⟨us, []⟩ (us ++ ds) (vs ++ dvs) Q E hr I.env0 (hb s us I.kIn hl) r2 h) fun r s' hq => ?_)
  cases r with
  | error e => exact hx pins σ H s e s' I hq
  | ok fl =>
    cases fl with
    | ret u => exact I.after hq
    | next => exact False.elim hq
    | brk => exact False.elim hq
    | cont => exact False.elim hq
theorem pe_call (F : FnOk X.prog X.w X.K X.mg X.base CX k f fd ps sp) (hr : Room k X.A) (hg : Gl X x) (hm : X.mg x = some (.ref f)) (hk : PySem.W.keepIn X.K (.ref f) = true) (hb : Binds X.K fd ps ds) (hd : Vals dvs ds) (hx : Passes CX X E)
    (ha : PA X (e :: es) t) (hdb : (x == ("__debug__" : Str)) = false := by decide) (he : starEach (e :: es) X.env = (false, eval e X.env) :: starEach es X.env := by rfl) (hpl : (backTo pos (starEach es X.env)).any (·.1) = false := by rfl) :
    PE X (.Call (.Name x p) (e :: es) [] pos) (tCall sp dvs E t) := by
  intro pins s σ H Q I h
  refine wpAny_Call_Name_kw (ld_glob I hg hm ?_ hdb)
  refine PySem.W.callWith_K (h₀ := X.base) I.ok.mod.kin hk (thn (ha pos pins s σ H _ I h) fun us s1 ⟨vs, H1, I1, r, q⟩ => ⟨I1.kIn, ?_⟩) he hpl
  exact run_fn F hr hb hd hx I1 r q
theorem pe_meth {pl : Sem Bool} (he : PE X o ta) (c : Cls X.K C) (hm : Meth X.K C m f) (F : FnOk X.prog X.w X.K X.mg X.base CX k f fd ps sp) (hr : Room k X.A) (hb : Binds X.K fd ps ds) (hd : Vals dvs ds) (hx : Passes CX X E) (ha : PA X (e :: es) t)
    (hst : starEach (e :: es) X.env = (false, eval e X.env) :: starEach es X.env := by rfl) (hpl : (backTo pos (starEach es X.env)).any (·.1) = false := by rfl)
    (ht : eval (.Call (.Attribute o m apos) (e :: es) [] pos) X.env = (do
      let ov ← eval o X.env
      standAt apos.atName
      let (f, first) ← holding [ov] (getMethod ov m pl)
      callWith pos f first (backTo pos (starEach (e :: es) X.env)) (backToKw pos (keywordEach [] X.env))) := by rfl) :
    PE X (.Call (.Attribute o m apos) (e :: es) [] pos) (tMeth C m sp dvs E ta t) := by
  intro pins s σ H Q I h
  refine PySem.W.methodCall_KW (pl := pl) (thn (he pins s σ H _ I h) fun u s1 ⟨x, H1, I1, rx, a, dx, fs, ex, ea, l, q⟩ => ?_) ht
  subst ex
  obtain rfl : u = Value.ref a := rx
  refine getmeth_ok I1 ea c hm l ?_
  refine PySem.W.callWith_K (first := [.ref a]) (h₀ := X.base) I.ok.mod.kin hm.kp (thn (ha pos pins s1 σ H1 _ I1 q) fun us s2 ⟨vs, H2, I2, r, q2⟩ => ⟨I2.kIn, ?_⟩) hst hpl
  exact run_fn (us := .ref a :: us) (vs := .ref a :: vs) F hr hb hd hx I2 (.cons rfl r) q2
theorem pe_meth0 {pl : Sem Bool} (he : PE X o ta) (c : Cls X.K C) (hm : Meth X.K C m f) (F : FnOk X.prog X.w X.K X.mg X.base CX k f fd ps sp) (hr : Room k X.A) (hb : Binds X.K fd ps ds) (hd : Vals dvs ds) (hx : Passes CX X E)
    (ht : eval (.Call (.Attribute o m apos) [] [] pos) X.env = (do
      let ov ← eval o X.env
      standAt apos.atName
      let (f, first) ← holding [ov] (getMethod ov m pl)
      callWith pos f first (backTo pos (starEach [] X.env)) (backToKw pos (keywordEach [] X.env))) := by rfl) :
    PE X (.Call (.Attribute o m apos) [] [] pos) (tMeth C m sp dvs E ta tNil) := by
  intro pins s σ H Q I h
  refine PySem.W.methodCall_KW (pl := pl) (thn (he pins s σ H _ I h) fun u s1 ⟨x, H1, I1, rx, a, dx, fs, ex, ea, l, q⟩ => ?_) ht
  subst ex
  obtain rfl : u = Value.ref a := rx
  refine getmeth_ok I1 ea c hm l ?_
  exact PySem.W.callWith_K0 (first := [.ref a]) I1.kIn hm.kp (run_fn (us := [.ref a]) (vs := [.ref a]) F hr hb hd hx I1 (.cons rfl .nil) q)
structure Mk (K : PySem.W.Frag) (C f : Addr) : Prop where
  makes : PySem.W.makesIn K C = true
  init : PySem.W.findIn K (.ref C) "__init__" = some (some (.ref f))
  fn : PySem.W.isFn K (.ref f) = true
  kp : PySem.W.keepIn K (.ref C) = true
theorem run_make {pins : List (Addr × Obj)} {σ : St} {H : Hp} {s : Shared} {Q : VK} {us : List Value} {vs : List V} (M : Mk X.K C f) (F : FnOk X.prog X.w X.K X.mg X.base CX k f fd ps sp) (hr : Room (k + 1) X.A) (hb : Binds X.K fd ps ds) (hd : Vals dvs ds)
    (hx : Passes CX X E) (I : Inv X pins σ H s) (r : Vals vs us)
    (h : ∀ x dx, H x = none → H dx = none → dx ≠ x → sp (.ref x :: (vs ++ dvs)) (upd (upd H dx (.own x)) x (.ins C dx [])) (fun v H2 => v = .non ∧ Q (.ref x) H2) E) :
    wpAny (model X.prog X.w) X.A (call (.ref C) us) (EP X pins σ Q) X.xe s := by
  have hq := h (s.heap.objs.size + 1) s.heap.objs.size (I.hok.fresh (Nat.le_succ _)) (I.hok.fresh (Nat.le_refl _)) (Nat.ne_of_lt (Nat.lt_succ_self _))
  have I2 := Inv.made (C := C) I
  have r2 : Vals (V.ref (s.heap.objs.size + 1) :: (vs ++ dvs)) (Value.ref (s.heap.objs.size + 1) :: (us ++ ds)) := .cons rfl (r.append hd)
  have hl : (Value.ref (s.heap.objs.size + 1) :: us ++ ds).length = ps.length := by
    have e := r2.length
    rw [F.len _ _ _ _ hq] at e
    exact e.symm
  refine wpAny_call (make_map (f := f) I.kIn M.makes M.init (beq_iff_eq.mp M.fn) (codeAny_mono (F.run _ X.stack _ _ ⟨Value.ref (s.heap.objs.size + 1) :: us, []⟩ (Value.ref (s.heap.objs.size + 1) :: (us ++ ds)) _ _ E (hr.make C us [])
    (I2.env0.make C us []) (hb _ (Value.ref (s.heap.objs.size + 1) :: us) I2.kIn hl) r2 hq) fun r s' hq' => ?_))
  cases r with
  | error e => exact hx pins σ _ _ e s' I2 hq'
  | ok fl =>
    cases fl with
    | ret u =>
      obtain ⟨v, H', I3, rv, ev, q3⟩ := I2.after hq'
      subst ev
      exact ⟨rv, ⟨V.ref (s.heap.objs.size + 1), H', I3, rfl, q3⟩⟩
    | next => exact False.elim hq'
    | brk => exact False.elim hq'
    | cont => exact False.elim hq'
theorem pe_make (M : Mk X.K C f) (F : FnOk X.prog X.w X.K X.mg X.base CX k f fd ps sp) (hr : Room (k + 1) X.A) (hg : Gl X x) (hm : X.mg x = some (.ref C)) (hb : Binds X.K fd ps ds) (hd : Vals dvs ds) (hx : Passes CX X E)
    (ha : PA X (e :: es) t) (hdb : (x == ("__debug__" : Str)) = false := by decide) (he : starEach (e :: es) X.env = (false, eval e X.env) :: starEach es X.env := by rfl) (hpl : (backTo pos (starEach es X.env)).any (·.1) = false := by rfl) :
    PE X (.Call (.Name x p) (e :: es) [] pos) (tMake C sp dvs E t) := by
  intro pins s σ H Q I h
  refine wpAny_Call_Name_kw (ld_glob I hg hm ?_ hdb)
  refine PySem.W.callWith_K (h₀ := X.base) I.ok.mod.kin M.kp (thn (ha pos pins s σ H _ I h) fun us s1 ⟨vs, H1, I1, r, q⟩ => ⟨I1.kIn, ?_⟩) he hpl
  exact run_make M F hr hb hd hx I1 r q
end
section
variable {X : Cx} {CX : CXT} {k : Nat} {f C : Addr} {fd : FuncData} {ps ks : List Str} {sp : Sp} {E : XK} {x m : Str} {p pos apos kpos : Pos} {e o : Expr} {es : List Expr} {kws : List Keyword} {te ta : TE} {t tk : TA} {nm : Option Str}
variable {g : List Value → List Value → List Value} {gV : List V → List V → List V}
end
structure FnScope (N P : List Str) (sc : Scope) : Prop where
  kind : sc.kind = .function
  co : sc.isCoroutine = false
  gen : sc.isGenerator = false
  nd : N.Nodup
  pre : N.take P.length = P
  par : ∀ x ∈ P, sc.names.lookup x = some .local ∨ sc.names.lookup x = some .cell
  nofree : ∀ y ∈ sc.names, y.2 ≠ .free
theorem bindL_out {kindOf : Str → Option NameKind} {x : Str} : ∀ {binds : List (Str × Value)} {m : Str → Option Value}, (∀ v, (x, v) ∉ binds) → bindL kindOf binds m x = m x
  | [], _, _ => rfl
  | (n, v) :: r, m, h => by
    unfold bindL
    rw [bindL_out fun w hw => h w (List.mem_cons_of_mem _ hw)]
    split
    · have : x ≠ n := by rintro rfl; exact h v List.mem_cons_self
      simp [this]
    · rfl
theorem bindC_out {kindOf : Str → Option NameKind} {x : Str} : ∀ {binds : List (Str × Value)} {m : Str → Option Value}, (∀ v, (x, v) ∉ binds) → bindC kindOf binds m x = m x
  | [], _, _ => rfl
  | (n, v) :: r, m, h => by
    unfold bindC
    rw [bindC_out fun w hw => h w (List.mem_cons_of_mem _ hw)]
    split
    · rfl
    · have : x ≠ n := by rintro rfl; exact h v List.mem_cons_self
      simp [this]
theorem bindL_get {kindOf : Str → Option NameKind} {x : Str} {v : Value} : ∀ {P : List Str} {vs : List Value} {i : Nat} {m : Str → Option Value}, P.Nodup → P[i]? = some x → vs[i]? = some v → kindOf x = some .local →
    bindL kindOf (P.zip vs) m x = some v
  | [], _, _, _, _, h, _, _ => by simp at h
  | _ :: _, [], _, _, _, _, h, _ => by simp at h
  | p :: P, w :: vs, 0, m, nd, h1, h2, hk => by
    simp at h1 h2; subst h1; subst h2
    show bindL kindOf ((p, w) :: P.zip vs) m p = _
    unfold bindL
    rw [bindL_out fun v hv => (List.nodup_cons.mp nd).1 (List.of_mem_zip hv).1, if_pos hk]
    simp
  | p :: P, w :: vs, i + 1, m, nd, h1, h2, hk => by
    show bindL kindOf ((p, w) :: P.zip vs) m x = _
    unfold bindL
    exact bindL_get (i := i) (List.nodup_cons.mp nd).2 (by simpa using h1) (by simpa using h2) hk
theorem bindC_get {kindOf : Str → Option NameKind} {x : Str} {v : Value} : ∀ {P : List Str} {vs : List Value} {i : Nat} {m : Str → Option Value}, P.Nodup → P[i]? = some x → vs[i]? = some v → kindOf x ≠ some .local →
    bindC kindOf (P.zip vs) m x = some v
  | [], _, _, _, _, h, _, _ => by simp at h
  | _ :: _, [], _, _, _, _, h, _ => by simp at h
  | p :: P, w :: vs, 0, m, nd, h1, h2, hk => by
    simp at h1 h2; subst h1; subst h2
    show bindC kindOf ((p, w) :: P.zip vs) m p = _
    unfold bindC
    rw [bindC_out fun v hv => (List.nodup_cons.mp nd).1 (List.of_mem_zip hv).1, if_neg hk]
    simp
  | p :: P, w :: vs, i + 1, m, nd, h1, h2, hk => by
    show bindC kindOf ((p, w) :: P.zip vs) m x = _
    unfold bindC
    exact bindC_get (i := i) (List.nodup_cons.mp nd).2 (by simpa using h1) (by simpa using h2) hk
def start (N : List Str) (vs : List V) : St := vs.map some ++ List.replicate (N.length - vs.length) none
def cxOf (CX : CXT) (P : Program) (w : World) (K : PySem.W.Frag) (mg : Str → Option Value) (base : Heap) (N : List Str) (qual : Str) (scope : Scope) (f : Addr) (cd : Value) (A : Around) (outer : List Env) (s : Shared) (H : Hp) (E : XK) : Cx where
  prog := P
  w := w
  K := K
  mg := mg
  base := base
  A := A.deeper (envOfC qual scope s.heap.objs.size f cd)
  N := N
  s₀ := s
  H₀ := H
  env := envOfC qual scope s.heap.objs.size f cd
  outer := outer
  stack := envOfC qual scope s.heap.objs.size f cd :: outer
  ex := []
  calm := true
  fn := fun _ => true
  pn := []
  xe := fun e s' => wpAny (model P w) (A.deeper (envOfC qual scope s.heap.objs.size f cd)) (leaving (envOfC qual scope s.heap.objs.size f cd) e) (fun _ s'' => CX outer H s E e s'') (fun e' s'' => CX outer H s E e' s'') s'
theorem cell_has {sc : Scope} {n : Nat} {x : Str} (h : sc.names.lookup x = some .cell) : ∃ c, (cellsFrom n sc.names []).lookup x = some c := by
  have q := PySem.W.cellsFrom_some sc.names n [] (.inl h)
  exact Option.isSome_iff_exists.mp q
theorem inv_start {CX : CXT} {P : Program} {w : World} {K : PySem.W.Frag} {mg : Str → Option Value} {base : Heap} {N ps : List Str} {qual : Str} {scope : Scope} {f : Addr} {cd : Value} {A : Around} {outer : List Env} {s s1 : Shared} {H : Hp} {E : XK} {us : List Value} {vs : List V}
    (S : FnScope N ps scope) (hd : A.handled = none) (e0 : Env0 P w K mg base A outer s H) (hl : vs.length = ps.length) (r : Vals vs us)
    (x : InCallC s s.heap.objs.size (bindL (envOfC qual scope s.heap.objs.size f cd).kindOf (ps.zip us) fun _ => none) (cellsFrom (s.heap.objs.size + 1) scope.names []) (bindC (envOfC qual scope s.heap.objs.size f cd).kindOf (ps.zip us) fun _ => none) s1) :
    Inv (cxOf CX P w K mg base N qual scope f cd A outer s H E) [] (start N vs) H s1 := by
  have hpl : ps.length ≤ N.length := by have := congrArg List.length S.pre; rw [List.length_take] at this; omega
  obtain ⟨h1, tk, rfl, hk⟩ := x.done
  have noA : ∀ b : Addr, b ∉ (cxOf CX P w K mg base N qual scope f cd A outer s H E).ex := fun b z => absurd (show b ∈ ([] : List Addr) from z) (by simp)
  refine ⟨⟨e0.mod, S.kind, rfl, rfl, Nat.le_refl _, fun y z c h1 h2 => ?_, fun y hy => ?_, fun y c _ h => ?_, fun _ => hd, Around.frames_deeper e0.frames, .inr ⟨rfl, rfl⟩, fun b z => absurd z (noA b), e0.bs, e0.bsz, fun b _ _ => noA b, fun b z => absurd z (noA b), e0.funs, e0.frf⟩,
    rfl, e0.bare, Un.kept hk, ⟨_, x.toInCall.ns, fun i y v h1 h2 h3 => ?_⟩, fun y c h => ⟨_, x.cell y c h⟩, e0.hok.fresh (Nat.le_refl _), fun y c h => ?_, fun p hp => absurd (show p ∈ ([] : List (Addr × Obj)) from hp) (by simp), e0.hok.kept hk, ?_⟩
  · exact name_of_addr x.apart (PySem.mem_of_lookup h1) (PySem.mem_of_lookup h2)
  · have hy : scope.names.lookup y = some .cell ∨ scope.names.lookup y = some .free := hy
    rcases hy with hy | hy
    · exact cell_has hy
    · exact absurd rfl (S.nofree _ (PySem.mem_of_lookup hy))
  · exact Nat.le_of_lt (x.above y c (PySem.mem_of_lookup h))
  · have hi : i < vs.length := by
      unfold start at h2
      by_cases hi : i < vs.length
      · exact hi
      · rw [List.getElem?_append_right (by simpa using hi)] at h2
        rw [List.getElem?_replicate] at h2
        split at h2 <;> cases h2
    have ha : vs[i]? = some v := by
      unfold start at h2
      rw [List.getElem?_append_left (by simpa using hi), List.getElem?_map] at h2
      cases e : vs[i]? with
      | none => rw [e] at h2; cases h2
      | some a => rw [e] at h2; cases h2; rfl
    obtain ⟨u, hu, rv⟩ := r.get ha
    have hp : ps[i]? = some y := by
      rw [← S.pre, List.getElem?_take_of_lt (by omega)]; exact h1
    have ndP : ps.Nodup := by rw [← S.pre]; exact S.nd.sublist (List.take_sublist _ _)
    refine ⟨u, rv, ?_⟩
    rcases S.par y (List.mem_of_getElem? hp) with k | k
    · exact .inl ⟨k, bindL_get ndP hp hu k⟩
    · obtain ⟨c, e⟩ := cell_has (n := s.heap.objs.size + 1) k
      refine .inr ⟨.inl k, c, e, ?_⟩
      have q := x.cell y c e
      rw [bindC_get ndP hp hu (by show scope.names.lookup y ≠ _; rw [k]; decide)] at q
      exact q
  · exact e0.hok.fresh (Nat.le_of_lt (x.above y c (PySem.mem_of_lookup h)))
  · unfold start
    show _ = N.length
    rw [List.length_append, List.length_map, List.length_replicate]
    omega
theorem fn_of {CX : CXT} {P : Program} {w : World} {K : PySem.W.Frag} {mg : Str → Option Value} {base : Heap} {k : Nat} {f : Addr} {name qual : Str} {params : Arguments} {body : List Stmt} {scope : Scope} {dV kV doc pm cdv ct oc : Value} {an od : Option Addr}
    {osl : Array (Option Value)} {N ps : List Str} {sp : Sp} (lk : K.lookup f = some ⟨oc, od, .func (PySem.W.fnOf name qual params body scope dV kV doc pm an cdv ct), osl⟩) (hcd : PySem.W.codeIn K cdv qual = true) (S : FnScope N ps scope)
    (len : ∀ vs H Q E, sp vs H Q E → vs.length = ps.length)
    (hbody : ∀ (A : Around) (outer : List Env) (s : Shared) (H : Hp) (vs : List V) (Q : VK) (E : XK), Room k (A.deeper (envOfC qual scope s.heap.objs.size f cdv)) → sp vs H Q E →
      ∃ t, PSs (cxOf CX P w K mg base N qual scope f cdv A outer s H E) body t ∧ t { nx := fun _ H' => Q .non H', rt := Q } (start N vs) H) :
    FnOk P w K mg base CX (k + 1) f (PySem.W.fnOf name qual params body scope dV kV doc pm an cdv ct) ps sp := by
  refine ⟨len, fun A outer s H args us vs Q E hr e0 hb r hsp => ?_⟩
  have hl := len _ _ _ _ hsp
  have KX : K.In s.heap := e0.mod.kin.keeps fun b o e => (e0.bs b o e).1
  have lim : s.heap.NoLimit := e0.mod.nolimit.keeps fun b o e => (e0.bs b o e).1
  have hkind : ∀ y ∈ ps.zip us, scope.names.lookup y.1 = some .local ∨ (scope.names.lookup y.1 = some .cell ∧ ((cellsFrom (s.heap.objs.size + 1) scope.names []).lookup y.1).isSome = true) := fun ⟨n, v⟩ hy => by
    rcases S.par n (List.of_mem_zip hy).1 with q | q
    · exact .inl q
    · exact .inr ⟨q, PySem.W.cellsFrom_some _ _ _ (.inl q)⟩
  refine codeAny_call_function hr.depth (KX _ _ lk) rfl S.co S.gen rfl (PySem.W.codeRec_of KX hcd) (hb _ _ _ _ ?_)
  refine wpAny_newFunctionEnv_cells S.kind hkind fun env he s1 x => ?_
  subst he
  refine ⟨lim.keeps x.toInCall.keep, codeAny_func ?_⟩
  obtain ⟨t, ht, hq⟩ := hbody A outer s H vs Q E (hr.deeper _) hsp
  have I : Inv (cxOf CX P w K mg base N qual scope f cdv A outer s H E) [] (start N vs) H s1 := inv_start S hr.hd e0 hl r x
  refine wpAny_mono (ht [] s1 (start N vs) H _ I hq) (fun fl s' hs => ?_) fun e s' hs => hs
  have fin : ∀ {σ' : St} {H' : Hp} {v : V} {u : Value}, Inv (cxOf CX P w K mg base N qual scope f cdv A outer s H E) [] σ' H' s' → RelV v u → Q v H' → CE outer P w H s Q u s' :=
    fun {σ' H' v u} J rv q => ⟨v, H', J.os, J.bare, J.base, J.hok, rv, q⟩
  cases fl with
  | ret u =>
    obtain ⟨v, σ', H', J, rv, q⟩ := hs
    exact fin J rv q
  | next =>
    obtain ⟨σ', H', J, q⟩ := hs
    exact fin (v := V.non) (u := Value.none) J rfl q
  | brk =>
    obtain ⟨_, _, _, q⟩ := hs
    exact False.elim q
  | cont =>
    obtain ⟨_, _, _, q⟩ := hs
    exact False.elim q
end L2
namespace L2
open PySem PySem.Spec PyProof.Rows
section
variable {X : Cx} {x : Str} {p pos : Pos} {e : Expr} {es : List Expr} {t : TA} {id T : String} {r : List V → Hp → VK → Prop}
def tCB (r : List V → Hp → VK → Prop) (t : TA) : TE := fun σ H Q => t σ H fun vs H1 => r vs H1 Q
theorem pe_callB (hc : CallR X (.builtin id) r) (hg : Gl X x) (hm : X.mg x = none) (hv : bootBuiltins x = some (.builtin id)) (ha : PA X (e :: es) t) (hn : x ≠ "__name__" := by decide) (hdb : (x == ("__debug__" : Str)) = false := by decide)
    (he : starEach (e :: es) X.env = (false, eval e X.env) :: starEach es X.env := by rfl) (hpl : (backTo pos (starEach es X.env)).any (·.1) = false := by rfl) : PE X (.Call (.Name x p) (e :: es) [] pos) (tCB r t) := by
  intro pins s σ H Q I h
  refine wpAny_Call_Name_kw (ld_blt I hg hm hv ?_ hn hdb)
  exact PyProof.Rows.callWith_builtin1 (thn (ha pos pins s σ H _ I h) fun us s1 ⟨vs, H1, I1, r1, q1⟩ => hc pins s1 σ H1 vs us Q I1 r1 q1) he hpl
theorem pe_callTy (hc : CallR X (.type T) r) (hg : Gl X x) (hm : X.mg x = none) (hv : bootBuiltins x = some (.type T)) (ha : PA X (e :: es) t) (hn : x ≠ "__name__" := by decide) (hdb : (x == ("__debug__" : Str)) = false := by decide)
    (he : starEach (e :: es) X.env = (false, eval e X.env) :: starEach es X.env := by rfl) (hpl : (backTo pos (starEach es X.env)).any (·.1) = false := by rfl) : PE X (.Call (.Name x p) (e :: es) [] pos) (tCB r t) := by
  intro pins s σ H Q I h
  refine wpAny_Call_Name_kw (ld_blt I hg hm hv ?_ hn hdb)
  exact PyProof.Rows.callWith_type1 (thn (ha pos pins s σ H _ I h) fun us s1 ⟨vs, H1, I1, r1, q1⟩ => hc pins s1 σ H1 vs us Q I1 r1 q1) he hpl
end
end L2
namespace HT
open PySem PyProof.Rows
section
open PySem.SeqAt
open PySem.AutoSeq1 (wpAny_loadPart')
open PySem.MeetsSeq PySem.MeetsSeq2 PySem.MeetsSeq3
end
section
variable {prog : Program} {w : World} {A : Around} {E : Value → Shared → Prop} {s : Shared}
def sIx (n d : Nat) : Option Int → Nat
  | none => d
  | some v => if v < 0 then (v + (n : Int)).toNat else min v.toNat n
theorem sIx_none (n d : Nat) : sIx n d none = d := rfl
theorem sIx_nat (n d k : Nat) : sIx n d (some (k : Int)) = min k n := by
  show (if (k : Int) < 0 then ((k : Int) + (n : Int)).toNat else min (k : Int).toNat n) = min k n
  rw [if_neg (by omega), Int.toNat_natCast]
theorem sIx_le (n d : Nat) (hd : d ≤ n) (o : Option Int) : sIx n d o ≤ n := by
  cases o with
  | none => exact hd
  | some v =>
    show (if v < 0 then (v + (n : Int)).toNat else min v.toNat n) ≤ n
    by_cases hv : v < 0
    · rw [if_pos hv]; omega
    · rw [if_neg hv]; exact Nat.min_le_right _ _
theorem clip_eq (v : Int) (n d : Nat) : (if v < 0 then max (v + (n : Int)) 0 else min v (n : Int)) = ((sIx n d (some v) : Nat) : Int) := by
  show (if v < 0 then max (v + (n : Int)) 0 else min v (n : Int)) = (((if v < 0 then (v + (n : Int)).toNat else min v.toNat n) : Nat) : Int)
  by_cases hv : v < 0
  · simp only [if_pos hv]; omega
  · simp only [if_neg hv]; omega
theorem adjust_gen (lo hi : Option Int) (n : Nat) : Builtin.Slice.sliceAdjust lo hi 1 (n : Int) = (((sIx n 0 lo : Nat) : Int), ((sIx n n hi : Nat) : Int)) := by
  have h1 : ¬ ((1 : Int) < 0) := by omega
  unfold Builtin.Slice.sliceAdjust
  simp only [h1, if_false]
  refine Prod.ext ?_ ?_
  · cases lo with
    | none => rfl
    | some v => exact clip_eq v n 0
  · cases hi with
    | none => rfl
    | some v => exact clip_eq v n n
theorem places_gen (i j : Nat) : Builtin.Slice.slicePlaces (i : Int) (j : Int) 1 = j - i := by
  unfold Builtin.Slice.slicePlaces
  have h1 : (1 : Int) > 0 := by omega
  simp only [h1, if_true, Int.ediv_one]
  split <;> omega
theorem slicePart_ {v : Value} {o : Option Int} {Q : Option Int → Shared → Prop} (p : IsPart v o) (h : Q o s) : wpAny (model prog w) A (Builtin.Slice.slicePartIndex v) Q E s := by
  cases p with
  | none => exact slicePart_none h
  | int i t => exact slicePart_int h
theorem sliceApplied_gen {sl : Addr} {vl vu : Value} {lo hi : Option Int} {n : Nat} {Q : Int × Int × Nat → Shared → Prop} (hs : s.heap.IsSliceOf sl vl vu .none) (pl : IsPart vl lo) (pu : IsPart vu hi)
    (h : Q (((sIx n 0 lo : Nat) : Int), 1, sIx n n hi - sIx n 0 lo) s) : wpAny (model prog w) A (Builtin.Slice.sliceApplied (.ref sl) (pure (n : Int))) Q E s := by
  obtain ⟨os, hos, hcs, hds⟩ := id hs
  unfold Builtin.Slice.sliceApplied Builtin.Slice.sliceFields
  refine wpAny_bind (wpAny_bind (wpAny_field hos hds (x := vl) rfl (wpAny_bind (wpAny_field hos hds (x := vu) rfl (wpAny_bind (wpAny_field hos hds (x := .none) rfl (wpAny_pure ?_)))))))
  refine wpAny_bind (slicePart_none ?_)
  show wpAny _ _ (if ((1 : Int) == 0) = true then _ else _) _ _ s
  rw [if_neg (by decide)]
  refine wpAny_bind (slicePart_ pl (wpAny_bind (slicePart_ pu (wpAny_bind (wpAny_pure ?_)))))
  show wpAny _ _ (match Builtin.Slice.sliceAdjust lo hi 1 (n : Int) with | (lo, hi) => pure (lo, (1 : Int), Builtin.Slice.slicePlaces lo hi 1)) _ _ s
  rw [adjust_gen lo hi n]
  show wpAny _ _ (pure (((sIx n 0 lo : Nat) : Int), (1 : Int), Builtin.Slice.slicePlaces ((sIx n 0 lo : Nat) : Int) ((sIx n n hi : Nat) : Int) 1)) _ _ s
  rw [places_gen]
  exact wpAny_pure h
theorem pick_gen (xs : Array Value) (i k : Nat) : ((List.range k).filterMap fun (m : Nat) => xs[((i : Int) + (m : Int) * 1).toNat]?).toArray = ((xs.toList.drop i).take k).toArray := by
  have e : (fun (m : Nat) => xs[((i : Int) + (m : Int) * 1).toNat]?) = fun m => xs[i + m]? := by
    funext m
    have : ((i : Int) + (m : Int) * 1).toNat = i + m := by omega
    rw [this]
  rw [e]
  have := pick_run xs i k
  rw [List.filterMap_map] at this
  have e2 : ((fun x => xs[x]?) ∘ fun x => i + x) = fun m => xs[i + m]? := rfl
  rw [e2] at this
  rw [this]
theorem getItem_tuple_cut {t sl : Addr} {items : Array Value} {vl vu : Value} {lo hi : Option Int} {Q : Value → Shared → Prop} (ht : IsTup s.heap t items) (hs : s.heap.IsSliceOf sl vl vu .none) (pl : IsPart vl lo) (pu : IsPart vu hi)
    (hw : ¬ (sIx items.size 0 lo = 0 ∧ sIx items.size items.size hi = items.size))
    (h : Q (.ref s.heap.objs.size) { s with heap := s.heap.push { cls := .type "tuple", data := .seq ((items.toList.drop (sIx items.size 0 lo)).take (sIx items.size items.size hi - sIx items.size 0 lo)).toArray } })
    (hsz : items.size ≤ sizeLine) : wpAny (model prog w) A (getItem (.ref t) (.ref sl)) Q E s := by
  have htake : sizeOk (.seq ((items.toList.drop (sIx items.size 0 lo)).take (sIx items.size items.size hi - sIx items.size 0 lo)).toArray) := by
    show ((items.toList.drop (sIx items.size 0 lo)).take (sIx items.size items.size hi - sIx items.size 0 lo)).toArray.size ≤ sizeLine
    rw [List.size_toArray, List.length_take, List.length_drop, Array.length_toList]
    omega
  have hj : sIx items.size items.size hi ≤ items.size := sIx_le _ _ (Nat.le_refl _) hi
  obtain ⟨os, hos, hcs, hds⟩ := id hs
  have hTs : s.TypeIs (.ref sl) "slice" := ⟨os, hos, hcs⟩
  unfold getItem
  try with_reducible refine wpAny_holding ?_
  first | refine wpAny_bind (wpAny_pure ?_) | skip
  refine wpAny_bind (wpAny_sequenceKey ht.typeIs (by decide) ?_)
  refine wpAny_bind (wpAny_callSpecial?_slot (name := Str.ofString "__getitem__") ht.typeIs PyProof.Rows.slot_tuple_getitem
    (wpAny_call_entry PyProof.Rows.slot_tuple_getitem ht.typeIs entry_tuple_getitem ?_ (args_tuple_getitem _ _)))
  show wpAny _ _ (Builtin.Tuple.tupleItemsOf (.ref t) >>= _) _ _ s
  refine wpAny_bind (tupleItemsOf_ ht ?_)
  refine wpAny_bind (wpAny_typeOf hTs ?_)
  rw [if_pos (by decide)]
  refine wpAny_bind (sliceApplied_gen hs pl pu ?_)
  have hno : ¬ ((((sIx items.size 0 lo : Nat) : Int) == 0 && (1 : Int) == 1 && (sIx items.size items.size hi - sIx items.size 0 lo) == items.size) = true) := by
    intro q
    rw [Bool.and_eq_true, Bool.and_eq_true] at q
    have q1 : ((sIx items.size 0 lo : Nat) : Int) = 0 := eq_of_beq q.1.1
    have q2 : sIx items.size items.size hi - sIx items.size 0 lo = items.size := eq_of_beq q.2
    exact hw ⟨by omega, by omega⟩
  show wpAny _ _ (if (((sIx items.size 0 lo : Nat) : Int) == 0 && (1 : Int) == 1 && (sIx items.size items.size hi - sIx items.size 0 lo) == items.size) = true then _ else _) _ _ s
  rw [if_neg hno, pick_gen]
  first
    | exact wpAny_bind (m := Builtin.Tuple.tupleExact _) (wpAny_newObj_type (wpAny_pure ⟨_, rfl, wpAny_pure h⟩) htake)
    | exact wpAny_bind (m := Builtin.Tuple.tupleExact _) (wpAny_newObj_type (wpAny_bind (wpAny_pure (wpAny_pure ⟨_, rfl, wpAny_pure h⟩))) htake)
    | exact wpAny_bind (wpAny_bind (m := Builtin.Tuple.tupleExact _) (wpAny_newObj_type (wpAny_pure (wpAny_pure ⟨_, rfl, wpAny_pure h⟩)) htake))
    | exact wpAny_bind (wpAny_bind (m := Builtin.Tuple.tupleExact _) (wpAny_newObj_type (wpAny_pure ⟨_, rfl, wpAny_pure h⟩) htake))
end
end HT
namespace L2
open PySem PySem.Spec PyProof.Rows
abbrev TO := St → Hp → (Option Int → Hp → Prop) → Prop
def PO (X : Cx) (e : Option Expr) (t : TO) : Prop :=
  ∀ (pins : List (Addr × Obj)) (s : Shared) (σ : St) (H : Hp) (Q : Option Int → Hp → Prop), Inv X pins σ H s → t σ H Q →
    wpAny (model X.prog X.w) X.A (evalPart e X.env) (fun u s' => ∃ o H', Inv X pins σ H' s' ∧ IsPart u o ∧ Q o H') X.xe s
def tNoPart : TO := fun _ H Q => Q none H
def tPart (t : TE) : TO := fun σ H Q => t σ H fun x H1 => ∃ i, x = .int i ∧ Q (some i) H1
theorem intsAre_of {ns : List Int} : ∀ {us : List Value}, Vals (ns.map V.int) us → IntsAre us ns := by
  induction ns with
  | nil => intro us r; rw [List.map_nil] at r; cases r; exact .nil
  | cons n ns ih =>
    intro us r
    rw [List.map_cons] at r
    cases r with
    | cons r1 r2 =>
      obtain ⟨t, e⟩ := r1
      subst e
      exact .cons n t (ih r2)
section
variable {X : Cx} {e : Expr} {te : TE} {lo hi : Option Expr} {tl th : TO} {pos p2 : Pos}
theorem po_none : PO X none tNoPart := by
  intro pins s σ H Q I h
  rw [evalPart_none]
  exact wpAny_pure ⟨none, H, I, .none, h⟩
theorem po_some (h : PE X e te) : PO X (some e) (tPart te) := by
  intro pins s σ H Q I hw
  rw [evalPart_some]
  refine thn (h pins s σ H _ I hw) fun u s1 ⟨x, H1, I1, r1, q1⟩ => ?_
  obtain ⟨i, rfl, q⟩ := q1
  obtain ⟨t, rfl⟩ := r1
  exact ⟨some i, H1, I1, .int i t, q⟩
def SlR (X : Cx) (r : V → Option Int → Option Int → Hp → VK → Prop) : Prop :=
  ∀ (pins : List (Addr × Obj)) (s : Shared) (σ : St) (H : Hp) (x : V) (v vl vu : Value) (lo hi : Option Int) (sl : Addr) (Q : VK), Inv X pins σ H s → RelV x v → s.heap.IsSliceOf sl vl vu .none → IsPart vl lo → IsPart vu hi → r x lo hi H Q →
    ∃ T id, typeLookup (.type T) "__getitem__" = pure (some (.builtin id)) ∧ s.TypeIs v T ∧ wpAny (model X.prog X.w) X.A (getItem v (.ref sl)) (EP X pins σ Q) X.xe s
def tSl (r : V → Option Int → Option Int → Hp → VK → Prop) (te : TE) (tl th : TO) : TE := fun σ H Q => te σ H fun x H1 => tl σ H1 fun l H2 => th σ H2 fun u H3 => r x l u H3 Q
theorem pe_slice {r : V → Option Int → Option Int → Hp → VK → Prop} (hr : SlR X r) (he : PE X e te) (hl : PO X lo tl) (hu : PO X hi th) : PE X (.Subscript e (.Slice lo hi none p2) pos) (tSl r te tl th) := by
  intro pins s σ H Q I h
  refine Subscript_ (thn (he pins s σ H _ I h) fun v s1 ⟨x, H1, I1, r1, q1⟩ => ?_)
  refine wpAny_Slice (thn (hl pins s1 σ H1 _ I1 q1) fun vl s2 ⟨l, H2, I2, pl, q2⟩ => thn (hu pins s2 σ H2 _ I2 q2) fun vu s3 ⟨u, H3, I3, pu, q3⟩ => ?_)
  rw [evalPart_none]
  refine wpAny_pure ?_
  have I4 : Inv X pins σ H3 { s3 with heap := s3.heap.push { cls := .type "slice", data := .fields #[vl, vu, .none] } } := I3.kept (t' := s3.toks) fun b ob q => Heap.get?_push_of_some _ q
  obtain ⟨T, id, hT, ht, hg⟩ := hr pins { s3 with heap := s3.heap.push { cls := .type "slice", data := .fields #[vl, vu, .none] } } σ H3 x v vl vu l u s3.heap.objs.size Q I4 r1 (Heap.IsSliceOf.new ..) pl pu q3
  show wpAny (model X.prog X.w) X.A (subscriptTail e (.Slice lo hi none p2) v (.ref s3.heap.objs.size)) (EP X pins σ Q) X.xe { s3 with heap := s3.heap.push { cls := .type "slice", data := .fields #[vl, vu, .none] } }
  exact tail_any (ops := [.ref s3.heap.objs.size, v]) ht hT hg (by with_unfolding_all rfl)
def cutV (xs : List V) (lo hi : Option Int) : List V := (xs.drop (HT.sIx xs.length 0 lo)).take (HT.sIx xs.length xs.length hi - HT.sIx xs.length 0 lo)
theorem cutV_length (xs : List V) (lo hi : Option Int) : (cutV xs lo hi).length ≤ xs.length := by
  unfold cutV
  rw [List.length_take, List.length_drop]
  omega
def rSlT (K : PySem.W.Frag) : V → Option Int → Option Int → Hp → VK → Prop := fun x lo hi H Q => ∃ a xs, x = .ref a ∧ SqT K H a xs ∧
  ¬ (HT.sIx xs.length 0 lo = 0 ∧ HT.sIx xs.length xs.length hi = xs.length) ∧ ∀ p, H p = none → Q (.ref p) (upd H p (.tup (cutV xs lo hi)))
theorem sl_tup : SlR X (rSlT X.K) := by
  intro pins s σ H x v vl vu lo hi sl Q I rx hs pl pu h
  obtain ⟨a, xs, rfl, hx, hw, q⟩ := h
  cases rx
  obtain ⟨its, r, ht, hz⟩ := I.tuple hx
  have hlen : its.toArray.size = xs.length := by rw [List.size_toArray]; exact r.length.symm
  refine ⟨"tuple", _, PyProof.Rows.slot_tuple_getitem.lookup, ht.typeIs, ?_⟩
  refine HT.getItem_tuple_cut ht hs pl pu (by rw [hlen]; exact hw) ?_ (by rw [hlen]; exact hz)
  rw [hlen]
  refine ⟨.ref s.heap.objs.size, _, I.laid (t' := s.toks) (o := .tup (cutV xs lo hi)) (fun b ob q => Heap.get?_push_of_some _ q) (Nat.le_refl _) ?_, rfl, q _ (I.hok.fresh (Nat.le_refl _))⟩
  exact ⟨Nat.le_trans (cutV_length xs lo hi) hz, _, (r.drop (HT.sIx xs.length 0 lo)).take (HT.sIx xs.length xs.length hi - HT.sIx xs.length 0 lo), IsTup.new _ _⟩
end
end L2
namespace L2
open PySem PySem.Spec PyProof.Rows
def ixN (n : Nat) (i : Int) : Option Nat := if 0 ≤ i then (if i < n then some i.toNat else none) else if -(n : Int) ≤ i then some (i + n).toNat else none
def atI {α : Type} (xs : List α) (i : Int) : Option α := (ixN xs.length i).bind fun j => xs[j]?
theorem ixN_seq {n : Nat} {i : Int} {j : Nat} (h : ixN n i = some j) : seqIndex? i n = some j ∧ j < n ∧ -(n : Int) ≤ i ∧ i < n := by
  unfold ixN at h
  by_cases h0 : 0 ≤ i
  · rw [if_pos h0] at h
    by_cases h1 : i < n
    · rw [if_pos h1] at h
      have e : i.toNat = j := Option.some.inj h
      exact ⟨by rw [seqIndex_of h0 h1, e], by omega, by omega, h1⟩
    · rw [if_neg h1] at h; cases h
  · rw [if_neg h0] at h
    by_cases h1 : -(n : Int) ≤ i
    · rw [if_pos h1] at h
      have e : (i + n).toNat = j := Option.some.inj h
      exact ⟨by rw [seqIndex_neg (by omega) h1, e], by omega, h1, by omega⟩
    · rw [if_neg h1] at h; cases h
theorem atI_get {α : Type} {xs : List α} {i : Int} {v : α} (h : atI xs i = some v) : ∃ j, seqIndex? i xs.length = some j ∧ xs[j]? = some v ∧ j < xs.length ∧ -(xs.length : Int) ≤ i ∧ i < xs.length := by
  unfold atI at h
  cases e : ixN xs.length i with
  | none => rw [e] at h; cases h
  | some j =>
    rw [e] at h
    obtain ⟨h1, h2, h3, h4⟩ := ixN_seq e
    exact ⟨j, h1, h, h2, h3, h4⟩
theorem atI_nat {α : Type} {xs : List α} {j : Nat} {v : α} (h : xs[j]? = some v) : atI xs (j : Int) = some v := by
  have hj : j < xs.length := (List.getElem?_eq_some_iff.mp h).1
  have e : ixN xs.length (j : Int) = some j := by
    unfold ixN
    rw [if_pos (by omega), if_pos (by omega)]; simp
  unfold atI; rw [e]; exact h
def PlainIx (b : Expr) : Prop := ∀ o i, subscripted b false o i = operate [o, i] (getItem o i)
def IxR (X : Cx) (r : R2) : Prop :=
  ∀ (value slice : Expr) (pins : List (Addr × Obj)) (s : Shared) (σ : St) (H : Hp) (x y : V) (v u : Value) (Q : VK), Inv X pins σ H s → RelV x v → RelV y u → r x y H Q →
    subscripted slice false v u = operate [v, u] (getItem v u) → wpAny (model X.prog X.w) X.A (subscriptTail value slice v u) (EP X pins σ Q) X.xe s
def MtR (X : Cx) (id : String) (r : V → List V → Hp → VK → Prop) : Prop :=
  ∀ (pins : List (Addr × Obj)) (s : Shared) (σ : St) (H : Hp) (x : V) (xs : List V) (v : Value) (us : List Value) (Q : VK), Inv X pins σ H s → RelV x v → Vals xs us → r x xs H Q →
    wpAny (model X.prog X.w) X.A (call (.builtin id) (v :: us)) (EP X pins σ Q) X.xe s
section
variable {X : Cx} {a b : Expr} {ta tb : TE} {pos : Pos}
theorem pe_ix {r : R2} (hr : IxR X r) (ha : PE X a ta) (hb : PE X b tb) (hs : PlainIx b) : PE X (.Subscript a b pos) (tOp r ta tb) := by
  intro pins s σ H Q I h
  exact Subscript_ (binT ha hb I h fun v u s2 x y H2 I2 rx ry q => hr a b pins s2 σ H2 x y v u Q I2 rx ry q (hs _ _))
def rIxL (K : PySem.W.Frag) : R2 := fun x y H Q => ∃ p xs i v, x = .ref p ∧ y = .int i ∧ SqL K H p xs ∧ atI xs i = some v ∧ Q v H
def rIxT (K : PySem.W.Frag) : R2 := fun x y H Q => ∃ p xs i v, x = .ref p ∧ y = .int i ∧ SqT K H p xs ∧ atI xs i = some v ∧ Q v H
def rIxS : R2 := fun x y H Q => ∃ z i c, x = .str z ∧ y = .int i ∧ z.length ≤ sizeLine ∧ atI z.cps.toList i = some c ∧ Q (.str ⟨#[c]⟩) H
theorem ix_list : IxR X (rIxL X.K) := by
  intro value slice pins s σ H x y v u Q I rx ry h hs
  obtain ⟨p, xs, i, z, rfl, rfl, hq, he, q⟩ := h
  cases rx
  obtain ⟨t, rfl⟩ := ry
  obtain ⟨its, r, pl, hz⟩ := I.list hq
  obtain ⟨j, h1, h2, h3, h4, h5⟩ := atI_get he
  obtain ⟨w, ew, rw'⟩ := r.get h2
  have hl := r.length
  have hn := line63
  have fin : EP X pins σ Q w s := ⟨z, H, I, rw', q⟩
  by_cases h0 : 0 ≤ i
  · have hj : i.toNat = j := by
      rw [seqIndex_of h0 h5] at h1
      exact Option.some.inj h1
    exact item_listR pl.isList h0 (by omega) (by rw [hj]; simpa using ew) fin hs
  · have hj : (i + (its.toArray.size : Int)).toNat = j := by
      rw [seqIndex_neg (by omega) h4] at h1
      rw [List.size_toArray, ← hl]
      exact Option.some.inj h1
    exact subscriptTail_builtinR (x := w) pl.isList.typeIs slot_list_getitem.lookup
      (wpAny_getItem_list_neg (Q := fun r s' => r = w ∧ EP X pins σ Q r s') pl.isList (by omega) (by rw [List.size_toArray] <;> omega) (by omega) (by rw [hj]; simpa using ew) ⟨rfl, fin⟩) hs
theorem ix_tup : IxR X (rIxT X.K) := by
  intro value slice pins s σ H x y v u Q I rx ry h hs
  obtain ⟨p, xs, i, z, rfl, rfl, hq, he, q⟩ := h
  cases rx
  obtain ⟨t, rfl⟩ := ry
  obtain ⟨its, r, pl, hz⟩ := I.tuple hq
  obtain ⟨j, h1, h2, h3, h4, h5⟩ := atI_get he
  obtain ⟨w, ew, rw'⟩ := r.get h2
  have hl := r.length
  have hn := line63
  have fin : EP X pins σ Q w s := ⟨z, H, I, rw', q⟩
  exact subscriptTail_builtinR (x := w) pl.typeIs slot_tuple_getitem.lookup
    (getItem_tuple (j := j) (Q := fun r s' => r = w ∧ EP X pins σ Q r s') pl (by omega) (by omega) (by rw [List.size_toArray, ← hl]; exact h1) (by simpa using ew) ⟨rfl, fin⟩) hs
theorem ix_str : IxR X rIxS := by
  intro value slice pins s σ H x y v u Q I rx ry h hs
  obtain ⟨z, i, c, rfl, rfl, hz, he, q⟩ := h
  obtain ⟨t, rfl⟩ := rx
  obtain ⟨t', rfl⟩ := ry
  obtain ⟨j, h1, h2, h3, h4, h5⟩ := atI_get he
  have hl : z.cps.toList.length = z.length := by simp [Str.length]
  rw [hl] at h1 h4 h5
  have hn := line63
  exact tail_any (typeIs_str s z t) slot_str_getitem.lookup (getItem_str (c := c) (by
    have e1 : decide (i < -(2 ^ 63 : Int)) = false := decide_eq_false (by omega)
    have e2 : decide (i ≥ 2 ^ 63) = false := decide_eq_false (by omega)
    rw [e1, e2, Bool.or_false]) (by rw [h1]; simpa using h2) ⟨.str ⟨#[c]⟩, H, I.tok _, ⟨_, rfl⟩, q⟩) hs
theorem slice_bounds (lo hi : Option Int) (n : Nat) : (sliceBounds lo hi none n).1 = ((HT.sIx n 0 lo : Nat) : Int) ∧ (sliceBounds lo hi none n).2.1 = ((HT.sIx n n hi : Nat) : Int) ∧ (sliceBounds lo hi none n).2.2 = 1 := by
  refine ⟨?_, ?_, rfl⟩
  · cases lo with
    | none => simp [sliceBounds, HT.sIx]
    | some i =>
      simp only [sliceBounds, HT.sIx, Option.getD_none, show (1 : Int) > 0 by decide, if_true]
      by_cases h : i < 0
      · simp only [h, if_true] <;> omega
      · simp only [h, if_false] <;> omega
  · cases hi with
    | none => simp [sliceBounds, HT.sIx]
    | some i =>
      simp only [sliceBounds, HT.sIx, Option.getD_none, show (1 : Int) > 0 by decide, if_true]
      by_cases h : i < 0
      · simp only [h, if_true] <;> omega
      · simp only [h, if_false] <;> omega
theorem slicePick_cut (its : List Value) (lo hi : Option Int) : slicePick its.toArray lo hi none = ((its.drop (HT.sIx its.length 0 lo)).take (HT.sIx its.length its.length hi - HT.sIx its.length 0 lo)).toArray := by
  obtain ⟨h1, h2, h3⟩ := slice_bounds lo hi its.toArray.size
  unfold slicePick
  rw [h1, h2, h3]
  simp only [sliceRange_one, pick_run, List.size_toArray] <;> rfl
def rSlL (K : PySem.W.Frag) : V → Option Int → Option Int → Hp → VK → Prop := fun x lo hi H Q => ∃ a xs, x = .ref a ∧ SqL K H a xs ∧ ∀ p, H p = none → Q (.ref p) (upd H p (.lst (cutV xs lo hi)))
theorem sl_list : SlR X (rSlL X.K) := by
  intro pins s σ H x v vl vu lo hi sl Q I rx hs pl pu h
  obtain ⟨a, xs, rfl, hx, q⟩ := h
  cases rx
  obtain ⟨its, r, ht, hz⟩ := I.list hx
  have hlen := r.length
  refine ⟨"list", _, slot_list_getitem.lookup, ht.isList.typeIs, ?_⟩
  refine wpAny_getItem_list_slice ht.isList hs pl pu .none (by simp) ?_ (by rw [List.size_toArray] <;> omega)
  rw [slicePick_cut, ← hlen]
  refine ⟨.ref s.heap.objs.size, _, I.laid (t' := s.toks) (o := .lst (cutV xs lo hi)) (fun b ob q => Heap.get?_push_of_some _ q) (Nat.le_refl _) ?_, rfl, q _ (I.hok.fresh (Nat.le_refl _))⟩
  exact ⟨Nat.le_trans (cutV_length xs lo hi) hz, _, 0, (r.drop (HT.sIx xs.length 0 lo)).take (HT.sIx xs.length xs.length hi - HT.sIx xs.length 0 lo), Heap.get?_push_size _ rfl⟩
theorem call_len_seq : CallR X (.builtin "len") (fun xs H Q => ∃ p ys, xs = [.ref p] ∧ (SqL X.K H p ys ∨ SqT X.K H p ys) ∧ Q (.int ys.length) H) := by
  intro pins s σ H xs us Q I r h
  obtain ⟨p, ys, rfl, hq, q⟩ := h
  obtain ⟨u, rfl, rx⟩ := vals1 r
  cases rx
  have hn := line63
  rcases hq with hq | hq
  · obtain ⟨its, r', pl, hz⟩ := I.list hq
    have hlen := r'.length
    exact Calls.call_len_list pl.isList (by simp only [List.size_toArray] <;> omega) ⟨.int ys.length, H, I.tok _, ⟨s.toks + 1, by rw [List.size_toArray, hlen]⟩, q⟩
  · obtain ⟨its, r', pl, hz⟩ := I.tuple hq
    have hlen := r'.length
    exact len_tuple pl (by simp only [List.size_toArray] <;> omega) ⟨.int ys.length, H, I.tok _, ⟨s.toks + 1, by rw [List.size_toArray, hlen]⟩, q⟩
theorem call_len_str : CallR X (.builtin "len") (fun xs H Q => ∃ z, xs = [.str z] ∧ z.length ≤ sizeLine ∧ Q (.int z.length) H) := by
  intro pins s σ H xs us Q I r h
  obtain ⟨z, rfl, hz, q⟩ := h
  obtain ⟨u, rfl, t, rfl⟩ := vals1 r
  have hn := line63
  exact len_str (by omega) ⟨.int z.length, H, I.tok _, ⟨_, rfl⟩, q⟩
theorem call_list_of : CallR X (.type "list") (fun xs H Q => ∃ p ys, xs = [.ref p] ∧ (SqL X.K H p ys ∨ SqT X.K H p ys) ∧ ∀ l, H l = none → Q (.ref l) (upd H l (.lst ys))) := by
  intro pins s σ H xs us Q I r h
  obtain ⟨p, ys, rfl, hq, q⟩ := h
  obtain ⟨u, rfl, rx⟩ := vals1 r
  cases rx
  have fin : ∀ (its : List Value), Vals ys its → ys.length ≤ sizeLine → ∀ (h' : Heap) (c' : Nat), (∀ b o', s.heap.get? b = some o' → h'.get? b = some o') →
      h'.get? s.heap.objs.size = some { cls := .type "list", dict := none, data := .seq its.toArray c', slots := #[] } → EP X pins σ Q (.ref s.heap.objs.size) { s with heap := h' } := fun its r' hz h' c' kp e =>
    ⟨.ref s.heap.objs.size, _, I.laid (t' := s.toks) kp (Nat.le_refl _) (show ObjOk X.prog X.w _ h' _ (.lst ys) from ⟨hz, its, c', r', e⟩), rfl, q _ (I.hok.fresh (Nat.le_refl _))⟩
  rcases hq with hq | hq
  · obtain ⟨its, r', pl, hz⟩ := I.list hq
    have hlen := r'.length
    obtain ⟨o, ho, hc, n, hd⟩ := pl.isList
    exact call_list_seq p (.inl rfl) ho hc hd (fun h' c' kp e => fin its r' hz h' c' kp e) (by simp only [List.size_toArray] <;> omega)
  · obtain ⟨its, r', pl, hz⟩ := I.tuple hq
    have hlen := r'.length
    obtain ⟨o, ho, hc, n, hd⟩ := pl
    exact call_list_seq p (.inr rfl) ho hc hd (fun h' c' kp e => fin its r' hz h' c' kp e) (by simp only [List.size_toArray] <;> omega)
theorem call_tuple_of : CallR X (.type "tuple") (fun xs H Q => ∃ p ys, xs = [.ref p] ∧ ((SqL X.K H p ys ∧ ∀ l, H l = none → Q (.ref l) (upd H l (.tup ys))) ∨ (SqT X.K H p ys ∧ Q (.ref p) H))) := by
  intro pins s σ H xs us Q I r h
  obtain ⟨p, ys, rfl, h⟩ := h
  obtain ⟨u, rfl, rx⟩ := vals1 r
  cases rx
  rcases h with ⟨hq, q⟩ | ⟨hq, q⟩
  · obtain ⟨its, r', pl, hz⟩ := I.list hq
    have hlen := r'.length
    refine call_tuple_list pl.isList (fun h' kp => ?_) (by simp only [List.size_toArray] <;> omega)
    have I1 : Inv X pins σ H { s with heap := h' } := I.kept (t' := s.toks) kp
    have I2 : Inv X pins σ (upd H h'.objs.size (.tup ys)) { s with heap := h'.push { cls := .type "tuple", data := .seq its.toArray } } :=
      I1.laid (t' := s.toks) (fun b o e => Heap.get?_push_of_some _ e) (Nat.le_refl _) (show ObjOk X.prog X.w _ _ _ (.tup ys) from ⟨hz, its, r', IsTup.new _ _⟩)
    exact ⟨.ref h'.objs.size, _, I2, rfl, q _ (I1.hok.fresh (Nat.le_refl _))⟩
  · obtain ⟨its, r', pl, hz⟩ := I.tuple hq
    exact call_tuple_same pl ⟨.ref p, H, I, rfl, q⟩
def tyV (K : PySem.W.Frag) (T : String) (x : V) (H : Hp) : Prop := match x with
  | .str _ => T = "str"
  | .int _ => T = "int"
  | .ref p => (T = "list" ∧ ∃ xs, SqL K H p xs) ∨ (T = "tuple" ∧ ∃ o, K.lookup p = some o ∧ o.cls = .type "tuple" ∧ o.dict = none) ∨
      (T = "dict" ∧ ((∃ kvs, H p = some (.dK kvs)) ∨ ∃ kvs, H p = some (.dT kvs))) ∨ (T = "set" ∧ ∃ S n, H p = some (.set S n))
  | _ => False
theorem tyV_is {pins : List (Addr × Obj)} {σ : St} {H : Hp} {s : Shared} {T : String} {x : V} {v : Value} (I : Inv X pins σ H s) (r : RelV x v) (ty : tyV X.K T x H) :
    s.TypeIs v T ∧ ∀ a, v = .ref a → ∃ ob, s.heap.get? a = some ob ∧ ob.dict = none := by
  cases x with
  | str z =>
    obtain ⟨t, rfl⟩ := r
    cases (show T = "str" from ty)
    exact ⟨typeIs_str s z t, fun _ e => nomatch e⟩
  | int i =>
    obtain ⟨t, rfl⟩ := r
    cases (show T = "int" from ty)
    exact ⟨typeIs_int s i t, fun _ e => nomatch e⟩
  | ref p =>
    cases r
    rcases ty with ⟨rfl, xs, hq⟩ | ⟨rfl, o, hk, hc, hd⟩ | ⟨rfl, hk⟩ | ⟨rfl, S, n, hk⟩
    · obtain ⟨its, _, pl, _⟩ := I.list hq
      refine ⟨pl.isList.typeIs, fun a e => ?_⟩
      cases e
      obtain ⟨o, n, e, c, hd, _⟩ := pl
      exact ⟨o, e, hd⟩
    · refine ⟨⟨o, I.kIn p o hk, hc⟩, fun a e => ?_⟩
      cases e
      exact ⟨o, I.kIn _ o hk, hd⟩
    · have z : ∃ o, s.heap.get? p = some o ∧ o.ExactDict := by
        rcases hk with ⟨kvs, hk⟩ | ⟨kvs, hk⟩
        · obtain ⟨_, _, _, _, o, _, _, e, ex, _⟩ := I.hok p _ hk
          exact ⟨o, e, ex⟩
        · obtain ⟨_, _, _, _, o, _, _, e, ex, _⟩ := I.hok p _ hk
          exact ⟨o, e, ex⟩
      obtain ⟨o, e, ex⟩ := z
      refine ⟨⟨o, e, ex.1⟩, fun a e2 => ?_⟩
      cases e2
      exact ⟨o, e, ex.2.1⟩
    · obtain ⟨o, _, _, _, e, ex, _⟩ := I.hok p _ hk
      refine ⟨⟨o, e, ex.1⟩, fun a e2 => ?_⟩
      cases e2
      exact ⟨o, e, ex.2.1⟩
  | _ => exact False.elim ty
def tBM0 (K : PySem.W.Frag) (T : String) (r : V → List V → Hp → VK → Prop) (to : TE) : TE := fun σ H Q => to σ H fun x H1 => tyV K T x H1 ∧ r x [] H1 Q
def tBM (K : PySem.W.Frag) (T : String) (r : V → List V → Hp → VK → Prop) (to : TE) (t : TA) : TE := fun σ H Q => to σ H fun x H1 => tyV K T x H1 ∧ t σ H1 fun xs H2 => r x xs H2 Q
variable {o e : Expr} {es : List Expr} {to : TE} {t : TA} {name : Str} {apos cpos : Pos} {T id : String} {r : V → List V → Hp → VK → Prop}
theorem pe_bm0 (pa : PlainAttrs T) (slot : Slot T name id) (hty : typeOf (.builtin id) = pure (.type "method_descriptor")) (hm : MtR X id r) (ho : PE X o to)
    (hbase : attributeBase o name X.env (eval o X.env) = eval o X.env := by rfl) (hline : (apos.endLine == cpos.line) = true := by rfl) : PE X (.Call (.Attribute o name apos) [] [] cpos) (tBM0 X.K T r to) := by
  intro pins s σ H Q I h
  refine wpAny_Call_method0_late hbase hline (thn (ho pins s σ H _ I h) fun v s1 ⟨x, H1, I1, r1, ty, q1⟩ => ?_)
  obtain ⟨h1, h2⟩ := tyV_is I1 r1 ty
  exact ⟨T, id, pa, slot, hty, h1, h2, Calls.callWith_builtin rfl (PySem.evalArgs_none (hm pins s1 σ H1 x [] v [] Q I1 r1 .nil q1))⟩
theorem pe_bm (pa : PlainAttrs T) (slot : Slot T name id) (hty : typeOf (.builtin id) = pure (.type "method_descriptor")) (hm : MtR X id r) (ho : PE X o to) (ha : PA X (e :: es) t)
    (hbase : attributeBase o name X.env (eval o X.env) = eval o X.env := by rfl)
    (hfew : ((backTo cpos (starEach (e :: es) X.env)).all (fun x => !x.1) && (backToKw cpos (keywordEach [] X.env)).all (fun x => x.1.isSome)
      && decide ((e :: es).length + ([] : List Keyword).length + (if ([] : List Keyword).isEmpty then 0 else 1) < 30)) = true := by rfl)
    (hline : (apos.endLine == cpos.line) = true := by rfl) (hs : starEach (e :: es) X.env = (false, eval e X.env) :: starEach es X.env := by rfl) (hplain : (backTo cpos (starEach es X.env)).any (·.1) = false := by rfl) :
    PE X (.Call (.Attribute o name apos) (e :: es) [] cpos) (tBM X.K T r to t) := by
  intro pins s σ H Q I h
  refine wpAny_Call_method_late hbase hfew hline rfl (thn (ho pins s σ H _ I h) fun v s1 ⟨x, H1, I1, r1, ty, q1⟩ => ?_)
  obtain ⟨h1, h2⟩ := tyV_is I1 r1 ty
  refine ⟨T, id, pa, slot, hty, h1, h2, ?_⟩
  have hA := ha cpos pins s1 σ H1 _ I1 q1
  rw [hs] at hA ⊢
  refine Calls.callWith_builtin (by show (false || (backTo cpos (starEach es X.env)).any (·.1)) = false; rw [hplain] <;> rfl) (Calls.evalArgs_plain ?_)
  exact thn hA fun us s2 ⟨vs, H2, I2, r2, q2⟩ => hm pins s2 σ H2 x vs v us Q I2 r1 r2 q2
end
end L2
namespace L2
open PySem PySem.Spec PyProof.Rows
def MtM (X : Cx) (id : String) (r : V → List V → Hp → VK → Prop) : Prop :=
  ∀ (pins : List (Addr × Obj)) (s : Shared) (σ : St) (H : Hp) (x : V) (xs : List V) (v : Value) (us : List Value) (Q : VK), Inv X pins σ H s → RelV x v → Vals xs us → r x xs H Q →
    wpAny (model X.prog X.w) X.A (call (.builtin id) (v :: us)) (EP X pins σ Q) X.xe s
theorem Vals.one : ∀ {x : V} {us : List Value}, Vals [x] us → ∃ u, us = [u] ∧ RelV x u
  | _, _, .cons r .nil => ⟨_, rfl, r⟩
theorem Vals.zero : ∀ {us : List Value}, Vals [] us → us = []
  | _, .nil => rfl
section
variable {X : Cx} {pins : List (Addr × Obj)} {σ : St} {H : Hp} {s : Shared} {l b : Addr} {xs ys zs : List V}
theorem Inv.lset {its its' : List Value} {n : Nat} {f : Array Value → Array Value} {t' : Nat} (I : Inv X pins σ H s) (hH : H l = some (.lst xs))
    (e : s.heap.get? l = some { cls := .type "list", data := .seq its.toArray n }) (hf : f its.toArray = its'.toArray) (hv : Vals ys its') (hz : ys.length ≤ sizeLine) :
    Inv X pins σ (upd H l (.lst ys)) { s with heap := s.heap.update l (Obj.mapSeq f), toks := t' } := by
  have q := PySem.IsL.update e f
  rw [hf] at q
  refine I.write (x := l) (e := l) (by rw [hH]; exact trivial) (.inl rfl) (fun b' u hb hu => (Heap.get?_update_other s.heap (Obj.mapSeq f) (Ne.symm hb)).trans hu) ⟨_, q⟩ ?_
  exact ⟨hz, its', _, hv, q⟩
theorem Inv.lnew {its : List Value} {t' : Nat} (I : Inv X pins σ H s) (hv : Vals ys its) (hz : ys.length ≤ sizeLine) :
    Inv X pins σ (upd H s.heap.objs.size (.lst ys)) { s with heap := s.heap.push { cls := .type "list", data := .seq its.toArray }, toks := t' } :=
  I.laid (fun _ _ q => Heap.get?_push_of_some _ q) (Nat.le_refl _) ⟨hz, its, 0, hv, Heap.get?_push_size _ rfl⟩
theorem Inv.fresh (I : Inv X pins σ H s) : H s.heap.objs.size = none := I.hok.fresh (Nat.le_refl _)
theorem Inv.lstM (I : Inv X pins σ H s) (hH : H l = some (.lst xs)) : xs.length ≤ sizeLine ∧ ∃ (its : List Value) (n : Nat), Vals xs its ∧ xs.length = its.length ∧ s.heap.get? l = some { cls := .type "list", data := .seq its.toArray n } := by
  obtain ⟨z, its, n, r, e⟩ := I.hok l _ hH
  exact ⟨z, its, n, r, r.length, e⟩
end
section
variable {X : Cx}
def rAppend : V → List V → Hp → VK → Prop := fun x vs H Q => ∃ l xs y, x = .ref l ∧ vs = [y] ∧ H l = some (.lst xs) ∧ xs.length < sizeLine ∧ Q .non (upd H l (.lst (xs ++ [y])))
theorem mt_append : MtM X "list.append" rAppend := by
  intro pins s σ H x vs v us Q I rx rv h
  obtain ⟨l, xs, y, rfl, rfl, hH, hz, q⟩ := h
  cases rx
  obtain ⟨u, rfl, ru⟩ := rv.one
  obtain ⟨z, its, n, r, hl, e⟩ := I.lstM hH
  refine call_meets F.slot_list_append ⟨_, e, rfl⟩ F.entry_list_append (F.args_list_append_2 _ _) (PySem.list_append l its.toArray n u (by rw [List.size_toArray]; omega)) ⟨e, ?_⟩
  refine ⟨.non, _, I.lset (its' := its ++ [u]) hH e (by simp) (r.append (.cons ru .nil)) ?_, rfl, q⟩
  rw [List.length_append, List.length_singleton]
  omega
def rClear : V → List V → Hp → VK → Prop := fun x vs H Q => ∃ l xs, x = .ref l ∧ vs = [] ∧ H l = some (.lst xs) ∧ Q .non (upd H l (.lst []))
theorem mt_clear : MtM X "list.clear" rClear := by
  intro pins s σ H x vs v us Q I rx rv h
  obtain ⟨l, xs, rfl, rfl, hH, q⟩ := h
  cases rx
  have hus := rv.zero
  subst hus
  obtain ⟨z, its, n, r, hl, e⟩ := I.lstM hH
  refine call_meets F.slot_list_clear ⟨_, e, rfl⟩ F.entry_list_clear (F.args_list_clear_1 _) (AutoSeq1.list_clear_list_0 l its.toArray n (by rw [List.size_toArray]; omega)) ⟨e, ?_⟩
  exact ⟨.non, _, I.lset (its' := []) (ys := []) hH e rfl .nil (Nat.zero_le _), rfl, q⟩
def rCat : R2 := fun x y H Q => ∃ l b xs zs, x = .ref l ∧ y = .ref b ∧ H l = some (.lst xs) ∧ H b = some (.lst zs) ∧ xs.length + zs.length ≤ sizeLine ∧ ∀ p, H p = none → Q (.ref p) (upd H p (.lst (xs ++ zs)))
theorem op_cat : OpR X (binaryOp .Add) rCat := by
  intro pins s σ H x y v u Q I rx ry h
  obtain ⟨l, b, xs, zs, rfl, rfl, hH, hB, hz, q⟩ := h
  cases rx
  cases ry
  obtain ⟨z, its, n, r, hl, e⟩ := I.lstM hH
  obtain ⟨z2, its2, n2, r2, hl2, e2⟩ := I.lstM hB
  refine PySem.P.add_list e e2 ?_ (by rw [List.size_toArray, List.size_toArray]; omega)
  have ea : its.toArray ++ its2.toArray = (its ++ its2).toArray := by simp
  rw [ea]
  exact ⟨.ref _, _, I.lnew (t' := s.toks) (r.append r2) (by rw [List.length_append]; omega), rfl, q _ I.fresh⟩
end
section
variable {prog : Program} {w : World} {A : Around} {E : Value → Shared → Prop} {s : Shared}
end
section
variable {X : Cx}
end
end L2
namespace Att
open PySem PySem.W PySem.Calls PyProof.Rows
theorem ints_of_wellAll {P : Params} {h : Heap} : ∀ (ns : List Int) (vs : List Value), WellAll P h vs (ns.map WData.int) → IntsAre vs ns := by
  intro ns
  induction ns with
  | nil =>
    intro vs w
    rw [List.map_nil] at w
    cases w
    exact .nil
  | cons n ns ih =>
    intro vs w
    rw [List.map_cons] at w
    cases w with
    | cons a b =>
      cases a
      exact .cons _ _ (ih _ b)
theorem script_of {l : OpenLaw} {n : Nat} (hn : l.most = some n) {P : Params} {h : Heap} {args : List WData} {vals : List Value}
    (hpre : l.row.toRowW.claim.pre args = true) (hwl : WellAll P h vals args) :
    ∃ a vs ns, vals = [Value.ref a] ∧ args = [WData.list (ns.map WData.int)] ∧ h.get? a = some { cls := .type "list", data := .seq vs.toArray } ∧ IntsAre vs ns ∧ ns.length ≤ n := by
  have hsh : WShape.hasAll [] args [.list .int] = true := (pre_splitW hpre).1
  have hc : l.pre.holds [] { args := args } = true := (pre_splitW hpre).2
  obtain ⟨d, r, rfl, h1, h2⟩ := hasAllW_cons hsh
  obtain rfl := hasAllW_nil h2
  obtain ⟨xs, rfl, h3⟩ := hasW_list h1
  obtain ⟨ns, rfl⟩ := items_int h3
  have hlen : ns.length ≤ n := by
    unfold OpenLaw.pre at hc
    have h4 : (WTm.not (.lt (.lit (.int (n : Int))) (.len (.arg 0)))).holds [] { args := [.list (ns.map .int)] } = true := by
      have h4 := (holds_andW hc).1
      rw [hn] at h4
      exact h4
    have h5 := condW_of h4 (w_not (w_lt w_lit (w_len_list (w_arg rfl))))
    rw [List.length_map] at h5
    refine Nat.le_of_not_lt fun q => ?_
    have q' : (n : Int) < ((ns.length : Nat) : Int) := by omega
    first
      | (rw [decide_eq_true q'] at h5; exact absurd h5 (by decide))
      | (simp at h5; omega)
  cases hwl with
  | cons w1 w2 =>
    cases w2
    cases w1 with
    | list ho hall => exact ⟨_, _, ns, rfl, rfl, ho, ints_of_wellAll ns _ hall, hlen⟩
theorem post_true (l : OpenLaw) (args : List WData) : l.row.toRowW.claim.post args (.bool true) args = true :=
  postW_of (r := l.row.toRowW) (X := (true == true))
    (show WShape.has [] (.bool true) .bool = true by first | rfl | decide | simp [WShape.has, WShape.arms, WShape.armsAll])
    (show (WTm.eq .res (.lit (.bool true))).value [] { args := args, res := some (.bool true), after := args } = some (.bool (true == true)) from w_eq_bool (w_res rfl) w_lit) rfl
theorem attach_call {l : OpenLaw} {n : Nat} {q : Program} {loose : List Str} {XP : (Str → Option Value) → Heap → Prop} {YP : World → Heap → Prop} {d : DefRec}
    (hn : l.most = some n) (hdf : d.params.defaults = [])
    (call : ∀ (w : World) (s₀ s₁ : Shared) (mg mb : Str → Option Value) (fa : Addr) (o : Obj) (pm cd doc : Value) (a : Addr) (vs : List Value) (ns : List Int),
      Ground q loose [] XP w s₀ mg mb s₁.heap → YP w s₁.heap →
      s₁.heap.get? fa = some o → o.data = .func (docDef d.name d.params d.body d.scope pm cd doc) → s₁.heap.CodeRec cd d.name → mg d.name = some (.ref fa) →
      s₁.heap.get? a = some { cls := .type "list", data := .seq vs.toArray } → IntsAre vs ns → ns.length ≤ n → s₁.gens = #[] →
      codeAny (model l.prog w) callerA (.call (.ref fa) ⟨[.ref a], []⟩) (fun r s' => r = .ok (.ret (.bool true)) ∧ OldK s₁.heap s'.heap ∧ s'.os = s₁.os ∧ AllBare s'.gens) s₁) :
    WalkO q loose XP YP l.row.toRowW d [] (fun f vs => PySem.call f vs) := by
  intro w s₀ s₁ mg mb G Y fa o pm cd doc dV kV ho hd hcd hD hmg hg args vals as hpre hlay hrd hwl hlo
  obtain rfl : dV = .none := Dflts.none hD hdf
  obtain rfl : kV = .none := Dflts.noKw hD
  obtain ⟨a, vs, ns, rfl, rfl, hobj, hints, hlen⟩ := script_of hn hpre hwl
  refine enter_call (codeAny_mono (call w s₀ s₁ mg mb fa o pm cd doc a vs ns G Y ho (fd_plain hd) hcd hmg hobj hints hlen hg) fun r s' hq => ?_)
  obtain ⟨rfl, h2, h3, h4⟩ := hq
  exact ⟨.inl ⟨.bool true, .bool true, [], rfl, fun _ => rfl, .bool true, post_true l _, fun _ => ⟨List.Pairwise.nil, fun _ hm => (nomatch hm)⟩⟩, h2, h3, h4⟩
section
variable {prog : Program} {w : World} {A : Around} {E : Value → Shared → Prop} {s : Shared} {K : Frag}
end
end Att
namespace L2
open PySem PySem.Spec PyProof.Rows
theorem vals_ints : ∀ {vs : List Value} {ns : List Int}, IntsAre vs ns → Vals (ns.map V.int) vs
  | _, _, .nil => .nil
  | _, _, .cons n t h => .cons ⟨t, rfl⟩ (vals_ints h)
def Only (H : Hp) : Prop := ∀ b, H b = none ∨ ∃ o xs, H b = some (.frz o (.lst xs))
theorem law_call {P : Program} {w : World} {K : PySem.W.Frag} {mg mb : Str → Option Value} {CX : CXT} {k : Nat} {fa a : Addr} {fd : FuncData} {x : Str} {sp : Sp} {s₁ : Shared} {vs : List Value} {ns : List Int}
    (KX : K.In s₁.heap) (hns : s₁.heap.Ns mainGlobals mg) (hb : s₁.heap.Ns builtinsNs mb) (hbb : ∀ x : Str, x ≠ "__name__" → mb x = bootBuiltins x) (hlim : s₁.heap.NoLimit) (hg : s₁.gens = #[])
    (ha : s₁.heap.get? a = some { cls := .type "list", data := .seq vs.toArray }) (hi : IntsAre vs ns) (hl : ns.length ≤ sizeLine) (hr : Room k callerA)
    (F : ∀ base : Heap, K.In base → base.Ns mainGlobals mg → FnOk P w K mg base CX k fa fd [x] sp) (hbind : ∀ (s : Shared) (u : Value), BindsTo s fd ⟨[u], []⟩ [(x, u)])
    (hsp : ∀ H : Hp, Only H → SqL K H a (ns.map V.int) → sp [.ref a] H (fun v _ => v = .bl true) fun _ _ _ => False)
    (hCX : ∀ H e s', CX [] H s₁ (fun _ _ _ => False) e s' → False) :
    codeAny (model P w) callerA (.call (.ref fa) ⟨[.ref a], []⟩) (fun r s' => r = .ok (.ret (.bool true)) ∧ OldK s₁.heap s'.heap ∧ s'.os = s₁.os ∧ AllBare s'.gens) s₁ := by
  have rv := vals_ints hi
  have lenV := hi.length
  have core : ∀ H : Hp, Only H → SqL K H a (ns.map V.int) → HOk P w H s₁.heap → (∀ b, H b ≠ none → b = a) → (H a ≠ none → K.lookup a = none) →
      codeAny (model P w) callerA (.call (.ref fa) ⟨[.ref a], []⟩) (fun r s' => r = .ok (.ret (.bool true)) ∧ OldK s₁.heap s'.heap ∧ s'.os = s₁.os ∧ AllBare s'.gens) s₁ := by
    intro H hO hS hok hA hK
    have base_of : ∀ {b : Addr} {o : Obj}, s₁.heap.get? b = some o → H b = none → (hidT s₁.heap H).get? b = some o := fun e n => hidT_get e n
    have noA : ∀ {b : Addr} {o : Obj} {es : Array DictEntry} {ep : Nat}, s₁.heap.get? b = some o → o.data = .dict es ep → H b = none := fun {b o es ep} e d => by
      cases q : H b with
      | none => rfl
      | some u =>
        have e' : b = a := hA b (by rw [q]; simp)
        subst e'
        rw [ha] at e; cases e
        have d' : Data.seq vs.toArray _ = Data.dict es ep := d
        cases d'
    have nsK : ∀ {b : Addr} {m : Str → Option Value}, s₁.heap.Ns b m → (hidT s₁.heap H).Ns b m := fun {b m} ⟨o, es, ep, e, d, r⟩ => ⟨o, es, ep, base_of e (noA e d), d, r⟩
    have hKb : K.In (hidT s₁.heap H) := fun b o e => base_of (KX b o e) (by
      cases q : H b with
      | none => rfl
      | some u =>
        have e' : b = a := hA b (by rw [q]; simp)
        subst e'
        rw [hK (by rw [q]; simp)] at e; cases e)
    have hM : Mod K mg (hidT s₁.heap H) := ⟨hKb, nsK hns, ⟨mb, nsK hb, hbb⟩, let ⟨mc, h1, h2⟩ := hlim; ⟨mc, nsK h1, h2⟩⟩
    have e0 : Env0 P w K mg (hidT s₁.heap H) callerA [] s₁ H := ⟨rfl, hM, fun b o e => of_hidT e, Nat.le_of_eq (hidT_size _ _), trivial, fun b hb => absurd (show b ∈ ([] : List Addr) from hb) (by simp), hok, .of_eq hg⟩
    refine codeAny_mono ((F _ hKb (nsK hns)).run callerA [] s₁ H ⟨[.ref a], []⟩ [.ref a] [.ref a] _ _ hr e0 (hbind s₁ (.ref a)) (.cons rfl .nil) (hsp H hO hS)) fun r s' h => ?_
    cases r with
    | error e => exact (hCX H e s' h).elim
    | ok fl =>
      cases fl with
      | next => exact False.elim h
      | brk => exact False.elim h
      | cont => exact False.elim h
      | ret u =>
        obtain ⟨v, H', os, bare, un, hok', r', q⟩ := h
        have q' : v = .bl true := q
        subst q'
        obtain rfl : u = Value.bool true := r'
        refine ⟨rfl, OldK.of_keep fun b o e => ?_, os, bare⟩
        cases q : H b with
        | none => exact un.keep b o e q (by intro z; exact absurd (show b ∈ ([] : List Addr) from z) (by simp)) (by simp)
        | some u =>
          rcases hO b with z | ⟨ob, xs, z⟩
          · rw [q] at z; cases z
          · have z2 := un.frzs b ob _ z
            obtain ⟨e1, _⟩ := hok b _ z
            obtain ⟨e2, _⟩ := hok' b _ z2
            rw [e] at e1; cases e1
            exact e2
  cases hk : K.lookup a with
  | some o =>
    have e := KX a o hk
    rw [ha] at e
    cases e
    refine core (fun _ => none) (fun _ => .inl rfl) (.inr ⟨_, vs.toArray, _, hk, rfl, rfl, rfl, by rw [List.size_toArray, lenV]; exact hl, by simpa using rv⟩) (fun b u z => by have z' : (none : Option HO) = some u := z; cases z') (fun b z => absurd rfl z) fun z => absurd rfl z
  | none =>
    refine core (fun b => if b = a then some (.frz { cls := .type "list", data := .seq vs.toArray } (.lst (ns.map V.int))) else none) (fun b => ?_) (.inl (.inr ⟨{ cls := .type "list", data := .seq vs.toArray }, if_pos rfl⟩)) (fun b u z => ?_) (fun b z => ?_) fun _ => hk
    · by_cases hb : b = a
      · exact .inr ⟨_, _, if_pos hb⟩
      · exact .inl (if_neg hb)
    · by_cases hb : b = a
      · have z' := (if_pos hb).symm.trans z
        cases z'
        subst hb
        exact ⟨ha, by rw [List.length_map]; exact hl, vs, _, rv, ha⟩
      · have z' := (if_neg hb).symm.trans z
        cases z'
    · by_cases hb : b = a
      · exact hb
      · exact absurd (if_neg hb) z
end L2
namespace L2
open PySem PySem.Spec PyProof.Rows
theorem walk_of {l : PySem.W.OpenLaw} {n k : Nat} {q : Program} {loose : List Str} {XP : (Str → Option Value) → Heap → Prop} {YP : World → Heap → Prop} {d : DefRec} {K : Params → PySem.W.Frag} {CX : World → CXT} {sp : World → Sp} {x : Str}
    (hn : l.most = some n) (hn2 : n ≤ sizeLine) (hdf : d.params.defaults = []) (hr : Room k callerA)
    (hY : ∀ (w : World) (h : Heap), YP w h → (K w.params).In h)
    (F : ∀ (w : World) (mg : Str → Option Value) (fa : Addr) (h : Heap), (K w.params).In h → h.Ns mainGlobals mg → mg d.name = some (.ref fa) →
      ∃ fd : FuncData, (∀ (s : Shared) (u : Value), BindsTo s fd ⟨[u], []⟩ [(x, u)]) ∧
        ∀ base : Heap, (K w.params).In base → base.Ns mainGlobals mg → FnOk l.prog w (K w.params) mg base (CX w) k fa fd [x] (sp w))
    (hsp : ∀ (w : World) (H : Hp) (a : Addr) (ns : List Int), ns.length ≤ n → Only H → SqL (K w.params) H a (ns.map V.int) → sp w [.ref a] H (fun v _ => v = .bl true) fun _ _ _ => False)
    (hCX : ∀ (w : World) (H : Hp) (s : Shared) (e : Value) (s' : Shared), CX w [] H s (fun _ _ _ => False) e s' → False) :
    PySem.W.WalkO q loose XP YP l.row.toRowW d [] (fun f vs => PySem.call f vs) := by
  refine Att.attach_call hn hdf fun w s₀ s₁ mg mb fa o pm cd doc a vs ns G Y ho hd hcd hmg hobj hints hlen hg => ?_
  have KX := hY w _ Y
  obtain ⟨fd, hb, hF⟩ := F w mg fa _ KX G.T.g hmg
  exact law_call KX G.T.g G.T.b G.T.builtins G.T.nolimit hg hobj hints (Nat.le_trans hlen hn2) hr hF hb (fun H hO hS => hsp w H a ns hlen hO hS) fun H e s' => hCX w H s₁ e s'
end L2
namespace L2
open PySem PySem.Spec PyProof.Rows
def inClass (s : Stmt) (j : Nat) : Stmt := match s with
  | .ClassDef _ _ _ body _ _ _ _ _ _ _ => body.getD j (.Pass ⟨0, 0, 0, 0⟩)
  | _ => .Pass ⟨0, 0, 0, 0⟩
def defArgs (s : Stmt) : Arguments := match s with
  | .FunctionDef _ a _ _ _ _ _ _ _ _ => a
  | _ => { posonlyargs := [], args := [], vararg := none, kwonlyargs := [], kw_defaults := [], kwarg := none, defaults := [] }
def defBody (s : Stmt) : List Stmt := match s with
  | .FunctionDef _ _ b _ _ _ _ _ _ _ => b
  | _ => []
def defScope (s : Stmt) : Scope := match s with
  | .FunctionDef _ _ _ _ _ _ sc _ _ _ => sc
  | _ => { kind := .function, names := [], isGenerator := false, isCoroutine := false }
abbrev CX0 : CXT := fun _ _ _ _ _ _ => False
abbrev E0 : XK := fun _ _ _ => False
theorem pass0 {X : Cx} : Passes CX0 X E0 := fun _ _ _ _ _ _ _ h => h.elim
structure Fun (K : PySem.W.Frag) (x qual : Str) (st : Stmt) (f : Addr) (fd : FuncData) : Prop where
  ex : ∃ (oc : Value) (od : Option Addr) (kV doc pm : Value) (an : Option Addr) (cdv ct : Value) (osl : Array (Option Value)),
    fd = PySem.W.fnOf x qual (defArgs st) (defBody st) (defScope st) .none kV doc pm an cdv ct ∧ K.lookup f = some ⟨oc, od, .func fd, osl⟩ ∧ PySem.W.codeIn K cdv qual = true
  kp : PySem.W.keepIn K (.ref f) = true
section
variable {P : Program} {w : World} {K : PySem.W.Frag} {mg : Str → Option Value} {base : Heap}
theorem Fun.ok {x qual : Str} {st : Stmt} {f : Addr} {fd : FuncData} {N ps : List Str} {k : Nat} {sp : Sp} (F : Fun K x qual st f fd) (S : FnScope N ps (defScope st)) (len : ∀ vs H Q E, sp vs H Q E → vs.length = ps.length)
    (hbody : ∀ (cdv : Value) (A : Around) (outer : List Env) (s : Shared) (H : Hp) (vs : List V) (Q : VK) (E : XK), Room k (A.deeper (envOfC qual (defScope st) s.heap.objs.size f cdv)) → sp vs H Q E →
      ∃ t, PSs (cxOf CX0 P w K mg base N qual (defScope st) f cdv A outer s H E).nox (defBody st) t ∧ t { nx := fun _ H' => Q .non H', rt := Q } (start N vs) H) : FnOk P w K mg base CX0 (k + 1) f fd ps sp := by
  obtain ⟨oc, od, kV, doc, pm, an, cdv, ct, osl, rfl, lk, hcd⟩ := F.ex
  refine fn_of lk hcd S len fun A outer s H vs Q E hr hsp => ?_
  obtain ⟨t, h, q⟩ := hbody cdv A outer s H vs Q E hr hsp
  exact ⟨t, h.nox, q⟩
theorem Fun.binds {x qual : Str} {st : Stmt} {f : Addr} {fd : FuncData} {ps : List Str} (F : Fun K x qual st f fd)
    (h : ∀ (kV doc pm : Value) (an : Option Addr) (cdv ct : Value) (us : List Value), us.length = ps.length → bindArgs (PySem.W.fnOf x qual (defArgs st) (defBody st) (defScope st) .none kV doc pm an cdv ct) ⟨us, []⟩ = pure (ps.zip us)) : Binds K fd ps [] := by
  obtain ⟨oc, od, kV, doc, pm, an, cdv, ct, osl, rfl, lk, hcd⟩ := F.ex
  exact .all (h kV doc pm an cdv ct)
theorem fun_mk {x qual : Str} {st : Stmt} {f : Addr} {oc : Value} {od an : Option Addr} {osl : Array (Option Value)} {kV doc pm cdv ct : Value} (l : K.lookup f = some ⟨oc, od, .func (PySem.W.fnOf x qual (defArgs st) (defBody st) (defScope st) .none kV doc pm an cdv ct), osl⟩)
    (c : PySem.W.codeIn K cdv qual = true) (k : PySem.W.keepIn K (.ref f) = true) : Fun K x qual st f (PySem.W.fnOf x qual (defArgs st) (defBody st) (defScope st) .none kV doc pm an cdv ct) := ⟨⟨oc, od, kV, doc, pm, an, cdv, ct, osl, rfl, l, c⟩, k⟩
end
theorem small1000 {n : Nat} (h : n ≤ 1000) : n < sizeLine := Nat.lt_of_le_of_lt h (by decide)
section
variable {X : Cx}
theorem pv (i : Nat) {x : Str} {pos : Pos} (hN : X.N[i]? = some x := by rfl) (hv : Vis X.env.scope x := by first | exact Or.inl rfl | exact Or.inr (Or.inl rfl) | exact Or.inr (Or.inr rfl)) (hd : (x == ("__debug__" : Str)) = false := by decide)
    (hcd : (x == ("__classdict__" : Str)) = false := by decide) : PE X (.Name x pos) (tVar i) := pe_var hN hv hd hcd
end
theorem iteF {A B : Prop} (h : B) : if false = true then A else B := by
  rw [if_neg Bool.false_ne_true]
  exact h
theorem iteT {A B : Prop} (h : A) : if true = true then A else B := by
  rw [if_pos rfl]
  exact h
theorem ite2 {c A B : Prop} [Decidable c] (h1 : c → A) (h2 : ¬ c → B) : if c then A else B := by
  by_cases h : c
  · rw [if_pos h]
    exact h1 h
  · rw [if_neg h]
    exact h2 h
theorem iteNS {c A B : Prop} [Decidable c] (hc : c) (h : B) : if (!decide c) = true then A else B := by
  rw [decide_eq_true hc]
  exact iteF h
def Same (H H' : Hp) : Prop := ∀ b o, H b = some o → H' b = some o
theorem Same.refl (H : Hp) : Same H H := fun _ _ h => h
theorem Same.trans {H H1 H2 : Hp} (a : Same H H1) (b : Same H1 H2) : Same H H2 := fun c o h => b c o (a c o h)
theorem Same.seq {K : PySem.W.Frag} {H H' : Hp} {a : Addr} {xs : List V} (e : Same H H') (h : SqL K H a xs) : SqL K H' a xs := by
  rcases h with (h | ⟨o, h⟩) | h
  · exact .inl (.inl (e _ _ h))
  · exact .inl (.inr ⟨o, e _ _ h⟩)
  · exact .inr h
end L2
namespace L2
open PySem PySem.Spec PyProof.Rows
section
variable {X : Cx}
theorem call_isinst : CallR X (.builtin "isinstance") (fun xs H Q => ∃ x t n b, xs = [x, .ty n] ∧ TyOf X.K H x t ∧ PySem.W.kitOne X.K t (.type n) = some b ∧ Q (.bl b) H) := by
  intro pins s σ H xs us Q I r h
  obtain ⟨x, t, n, b, rfl, ty, e, q⟩ := h
  obtain ⟨u, u2, rfl, rx, r2⟩ := vals2 r
  cases (show u2 = Value.type n from r2)
  exact isinst_ok I rx ty e fun tk => ⟨.bl b, H, I.tok _, rfl, q⟩
theorem call_isinstC : CallR X (.builtin "isinstance") (fun xs H Q => ∃ x t C b, xs = [x, .ref C] ∧ TyOf X.K H x t ∧ PySem.W.kitOne X.K t (.ref C) = some b ∧ Q (.bl b) H) := by
  intro pins s σ H xs us Q I r h
  obtain ⟨x, t, C, b, rfl, ty, e, q⟩ := h
  obtain ⟨u, u2, rfl, rx, r2⟩ := vals2 r
  cases (show u2 = Value.ref C from r2)
  exact isinst_ok I rx ty e fun tk => ⟨.bl b, H, I.tok _, rfl, q⟩
theorem mt_startswith3 : MtR X "str.startswith" (fun x vs H Q => ∃ z y i, x = .str z ∧ vs = [.str y, .int i] ∧ Q (.bl (Txt.startswith3 z y i)) H) := by
  intro pins s σ H x xs v us Q I rx r h
  obtain ⟨z, y, i, rfl, rfl, q⟩ := h
  obtain ⟨t, rfl⟩ := rx
  obtain ⟨u, u2, rfl, ⟨t1, rfl⟩, ⟨t2, rfl⟩⟩ := vals2 r
  exact SC.startswith3 ⟨.bl _, H, I, rfl, q⟩
theorem mt_startswith : MtR X "str.startswith" (fun x vs H Q => ∃ z y, x = .str z ∧ vs = [.str y] ∧ Q (.bl (Txt.startswith z y)) H) := by
  intro pins s σ H x xs v us Q I rx r h
  obtain ⟨z, y, rfl, rfl, q⟩ := h
  obtain ⟨t, rfl⟩ := rx
  obtain ⟨u, rfl, ⟨t1, rfl⟩⟩ := vals1 r
  exact SC.startswith ⟨.bl _, H, I, rfl, q⟩
theorem mt_isdigit : MtR X "str.isdigit" (fun x vs H Q => ∃ z, x = .str z ∧ vs = [] ∧ Q (.bl (Txt.isdigit z)) H) := by
  intro pins s σ H x xs v us Q I rx r h
  obtain ⟨z, rfl, rfl, q⟩ := h
  obtain ⟨t, rfl⟩ := rx
  cases r
  exact SC.isdigit ⟨.bl _, H, I, rfl, q⟩
theorem call_int_text : CallR X (.type "int") (fun xs H Q => ∃ z n, xs = [.str z] ∧ PySem.intText? z = some n ∧ z.length ≤ 640 ∧ Q (.int n) H) := by
  intro pins s σ H xs us Q I r h
  obtain ⟨z, n, rfl, e, hl, q⟩ := h
  obtain ⟨u, rfl, ⟨t, rfl⟩⟩ := vals1 r
  exact PySem.W.KIN.call_text e hl ⟨.int n, H, I.tok _, ⟨_, rfl⟩, q⟩
theorem sl_str : SlR X (fun x lo hi H Q => ∃ z, x = .str z ∧ z.length ≤ sizeLine ∧ Q (.str (Txt.slice z lo hi)) H) := by
  intro pins s σ H x v vl vu lo hi sl Q I rx hs pl pu h
  obtain ⟨z, rfl, hz, q⟩ := h
  obtain ⟨t, rfl⟩ := rx
  refine ⟨"str", _, F.slot_str_getitem.lookup, typeIs_str _ _ _, ?_⟩
  cases pl <;> cases pu
  · exact wpAny_getItem_str_slice (l := none) (u := none) (st := none) hs rfl (post_val_or_str ⟨Nat.le_trans (Txt.slice_le z _ _) hz, fun t' k => ⟨.str _, H, I.tok _, ⟨_, rfl⟩, q⟩⟩)
  · exact wpAny_getItem_str_slice (l := none) (u := some (_, _)) (st := none) hs rfl (post_val_or_str ⟨Nat.le_trans (Txt.slice_le z _ _) hz, fun t' k => ⟨.str _, H, I.tok _, ⟨_, rfl⟩, q⟩⟩)
  · exact wpAny_getItem_str_slice (l := some (_, _)) (u := none) (st := none) hs rfl (post_val_or_str ⟨Nat.le_trans (Txt.slice_le z _ _) hz, fun t' k => ⟨.str _, H, I.tok _, ⟨_, rfl⟩, q⟩⟩)
  · exact wpAny_getItem_str_slice (l := some (_, _)) (u := some (_, _)) (st := none) hs rfl (post_val_or_str ⟨Nat.le_trans (Txt.slice_le z _ _) hz, fun t' k => ⟨.str _, H, I.tok _, ⟨_, rfl⟩, q⟩⟩)
theorem call_all_bl (hc : X.calm = true) : CallR X (.builtin "all") (fun xs H Q => ∃ (p : Addr) (bs : List Bool), xs = [.ref p] ∧ SqL X.K H p (bs.map V.bl) ∧ Q (.bl (bs.all id)) H) := by
  intro pins s σ H xs us Q I r h
  obtain ⟨p, bs, rfl, hq, q⟩ := h
  obtain ⟨u, rfl, rx⟩ := vals1 r
  cases (show u = Value.ref p from rx)
  obtain ⟨its, rv, pl, hz⟩ := I.list hq
  have hl := pl.isList
  have hlt : p < s.heap.objs.size := by obtain ⟨_, e, _⟩ := hl; exact Heap.lt_size e
  have hh : X.A.handled = none := I.ok.hd hc
  have hlen : bs.length = its.length := by have := rv.length; rw [List.length_map] at this; exact this
  refine call_all_walk (wpAny_pyIter_list hl ?_)
  refine ⟨s.heap.objs.size, [s.heap.objs.size, p], [s.heap.objs.size], its.toArray.size, _, _, fun i => (bs[i]?).getD true, rfl, Walks.list (A := X.A.in1) hh _ p (Nat.ne_of_lt hlt) its.toArray,
    ⟨⟨_, Heap.get?_push_size _ rfl, rfl, rfl⟩, hl.push _⟩, fun i v s' Q' E' hP hQ => ?_, fun h' tk hk => ?_⟩
  · have hP' : its[i]? = some v := by simpa using hP
    have hi : i < its.length := (List.getElem?_eq_some_iff.mp hP').1
    have hb : (bs.map V.bl)[i]? = some (V.bl (bs[i]'(by omega))) := by rw [List.getElem?_map, List.getElem?_eq_getElem (by omega)]; rfl
    obtain ⟨u', e1, e2⟩ := rv.get hb
    rw [hP'] at e1
    cases e1
    cases (show v = Value.bool _ from e2)
    have hQ' : Q' ((bs[i]?).getD true) s' := hQ
    rw [List.getElem?_eq_getElem (by omega)] at hQ'
    exact wpAny_truthy_bool hQ'
  · have e : ((List.range its.toArray.size).all fun i => (bs[i]?).getD true) = bs.all id := by
      rw [List.size_toArray, ← hlen]; exact LSm.range_all bs
    rw [e]
    exact ⟨.bl _, H, I.kept (LSm.kept_iter hk), rfl, q⟩
end
end L2
namespace L2
open PySem PySem.Spec PyProof.Rows
def cloOf (env : Env) : List (Str × NameKind) → List (Str × Addr) → List (Str × Addr)
  | [], cs => cs
  | (n, k) :: r, cs => cloOf env r (if k == .free then match env.cells.lookup n with | some a => (n, a) :: cs | none => cs else cs)
theorem closureFor_free {scope : Scope} {env : Env} (h : ∀ y ∈ scope.names, y.2 = .free → ∃ c, env.cells.lookup y.1 = some c) : closureFor scope env = pure (cloOf env scope.names []) := by
  have key : ∀ (l : List (Str × NameKind)) (cs : List (Str × Addr)), (∀ y ∈ l, y.2 = .free → ∃ c, env.cells.lookup y.1 = some c) →
      (forIn l cs (fun (x : Str × NameKind) (r : List (Str × Addr)) => (if (x.2 == NameKind.free) = true then (do let a ← cellOf env x.1; pure (ForInStep.yield ((x.1, a) :: r))) else pure (ForInStep.yield r) : Sem (ForInStep (List (Str × Addr)))))) = (pure (cloOf env l cs) : Sem _) := by
    intro l
    induction l with
    | nil => intro cs _; rfl
    | cons y r ih =>
      intro cs hy
      obtain ⟨n, k⟩ := y
      have hr : ∀ z ∈ r, z.2 = .free → ∃ c, env.cells.lookup z.1 = some c := fun z hz => hy z (List.mem_cons_of_mem _ hz)
      rw [List.forIn_cons]
      by_cases hk : (k == NameKind.free) = true
      · obtain ⟨c, hc⟩ := hy (n, k) List.mem_cons_self (by simpa using hk)
        have e : cellOf env n = pure c := by unfold cellOf; rw [hc]
        simp only [hk, if_true, e, pure_bind, cloOf, hc]
        exact ih _ hr
      · have hk' : (k == NameKind.free) = false := by simpa using hk
        simp only [hk', Bool.false_eq_true, if_false, pure_bind, cloOf]
        exact ih _ hr
  have e : closureFor scope env = (forIn scope.names ([] : List (Str × Addr)) (fun (x : Str × NameKind) (r : List (Str × Addr)) => (if (x.2 == NameKind.free) = true then (do let a ← cellOf env x.1; pure (ForInStep.yield ((x.1, a) :: r))) else pure (ForInStep.yield r) : Sem (ForInStep (List (Str × Addr))))) >>= fun cs => pure cs) := by
    unfold closureFor
    rfl
  rw [e, key scope.names [] h]
  all_goals rfl
theorem cloOf_sub {env : Env} : ∀ (l : List (Str × NameKind)) (cs : List (Str × Addr)), (∀ p ∈ cs, env.cells.lookup p.1 = some p.2) → ∀ p ∈ cloOf env l cs, env.cells.lookup p.1 = some p.2
  | [], cs, h, p, hp => h p hp
  | (n, k) :: r, cs, h, p, hp => by
    unfold cloOf at hp
    refine cloOf_sub r _ ?_ p hp
    split
    · split
      · rename_i a ea
        intro q hq
        rcases List.mem_cons.mp hq with e | hq
        · rw [e]; exact ea
        · exact h q hq
      · exact h
    · exact h
theorem cloOf_keeps {env : Env} : ∀ (l : List (Str × NameKind)) (cs : List (Str × Addr)) {y : Str}, (∃ p ∈ cs, p.1 = y) → ∃ p ∈ cloOf env l cs, p.1 = y
  | [], cs, y, h => h
  | (n, k) :: r, cs, y, ⟨p, hp, e⟩ => by
    unfold cloOf
    refine cloOf_keeps r _ ?_
    split
    · split
      · exact ⟨p, List.mem_cons_of_mem _ hp, e⟩
      · exact ⟨p, hp, e⟩
    · exact ⟨p, hp, e⟩
theorem cloOf_has {env : Env} : ∀ (l : List (Str × NameKind)) (cs : List (Str × Addr)) {y : Str} {c : Addr}, (y, NameKind.free) ∈ l → env.cells.lookup y = some c → ∃ p ∈ cloOf env l cs, p.1 = y
  | (n, k) :: r, cs, y, c, hm, hc => by
    unfold cloOf
    rcases List.mem_cons.mp hm with e | hm
    · cases e
      refine cloOf_keeps r _ ?_
      rw [if_pos (by rfl), hc]
      exact ⟨_, List.mem_cons_self, rfl⟩
    · exact cloOf_has r _ hm hc
theorem lookup_of_mem {α : Type} : ∀ {l : List (Str × α)} {p : Str × α}, p ∈ l → ∃ c, l.lookup p.1 = some c
  | q :: l, p, h => by
    obtain ⟨n, a⟩ := q
    rw [List.lookup_cons]
    split
    · exact ⟨_, rfl⟩
    · rename_i hne
      rcases List.mem_cons.mp h with e | h
      · subst e; simp at hne
      · exact lookup_of_mem h
theorem cloOf_lookup {env : Env} {l : List (Str × NameKind)} {y : Str} {c : Addr} (hm : (y, NameKind.free) ∈ l) (hc : env.cells.lookup y = some c) : (cloOf env l []).lookup y = some c := by
  obtain ⟨p, hp, e⟩ := cloOf_has l [] hm hc
  obtain ⟨c', e'⟩ := lookup_of_mem hp
  rw [e] at e'
  have q := cloOf_sub l [] (fun _ z => nomatch z) _ (PySem.mem_of_lookup e')
  rw [hc] at q
  rw [e']
  exact q.symm
theorem cloOf_lookup_sub {env : Env} {l : List (Str × NameKind)} {y : Str} {c : Addr} (h : (cloOf env l []).lookup y = some c) : env.cells.lookup y = some c :=
  cloOf_sub l [] (fun _ z => nomatch z) _ (PySem.mem_of_lookup h)
theorem relabel_free {env : Env} : ∀ {names : List (Str × NameKind)} {x : Str} {k : NameKind}, (names.map fun (n, k) => if (k == NameKind.free && env.scope.kind == .function && env.kindOf n == some .cell) then (n, NameKind.cell) else (n, k)).lookup x = some k →
    ∃ k', names.lookup x = some k' ∧ (k' = k ∨ k' = .free)
  | [], _, _, h => by simp at h
  | (n, k0) :: r, x, k, h => by
    have ih := @relabel_free env r x k
    have h : List.lookup x ((if (k0 == NameKind.free && env.scope.kind == .function && env.kindOf n == some .cell) = true then (n, NameKind.cell) else (n, k0)) :: _) = some k := h
    cases hx : x == n with
    | true =>
      refine ⟨k0, by simp only [List.lookup_cons, hx], ?_⟩
      by_cases hc : (k0 == NameKind.free && env.scope.kind == .function && env.kindOf n == some .cell) = true
      · refine .inr ?_
        simp only [Bool.and_eq_true] at hc
        exact beq_iff_eq.mp hc.1.1
      · rw [if_neg hc] at h
        simp only [List.lookup_cons, hx] at h
        exact .inl (Option.some.inj h)
    | false =>
      have h2 : List.lookup x (r.map fun (n, k) => if (k == NameKind.free && env.scope.kind == .function && env.kindOf n == some .cell) then (n, NameKind.cell) else (n, k)) = some k := by
        by_cases hc : (k0 == NameKind.free && env.scope.kind == .function && env.kindOf n == some .cell) = true
        · rw [if_pos hc] at h; simp only [List.lookup_cons, hx] at h; exact h
        · rw [if_neg hc] at h; simp only [List.lookup_cons, hx] at h; exact h
      obtain ⟨k', e1, e2⟩ := ih h2
      exact ⟨k', by simp only [List.lookup_cons, hx]; exact e1, e2⟩
theorem relabel_of_free {env : Env} : ∀ {names : List (Str × NameKind)} {x : Str}, names.lookup x = some .free →
    (names.map fun (n, k) => if (k == NameKind.free && env.scope.kind == .function && env.kindOf n == some .cell) then (n, NameKind.cell) else (n, k)).lookup x = some .cell ∨
    (names.map fun (n, k) => if (k == NameKind.free && env.scope.kind == .function && env.kindOf n == some .cell) then (n, NameKind.cell) else (n, k)).lookup x = some .free
  | [], _, h => by simp at h
  | (n, k0) :: r, x, h => by
    have ih := @relabel_of_free env r x
    show List.lookup x ((if (k0 == NameKind.free && env.scope.kind == .function && env.kindOf n == some .cell) = true then (n, NameKind.cell) else (n, k0)) :: _) = some .cell ∨ List.lookup x ((if (k0 == NameKind.free && env.scope.kind == .function && env.kindOf n == some .cell) = true then (n, NameKind.cell) else (n, k0)) :: _) = some .free
    cases hx : x == n with
    | true =>
      simp only [List.lookup_cons, hx] at h
      by_cases hc : (k0 == NameKind.free && env.scope.kind == .function && env.kindOf n == some .cell) = true
      · rw [if_pos hc]; simp only [List.lookup_cons, hx]; simp
      · rw [if_neg hc]; simp only [List.lookup_cons, hx]; exact .inr (by rw [Option.some.inj h])
    | false =>
      simp only [List.lookup_cons, hx] at h
      by_cases hc : (k0 == NameKind.free && env.scope.kind == .function && env.kindOf n == some .cell) = true
      · rw [if_pos hc]; simp only [List.lookup_cons, hx]; exact ih h
      · rw [if_neg hc]; simp only [List.lookup_cons, hx]; exact ih h
def Its (z : Str) : It := ⟨fun i _ => i < z.length, fun i H x H' => H' = H ∧ ∃ c, z.cps.toList[i]? = some c ∧ x = .str ⟨#[c]⟩, fun i _ => z.length ≤ i⟩
structure StrIt (P : Program) (w : World) (it : Addr) (ty : String) (z : Str) (t : Tok) : Prop where
  W : ∀ A' : Around, A'.handled = none → Walks P w A' it [it] [it] z.cps.size (SignAt z) (fun i h => h.IsStrIter it ty z t i)
  en : ∀ (A : Around) (i : Nat) (s : Shared) (Q : Option Value → Shared → Prop) (E : Value → Shared → Prop), A.handled = none → s.heap.IsStrIter it ty z t i → z.cps[i]? = none →
    (∀ h', Heap.ExtBut it s.heap h' → Q none { s with heap := h' }) → wpAny (model P w) A (pyNext (.ref it)) Q E s
  me : ∀ (A : Around) (i : Nat) (s : Shared) (Q : Value → Shared → Prop) (E : Value → Shared → Prop), s.heap.IsStrIter it ty z t i → Q (.ref it) s → wpAny (model P w) A (pyIter (.ref it)) Q E s
  ne : ["enumerate", "zip", "dict_itemiterator", "dict_reverseitemiterator", "odict_iterator", "itertools.zip_longest", "itertools.pairwise"].contains ty = false
theorem StrIt.ascii {P : Program} {w : World} (it : Addr) (z : Str) (t : Tok) : StrIt P w it "str_ascii_iterator" z t :=
  ⟨fun _ hA => Walks.strAscii hA it z t, fun _ _ _ _ _ hA st hx hQ => wpAny_pyNext_ascii_end hA st hx hQ, fun _ _ _ _ _ st h => wpAny_pyIter_striter_ascii st h, by decide⟩
theorem StrIt.wide {P : Program} {w : World} (it : Addr) (z : Str) (t : Tok) : StrIt P w it "str_iterator" z t :=
  ⟨fun _ hA => Walks.strWide hA it z t, fun _ _ _ _ _ hA st hx hQ => wpAny_pyNext_wide_end hA st hx hQ, fun _ _ _ _ _ st h => wpAny_pyIter_striter_wide st h, by decide⟩
theorem turn_str {P : Program} {w : World} {K : PySem.W.Frag} {tg : Expr} {z : Str} {t : Tok} {it : Addr} {ty : String} (S : StrIt P w it ty z t) :
    Turn P w K tg (Its z) [it] it (fun i h => h.IsStrIter it ty z t i) where
  mem := by simp
  obj := fun i h st b hb => by
    have e : b = it := by simpa using hb
    subst e
    obtain ⟨o, e, c, d⟩ := st
    exact ⟨o, e, fun v q => by rw [d] at q; cases q⟩
  keep := fun i h h' st k => by
    obtain ⟨o, e, r⟩ := st
    exact ⟨o, k it (by simp) o e, r⟩
  item := by
    intro X hP hw hK hc i pins s σ H E I hf st hg
    subst hP hw hK
    obtain ⟨f0, f1, f2, f3, f4, f5⟩ := hf it (by simp)
    refine (S.W X.A (I.ok.hd hc)).item i s _ _ hg st fun v h' tk hv st' kk => ?_
    obtain ⟨c, u, hc', rfl⟩ := hv
    have I1 : Inv X pins σ H { s with heap := h', toks := tk } := I.turned (fun b o hb e => kk b o (by simpa using hb) e) f0 f1 f3 f4 f5
    obtain ⟨o, e, c1, d1⟩ := id st'
    exact ⟨_, rfl, go_of (s := { s with heap := h', toks := tk }) e c1 d1 S.ne ⟨.str ⟨#[c]⟩, H, I1, ⟨u, rfl⟩, ⟨rfl, c, by rw [Array.getElem?_toList]; exact hc', rfl⟩, st', fun b hb => (hf b hb).1⟩⟩
  done := by
    intro X hP hw hK hc i pins s σ H E I hf st hg
    subst hP hw hK
    obtain ⟨f0, f1, f2, f3, f4, f5⟩ := hf it (by simp)
    refine S.en X.A i s _ _ (I.ok.hd hc) st ?_ fun h' eb => ⟨rfl, I.turned (t' := s.toks) (fun b o hb e => eb b o hb e) f0 f1 f3 f4 f5⟩
    exact Array.getElem?_eq_none hg
  self := fun A i s Q E st h => S.me A i s Q E st h
def iStr (tl : TE) : TI := fun σ H R => tl σ H fun x H1 => ∃ z, x = .str z ∧ R (Its z) H1
theorem pi_str {X : Cx} {tg l : Expr} {tl : TE} (hl : PE X l tl) : PI X tg l (iStr tl) := by
  intro pins s σ H R I h
  refine thn (hl pins s σ H _ I h) fun v s1 ⟨x, H1, I1, r1, q1⟩ => ?_
  obtain ⟨z, rfl, q⟩ := q1
  obtain ⟨t, rfl⟩ := r1
  have fin : ∀ (o : Obj) (ty : String), StrIt X.prog X.w s1.heap.objs.size ty z t → (s1.heap.push o).IsStrIter s1.heap.objs.size ty z t 0 → PIE X pins σ tg R (.ref s1.heap.objs.size) { s1 with heap := s1.heap.push o } := fun o ty S st => by
    refine ⟨s1.heap.objs.size, [s1.heap.objs.size], _, Its z, H1, rfl, I1.kept (t' := s1.toks) fun b o e => Heap.get?_push_of_some _ e, turn_str S, st, fun b hb => ?_, q⟩
    have e : b = s1.heap.objs.size := by simpa using hb
    subst e
    exact I1.fpOk (Nat.le_refl _) (I1.hok.fresh (Nat.le_refl _))
  cases ha : z.cps.all (· < 128)
  · exact wpAny_pyIter_wide ha (fin _ _ (.wide _ z t) ⟨_, Heap.get?_push_size _ rfl, rfl, rfl⟩)
  · exact wpAny_pyIter_ascii ha (fin _ _ (.ascii _ z t) ⟨_, Heap.get?_push_size _ rfl, rfl, rfl⟩)
def Cx.blk (X : Cx) (N' : List Str) (scope : Scope) (C : Addr) (fp : List Addr) (s : Shared) (H : Hp) : Cx :=
  { X with N := N', s₀ := s, H₀ := H, env := compEnvC scope (cloOf X.env scope.names []) C X.env, outer := X.stack, ex := fp, fn := fun _ => false, pn := [], xe := fun _ _ => False }
structure BlkScope (N : List Str) (sc scope : Scope) (x : Str) (N' : List Str) (fv : List Nat) : Prop where
  nocell : ∀ y ∈ scope.names, y.2 ≠ .cell
  kind : scope.kind = .function
  names : ∀ y ∈ scope.names, y.2 = .local → scope.names.lookup y.1 = some .local
  loc : scope.names.lookup x = some .local
  free : ∀ y ∈ scope.names, y.2 = .free → sc.names.lookup y.1 = some .cell ∨ sc.names.lookup y.1 = some .free
  nd : N'.Nodup
  hd : N'[0]? = some x
  len : N'.length = fv.length + 1
  at_ : ∀ j, j < fv.length → (N'[j + 1]?).isSome = true ∧ N'[j + 1]? = (fv[j]?).bind (fun i => N[i]?) ∧ (N'[j + 1]?).bind (fun y => scope.names.lookup y) = some .free
def blkVals (fv : List Nat) (σ : St) : St := fv.map fun k => (σ[k]?).join
abbrev testsOf (ifs : List Expr) (env : Env) : Sem Bool := forIn ifs true fun c r => if r = true then do let ok ← isTrue c env (eval c env); pure (ForInStep.yield ok) else pure (ForInStep.yield r)
def PTs (X : Cx) (ifs : List Expr) (t : TT) : Prop :=
  ∀ (pins : List (Addr × Obj)) (s : Shared) (σ : St) (H : Hp) (Q : Bool → Hp → Prop), Inv X pins σ H s → t σ H Q → wpAny (model X.prog X.w) X.A (testsOf ifs X.env) (TP X pins σ Q) X.xe s
def tAll : TT := fun _ H Q => Q true H
theorem pts_nil {X : Cx} : PTs X [] tAll := fun pins s σ H Q I h => wpAny_pure ⟨H, I, h⟩
theorem pts_one {X : Cx} {c : Expr} {t : TT} (hc : PT X c t) : PTs X [c] t := by
  intro pins s σ H Q I h
  have e : testsOf [c] X.env = (isTrue c X.env (eval c X.env) >>= fun ok => pure ok) := by
    unfold testsOf
    rw [List.forIn_cons]
    simp
  rw [e]
  exact wpAny_bind (thn (hc pins s σ H Q I h) fun b s1 q => wpAny_pure q)
def tLC (wi : TI) (fv : List Nat) (tt : TT) (te : TE) : TE := fun σ H Q => wi σ H fun J H1 => ∃ (W : Nat → List V → Hp → Prop) (n : Nat), W 0 [] H1 ∧ n ≤ sizeLine ∧ ∀ i ys H, W i ys H →
  (J.stop i H ∧ ∀ p, H p = none → Q (.ref p) (upd H p (.lst ys))) ∨
  (J.go i H ∧ i < n ∧ ∀ x H', J.yld i H x H' → tt (some x :: blkVals fv σ) H' fun c H2 => if c = true then te (some x :: blkVals fv σ) H2 fun y H3 => W (i + 1) (ys ++ [y]) H3 else W (i + 1) ys H2)
section
variable {X : Cx} {N' : List Str} {scope : Scope} {x : Str} {fv : List Nat}
theorem blk_inv {pins : List (Addr × Obj)} {σ : St} {H : Hp} {s : Shared} {fp : List Addr} {C : Addr} {h1 : Heap} {m : Str → Option Value} {tk : Nat} {pl : List (Addr × Obj)} (S : BlkScope X.N X.env.scope scope x N' fv) (I : Inv X pins σ H s)
    (hf : ∀ b ∈ fp, FpOk X pins H b) (hfo : ∀ b ∈ fp, b < s.heap.objs.size) (hC : s.heap.objs.size ≤ C) (kp : ∀ b o, s.heap.get? b = some o → h1.get? b = some o) (hn : h1.Ns C m)
    (hpl : ∀ p ∈ pl, h1.get? p.1 = some p.2 ∧ s.heap.objs.size ≤ p.1 ∧ p.1 ≠ C ∧ ∀ v, p.2.data ≠ .cell v) :
    Inv (X.blk N' scope C fp s H) pl (none :: blkVals fv σ) H { s with heap := h1, toks := tk } := by
  have clo : ∀ y c, (cloOf X.env scope.names []).lookup y = some c → X.env.cells.lookup y = some c := fun y c e => cloOf_lookup_sub e
  have cell : ∀ y c, (cloOf X.env scope.names []).lookup y = some c → ∃ v, s.heap.IsCell c v := fun y c e => I.cell y c (clo y c e)
  have lt : ∀ y c, (cloOf X.env scope.names []).lookup y = some c → c < s.heap.objs.size := fun y c e => by obtain ⟨v, q⟩ := cell y c e; exact q.lt
  have kc : ∀ c v, s.heap.IsCell c v → h1.IsCell c v := fun c v q => by obtain ⟨o, e, d⟩ := q; exact ⟨o, kp _ _ e, d⟩
  refine ⟨⟨I.ok.mod, S.kind, I.ok.glob, I.ok.blt, hC, fun y z c e1 e2 => I.ok.inj y z c (clo y c e1) (clo z c e2), fun y hy => ?_, fun y c e => ?_, I.ok.hd, I.ok.frames, .inl rfl, fun b hb => ⟨?_, fun y c e z => (hf b hb).2.2.2.2.1 y c (clo y c e) z⟩, fun b o e => I.bs b o e, Nat.le_trans I.ok.bsz I.sz, fun b o e hb => ?_, fun b hb hb2 => ?_, I.stack, I.stkFree⟩,
    rfl, I.bare, Un.kept kp, ⟨m, hn, fun i y v h1' h2 h3 => ?_⟩, fun y c e => ?_, I.hok.fresh hC, fun y c e => I.freeC y c (clo y c e), fun p hp => ?_, I.hok.kept kp, ?_⟩
  · have hy' : ∃ k, scope.names.lookup y = some k ∧ k = .free := by
      rcases hy with hy | hy
      · obtain ⟨k', e1, e2⟩ := relabel_free (env := X.env) (names := scope.names) (x := y) (k := .cell) hy
        rcases e2 with e2 | e2
        · exact absurd e2 (S.nocell _ (PySem.mem_of_lookup e1))
        · exact ⟨k', e1, e2⟩
      · obtain ⟨k', e1, e2⟩ := relabel_free (env := X.env) (names := scope.names) (x := y) (k := .free) hy
        rcases e2 with e2 | e2
        · exact ⟨k', e1, e2⟩
        · exact ⟨k', e1, e2⟩
    obtain ⟨k, e, rfl⟩ := hy'
    have hm := PySem.mem_of_lookup e
    obtain ⟨c, hc⟩ := I.ok.has y (S.free _ hm rfl)
    exact ⟨c, cloOf_lookup hm hc⟩
  · exact (Bool.false_ne_true (show false = true from e)).elim
  · exact Nat.ne_of_lt (Nat.lt_of_lt_of_le (hfo b hb) hC)
  · have e' := e
    rcases (hf b hb).2.2.2.1 with z | z
    · exact I.ok.noex b o e z
    · exact absurd (Nat.lt_of_lt_of_le (Heap.lt_size e) (Nat.le_trans I.ok.bsz z)) (Nat.lt_irrefl _)
  · have q := I.stkSub b hb2
    rcases List.mem_cons.mp q with z | z
    · exact (hf b hb).2.1 z
    · exact (hf b hb).2.2.1 z
  · cases i with
    | zero =>
      have z : (none : Option V) = some v := Option.some.inj h2
      cases z
    | succ j =>
      have h2' : (blkVals fv σ)[j]? = some (some v) := h2
      unfold blkVals at h2'
      rw [List.getElem?_map] at h2'
      cases ej : fv[j]? with
      | none => rw [ej] at h2'; cases h2'
      | some k =>
        rw [ej] at h2'
        have h4 : (σ[k]?).join = some v := Option.some.inj h2'
        have h5 : σ[k]? = some (some v) := by
          cases es : σ[k]? with
          | none => rw [es] at h4; cases h4
          | some w' => rw [es] at h4; rw [show w' = some v from h4]
        have hj : j < fv.length := (List.getElem?_eq_some_iff.mp ej).1
        obtain ⟨_, a1, a2⟩ := S.at_ j hj
        have h1'' : N'[j + 1]? = some y := h1'
        rw [h1''] at a1 a2
        rw [ej] at a1
        have a3 : X.N[k]? = some y := a1.symm
        have a4 : scope.names.lookup y = some .free := a2
        have hm := PySem.mem_of_lookup a4
        have kd : X.env.kindOf y = some .cell ∨ X.env.kindOf y = some .free := S.free _ hm rfl
        obtain ⟨mX, _, hlX⟩ := I.loc
        obtain ⟨u, ru, lk⟩ := hlX k y v a3 h5 (kd.elim (fun z => .inr (.inl z)) fun z => .inr (.inr z))
        refine ⟨u, ru, .inr ?_⟩
        rcases lk with ⟨z, _⟩ | ⟨_, c, hc, hcell⟩
        · rcases kd with z' | z' <;> rw [z'] at z <;> cases z
        · exact ⟨relabel_of_free (env := X.env) a4, c, cloOf_lookup hm hc, kc _ _ hcell⟩
  · obtain ⟨v, q⟩ := cell y c e
    exact ⟨v, kc _ _ q⟩
  · have hp' : p ∈ pl := hp
    obtain ⟨e, l1, l2, d⟩ := hpl p hp'
    exact ⟨e, I.hok.fresh l1, l2, fun z => absurd (I.stkSub _ z) (fun q => by
      rcases List.mem_cons.mp q with q | q
      · exact absurd I.lt (by rw [← q]; exact Nat.not_lt.mpr l1)
      · exact I.nofs l1 q), d⟩
  · show (none :: blkVals fv σ).length = N'.length
    rw [S.len]
    unfold blkVals
    simp
end
end L2
namespace L2
open PySem PySem.Spec PyProof.Rows
theorem nox {α : Type} {t : Sem α} {Q Q' : α → Shared → Prop} {M : Model} {A : Around} {E : Value → Shared → Prop} {s : Shared} (h : wpAny M A t Q (fun _ _ => False) s) (hQ : ∀ a s, Q a s → Q' a s) : wpAny M A t Q' E s := wpAny_mono h hQ fun _ _ f => f.elim
set_option maxHeartbeats 1600000 in
theorem pe_lc {X : Cx} {elt iter : Expr} {x : Str} {px : Pos} {ifs : List Expr} {scope : Scope} {pos : Pos} {N' : List Str} {fv : List Nat} {wi : TI} {tt : TT} {te : TE}
    (S : BlkScope X.N X.env.scope scope x N' fv) (hc : X.calm = true) (hi : PI X (.Name x px) iter wi)
    (ht : ∀ C fp s H, PTs (X.blk N' scope C fp s H) ifs tt) (he : ∀ C fp s H, PE (X.blk N' scope C fp s H) elt te)
    (hs : ∀ x, foldedSetIterable iter X.env x = pure x := by intro _; rfl) :
    PE X (.ListComp elt [⟨.Name x px, iter, ifs, 0⟩] scope pos) (tLC wi fv tt te) := by
  intro pins s σ H Q I h
  rw [eval_ListComp]
  refine wpAny_comprehension_free (use := none) rfl hs (closureFor_free fun y hy hk => I.ok.has y.1 (S.free y hy hk)) S.kind S.names
    (wpAny_mono (hi pins s σ H _ I h) (fun xv s1 h1 => wpAny_mono h1 (fun itv s2 h2 => ?_) fun _ _ e => e) fun _ _ e => e)
  obtain ⟨it, fp, tn, J, H2, rfl, I2, T, st2, f2, W, n, w0, hn, turn⟩ := h2
  refine wpAny_newObj_type (wpAny_newFunctionEnv S.nocell (by intro y hy; simp at hy) (fun h1 hns hsb => ?_) S.kind)
  dsimp only at hns hsb ⊢
  generalize hH : s2.heap.push { cls := .type "list", dict := none, data := .seq ([] : List Value).toArray } = G at hns hsb ⊢
  have hG : G.objs.size = s2.heap.objs.size + 1 := by rw [← hH, Heap.size_push]
  have kpG : ∀ b o, s2.heap.get? b = some o → G.get? b = some o := fun b o e => hH ▸ Heap.get?_push_of_some _ e
  have kp1 : ∀ b o, b < G.objs.size → G.get? b = some o → h1.get? b = some o := fun b o lt e => hsb.extBut b o (Nat.ne_of_lt lt) (Heap.get?_push_of_some _ e)
  have kp : ∀ b o, s2.heap.get? b = some o → h1.get? b = some o := fun b o e => kp1 b o (by rw [hG]; exact Nat.lt_succ_of_lt (Heap.lt_size e)) (kpG b o e)
  have hD : h1.PlainList s2.heap.objs.size #[] := ⟨_, kp1 _ _ (by rw [hG]; exact Nat.lt_succ_self _) (hH ▸ Heap.get?_push_size _ rfl)⟩
  have hDC : s2.heap.objs.size ≠ G.objs.size := by rw [hG]; exact Nat.ne_of_lt (Nat.lt_succ_self _)
  have hC : s2.heap.objs.size ≤ G.objs.size := by rw [hG]; exact Nat.le_succ _
  have hfo : ∀ b ∈ fp, b < s2.heap.objs.size := fun b hb => by obtain ⟨o, e, _⟩ := T.obj 0 _ st2 b hb; exact Heap.lt_size e
  have stat : ∀ {H' : Hp} {pl : List (Addr × Obj)}, (∀ b ∈ fp, H' b = none) → (∀ p ∈ pl, p.1 ∉ fp) → ∀ b ∈ fp, FpOk (X.blk N' scope G.objs.size fp s2 H2) pl H' b := fun {H' pl} hn hpl b hb => by
    obtain ⟨_, g1, g2, g3, g4, g5⟩ := f2 b hb
    refine ⟨hn b hb, Nat.ne_of_lt (Nat.lt_of_lt_of_le (hfo b hb) hC), fun z => ?_, .inl hb, fun y c e => g4 y c (cloOf_lookup_sub e), fun p hp e => ?_⟩
    · rcases List.mem_cons.mp (I2.stkSub b z) with q | q
      · exact g1 q
      · exact g2 q
    · exact hpl p hp (e ▸ hb)
  have hDf : s2.heap.objs.size ∉ fp := fun z => absurd (hfo _ z) (Nat.lt_irrefl _)
  have hlc : (X.blk N' scope G.objs.size fp s2 H2).env.scope.names.lookup x = some .local := lookup_relabel_local S.loc
  have hcl : ∀ y c, (X.blk N' scope G.objs.size fp s2 H2).env.cells.lookup y = some c → c ≠ s2.heap.objs.size := fun y c e z => by
    obtain ⟨v, q⟩ := I2.cell y c (cloOf_lookup_sub e)
    exact absurd q.lt (by rw [z]; exact Nat.lt_irrefl _)
  have pin1 : ∀ {s' : Shared} {H' : Hp} {ob : Obj} {i : Nat} {ys : List V}, Inv (X.blk N' scope G.objs.size fp s2 H2) [] (none :: blkVals fv σ) H' s' → s'.heap.get? s2.heap.objs.size = some ob → (∀ v, ob.data ≠ .cell v) → H' s2.heap.objs.size = none →
      Inv (X.blk N' scope G.objs.size fp s2 H2) [(s2.heap.objs.size, ob)] (none :: blkVals fv σ) H' s' := fun {s' H' ob i ys} J1 e d f => J1.pins_of fun p hp => by
    have z : p = (s2.heap.objs.size, ob) := by simpa using hp
    subst z
    refine ⟨e, f, hDC, fun z => ?_, d⟩
    rcases List.mem_cons.mp (I2.stkSub _ z) with q | q
    · exact absurd I2.lt (by rw [← q]; exact Nat.lt_irrefl _)
    · exact I2.nofs (Nat.le_refl _) q
  have loop : ∀ s3 : Shared, s3 = { s2 with heap := h1, toks := s2.toks + ([] : List (Str × Value)).length } →
      codeAny (model X.prog X.w) X.A (.compLoop (.ListComp elt [⟨.Name x px, iter, ifs, 0⟩] scope pos) 0 (.ref it) (.ref s2.heap.objs.size) (X.blk N' scope G.objs.size fp s2 H2).env)
        (compPost (model X.prog X.w) X.A X.xe none (EP X pins σ Q) (.ref s2.heap.objs.size) G.objs.size) s3 := by
    rintro s3 rfl
    refine codeAny_compLoop_tests (fun k s' => ∃ i ys H' its, k = n + 1 - i ∧ i ≤ n ∧ ys.length ≤ i ∧ Vals ys its ∧ s'.heap.PlainList s2.heap.objs.size its.toArray ∧
      Inv (X.blk N' scope G.objs.size fp s2 H2) [] (none :: blkVals fv σ) H' s' ∧ H' s2.heap.objs.size = none ∧ tn i s'.heap ∧ (∀ b ∈ fp, H' b = none) ∧ W i ys H') ?_ (n + 1)
      ⟨0, [], H2, [], rfl, Nat.zero_le _, Nat.le_refl _, .nil, hD, blk_inv S I2 f2 hfo hC kp hns (fun p hp => nomatch hp), I2.hok.fresh (Nat.le_refl _), T.keep _ _ _ st2 fun b _ o e => kp b o e, fun b hb => (f2 b hb).1, w0⟩
    rintro k s4 ⟨i, ys, H4, its, rfl, hin, hyi, rv, pl4, I4, fD4, st4, ff4, w4⟩
    obtain ⟨cnt, eD⟩ := id pl4
    have I4p := pin1 (i := i) (ys := ys) I4 eD (fun v z => by cases z) fD4
    have np : ∀ p ∈ [(s2.heap.objs.size, ({ cls := .type "list", data := .seq its.toArray cnt } : Obj))], p.1 ∉ fp := fun p hp => by
      have z : p = (s2.heap.objs.size, ({ cls := .type "list", data := .seq its.toArray cnt } : Obj)) := by simpa using hp
      subst z; exact hDf
    rcases turn i ys H4 w4 with ⟨stop, fin⟩ | ⟨go, hi2, step⟩
    · refine wpAny_mono (T.done (X.blk N' scope G.objs.size fp s2 H2) rfl rfl rfl hc i _ s4 _ H4 _ I4p (stat ff4 np) st4 stop) (fun r s5 ⟨hr, I5⟩ => ?_) fun _ _ e => e
      subst hr
      obtain ⟨m5, hm5, _⟩ := I5.loc
      have eD5 : s5.heap.get? s2.heap.objs.size = some { cls := .type "list", data := .seq its.toArray cnt } := (I5.pin _ (List.mem_append_right _ List.mem_cons_self)).1
      refine ⟨m5, hm5, fun h' sb => ⟨.ref s2.heap.objs.size, upd H4 s2.heap.objs.size (.lst ys), ?_, rfl, fin _ fD4⟩⟩
      have ltC : ∀ {b : Addr} {o : Obj}, s2.heap.get? b = some o → b ≠ G.objs.size := fun {b o} e => Nat.ne_of_lt (Nat.lt_of_lt_of_le (Heap.lt_size e) hC)
      have fD2 : H2 s2.heap.objs.size = none := I2.hok.fresh (Nat.le_refl _)
      have ltD : ∀ {b : Addr} {o : Obj}, s2.heap.get? b = some o → b ≠ s2.heap.objs.size := fun {b o} e => Nat.ne_of_lt (Heap.lt_size e)
      have B := I5.base
      refine I2.call' (s' := { s5 with heap := h' }) (ch := fp) I5.os ⟨fun b o e nb hb hx => ?_, fun b o e nb hb hx => ?_, fun b o e nb hx => ?_, fun b o e hx => ?_, fun b xs e => ?_, fun b o u e => ?_, fun b ps e => ?_⟩ ?_ I5.bare fun b hb => ?_
      · exact sb.extBut b o (ltC e) (B.keep b o e nb hb hx)
      · obtain ⟨sl, q⟩ := B.slot b o e nb hb hx
        exact ⟨sl, sb.extBut b _ (ltC e) q⟩
      · rw [upd_ne (ltD e)]; exact B.free b o e nb hx
      · obtain ⟨o', q⟩ := B.there b o e hx
        exact ⟨o', sb.extBut b o' (ltC e) q⟩
      · have e' : H2 b = some (.tup xs) := e
        rw [upd_ne (ne_of_none e' fD2)]; exact B.tups b xs e
      · have e' : H2 b = some (.frz o u) := e
        rw [upd_ne (ne_of_none e' fD2)]; exact B.frzs b o u e
      · have e' : H2 b = some (.tbl ps) := e
        rw [upd_ne (ne_of_none e' fD2)]; exact B.tbls b ps e
      · intro b u e
        by_cases hb : b = s2.heap.objs.size
        · subst hb
          rw [upd_same] at e
          cases e
          exact ⟨Nat.le_trans hyi (Nat.le_trans hin hn), its, cnt, rv, sb.extBut _ _ hDC eD5⟩
        · rw [upd_ne hb] at e
          have fC : H4 G.objs.size = none := I5.free
          refine (I5.hok b u e).stay (fun c v hc' q => sb.extBut c v ?_ q) (fun c q => by rw [upd_ne (ne_of_none q fD4)]; exact q) fun c xs q => by rw [upd_ne (ne_of_none q fD4)]; exact q
          rcases hc' with z | z
          · subst z; exact ne_of_none e fC
          · exact ne_of_none z fC
      · obtain ⟨_, g1, g2, g3, g4, g5⟩ := f2 b hb
        exact ⟨g3, g1, g4, g5⟩
    · refine wpAny_mono (T.item (X.blk N' scope G.objs.size fp s2 H2) rfl rfl rfl hc i _ s4 _ H4 _ I4p (stat ff4 np) st4 go) (fun r s5 ⟨u, hr, h5⟩ => ?_) fun _ _ e => e
      subst hr
      show wpAny _ _ (letOwnedTupleGo (.Name x px) (.ref it) u >>= fun _ => assign (.Name x px) (X.blk N' scope G.objs.size fp s2 H2).env u) _ _ s5
      refine wpAny_bind (wpAny_mono h5 (fun _ s6 ⟨xv, H6, I6, r6, y6, st6, ff6⟩ => ?_) fun _ _ e => e)
      have I6' := I6.pinned (stat ff6 np) (T.obj _ _ st6)
      have out : ∀ {σ' : St} {H' : Hp} {s' : Shared}, Inv (X.blk N' scope G.objs.size fp s2 H2) ([(s2.heap.objs.size, ({ cls := .type "list", data := .seq its.toArray cnt } : Obj))] ++ pinsAt fp s6.heap) σ' H' s' →
          s'.heap.PlainList s2.heap.objs.size its.toArray ∧ H' s2.heap.objs.size = none ∧ (∀ b ∈ fp, H' b = none) ∧ (∀ b ∈ fp, ∀ o, s6.heap.get? b = some o → s'.heap.get? b = some o) := fun {σ' H' s'} J1 => by
        have q := J1.pin (s2.heap.objs.size, ({ cls := .type "list", data := .seq its.toArray cnt } : Obj)) (List.mem_append_right _ (List.mem_append_left _ List.mem_cons_self))
        refine ⟨⟨cnt, q.1⟩, q.2.1, fun b hb => ?_, fun b hb o e => (J1.pin (b, o) (List.mem_append_right _ (List.mem_append_right _ (mem_pinsAt hb e)))).1⟩
        obtain ⟨o, e, d⟩ := T.obj _ _ st6 b hb
        exact (J1.pin (b, o) (List.mem_append_right _ (List.mem_append_right _ (mem_pinsAt hb e)))).2.1
      refine nox ((pg_name (X := X.blk N' scope G.objs.size fp s2 H2) (i := 0) S.nd S.hd (.inl hlc) (.inr hlc)) _ s6 _ H6 xv u (fun σ' H' => σ' = some xv :: blkVals fv σ ∧ H' = H6) I6' r6 ⟨rfl, rfl⟩) fun _ s7 ⟨σ7, H7, I7, e7, e7'⟩ => ?_
      subst e7 e7'
      refine nox (ht _ _ _ _ _ s7 _ H7 _ I7 (step xv H7 y6)) fun ok s8 ⟨H8, I8, q8⟩ => ?_
      cases ok with
      | false =>
        obtain ⟨o1, o2, o3, o4⟩ := out I8
        exact ⟨n + 1 - (i + 1), by omega, i + 1, ys, H8, its, rfl, hi2, Nat.le_succ_of_le hyi, rv, o1, (I8.pins_of (pins' := []) fun p hp => nomatch hp).weak (σ' := none :: blkVals fv σ) rfl (fun j v e => by
          cases j with
          | zero => cases (show (none : Option V) = some v from Option.some.inj e)
          | succ j => exact e), o2, T.keep _ _ _ st6 o4, o3, q8⟩
      | true =>
        refine nox (he _ _ _ _ _ s8 _ H8 _ I8 q8) fun yv s9 ⟨y, H9, I9, r9, q9⟩ => ?_
        obtain ⟨o1, o2, o3, o4⟩ := out I9
        have hlen := rv.length
        refine wpAny_list_append_plain (hsz := by rw [List.size_toArray, ← hlen]; exact Nat.le_trans hyi (Nat.le_trans hin hn)) o1 fun h' pl' sb' => ?_
        have I9' : Inv (X.blk N' scope G.objs.size fp s2 H2) [] (some xv :: blkVals fv σ) H9 { s9 with heap := h' } :=
          (I9.pins_of (pins' := []) fun p hp => nomatch hp).turned (t' := s9.toks) (it := s2.heap.objs.size) (fun b o hb e => sb'.extBut b o hb e) o2 hDC (.inr (Nat.le_refl _)) hcl (fun p hp => nomatch hp)
        refine ⟨n + 1 - (i + 1), by omega, i + 1, ys ++ [y], H9, its ++ [yv], rfl, hi2, by rw [List.length_append]; exact Nat.succ_le_succ hyi, rv.append (.cons r9 .nil), ?_, I9'.weak (σ' := none :: blkVals fv σ) rfl (fun j v e => by
          cases j with
          | zero => cases (show (none : Option V) = some v from Option.some.inj e)
          | succ j => exact e), o2, T.keep _ _ _ st6 fun b hb o e => sb'.extBut b o (fun z => hDf (z ▸ hb)) (o4 b hb o e), o3, q9⟩
        have e9 : (its ++ [yv]).toArray = its.toArray.push yv := by simp
        rw [e9]
        exact pl'
  exact codeAny_compStart_list (loop _ rfl) (T.self _ 0 _ _ _ (T.keep _ _ _ st2 fun b _ o e => kp b o e) (loop _ rfl))
end L2
namespace L2
open PySem PySem.Spec PyProof.Rows
theorem strsAre_of {ys : List Str} : ∀ {us : List Value}, Vals (ys.map V.str) us → StrsAre us ys := by
  induction ys with
  | nil => intro us r; rw [List.map_nil] at r; cases r; exact .nil
  | cons y ys ih =>
    intro us r
    rw [List.map_cons] at r
    cases r with
    | cons r1 r2 =>
      obtain ⟨t, e⟩ := r1
      subst e
      exact .cons y t (ih r2)
theorem mt_join {X : Cx} : MtR X "str.join" (fun x vs H Q => ∃ (sep : Str) (p : Addr) (ys : List Str), x = .str sep ∧ vs = [.ref p] ∧ SqL X.K H p (ys.map V.str) ∧ (ys.map (·.length)).sum + ys.length * sep.length ≤ 16777216 ∧ Q (.str (Str.join sep ys)) H) := by
  intro pins s σ H x xs v us Q I rx r h
  obtain ⟨sep, p, ys, rfl, rfl, hq, hok, q⟩ := h
  obtain ⟨t, rfl⟩ := rx
  obtain ⟨u, rfl, rp⟩ := vals1 r
  cases (show u = Value.ref p from rp)
  obtain ⟨its, rv, pl, hz⟩ := I.list hq
  refine join_list pl.isList (by simpa using strsAre_of rv) hok fun t' k => ⟨.str _, H, I.tok _, ⟨_, rfl⟩, ?_⟩
  rw [eq_of_beq (join_closes (sep := sep) (sep' := sep) (ys := ys) rfl)]
  exact q
end L2
namespace L2
open PySem PySem.Spec PyProof.Rows
end L2
namespace L2
open PySem PySem.Spec PyProof.Rows
open Builtin Builtin.Str
theorem join_many (c : Nat) : ∀ ys : List Str, ys.length ≤ (Str.join ⟨#[c]⟩ ys).length + 1
  | [] => Nat.zero_le _
  | [y] => by simp
  | y :: u :: ys => by
    have ih := join_many c (u :: ys)
    rw [join_cons_cons]
    have e : (y ++ (⟨#[c]⟩ : Str) ++ Str.join ⟨#[c]⟩ (u :: ys)).length = y.length + 1 + (Str.join ⟨#[c]⟩ (u :: ys)).length := by
      show ((y.cps ++ #[c]) ++ (Str.join ⟨#[c]⟩ (u :: ys)).cps).size = _
      rw [Array.size_append, Array.size_append]
      rfl
    rw [e, List.length_cons]
    omega
theorem vals_strs : ∀ (l : List (Str × Tok)), Vals ((l.map (·.1)).map V.str) (strValues l)
  | [] => .nil
  | p :: l => .cons ⟨p.2, rfl⟩ (vals_strs l)
section
variable {X : Cx}
theorem mt_split1 : MtR X "str.split" (fun x vs H Q => ∃ (z : Str) (c : Nat), x = .str z ∧ vs = [.str ⟨#[c]⟩] ∧ z.length ≤ 1000000 ∧ ∀ p, H p = none → Q (.ref p) (upd H p (.lst ((Txt.split z ⟨#[c]⟩).map V.str)))) := by
  intro pins s σ H x xs v us Q I rx r h
  obtain ⟨z, c, rfl, rfl, hz, q⟩ := h
  obtain ⟨t, rfl⟩ := rx
  obtain ⟨u, rfl, ⟨t1, rfl⟩⟩ := vals1 r
  have hs : (1000002 : Nat) ≤ sizeLine := by decide
  have many : (Txt.split z ⟨#[c]⟩).length ≤ sizeLine := by
    have := join_many c (Txt.split z ⟨#[c]⟩)
    rw [StrLaws.join_split] at this
    omega
  have fin : ∀ (l : List (Str × Tok)) (k : Nat), l.map (·.1) = Txt.split z ⟨#[c]⟩ → EP X pins σ Q (.ref s.heap.objs.size) { s with toks := k, heap := s.heap.push { cls := .type "list", data := .seq (strValues l).toArray } } := fun l k el =>
    ⟨.ref s.heap.objs.size, _, I.laid (t' := k) (o := .lst ((Txt.split z ⟨#[c]⟩).map V.str)) (fun b o e => Heap.get?_push_of_some _ e) (Nat.le_refl _)
      (show ObjOk X.prog X.w _ _ _ (.lst ((Txt.split z ⟨#[c]⟩).map V.str)) from ⟨by rw [List.length_map]; exact many, strValues l, 0, el ▸ vals_strs l, Heap.get?_push_size _ rfl⟩), rfl, q _ (I.hok.fresh (Nat.le_refl _))⟩
  have hy : ((⟨#[c]⟩ : Str).length == 0) = false := rfl
  cases h1 : (decide (z.length < (⟨#[c]⟩ : Str).length) || decide (strKind z < strKind ⟨#[c]⟩)) with
  | true =>
    have es : Txt.split z ⟨#[c]⟩ = [z] := by unfold Txt.split; rw [if_pos h1]
    exact call_meets F.slot_str_split (typeIs_str _ _ _) F.entry_str_split (F.args_str_split_2 _ _) (meets_str_split_cannot_occur z ⟨#[c]⟩ t t1 h1) (fin [(z, t)] s.toks es.symm)
  | false =>
    cases hf : (occurrences z ⟨#[c]⟩ 0 z.length (z.length + 1)).isEmpty with
    | true =>
      have es : Txt.split z ⟨#[c]⟩ = [z] := by unfold Txt.split; rw [if_neg (by rw [h1]; decide), if_pos hf]
      exact call_meets F.slot_str_split (typeIs_str _ _ _) F.entry_str_split (F.args_str_split_2 _ _) (meets_str_split_not_found z ⟨#[c]⟩ t t1 h1 hy hf) (fin [(z, t)] s.toks es.symm)
    | false =>
      have es : Txt.split z ⟨#[c]⟩ = partsBetween z (occurrences z ⟨#[c]⟩ 0 z.length (z.length + 1)) (⟨#[c]⟩ : Str).length := by unfold Txt.split; rw [if_neg (by rw [h1]; decide), if_neg (by rw [hf]; decide)]
      refine call_meets F.slot_str_split (typeIs_str _ _ _) F.entry_str_split (F.args_str_split_2 _ _) (meets_str_split_sep z ⟨#[c]⟩ t t1 h1 hy hf (by omega) (by rw [← es]; exact many)) ?_
      rw [strsFrom_eq]
      exact fin _ _ ((numbered_texts _ _).trans es.symm)
theorem ps_try0 {body : List Stmt} {h₀ : ExceptHandler} {hs : List ExceptHandler} {pos : Pos} {t : TS} (hb : PSs X.nox body t) : PS X (.Try body (h₀ :: hs) [] [] pos) t := by
  intro pins s σ H D I h
  refine wpAny_Try_except (wpAny_mono (hb pins s σ H D (I.wish _) h) (fun f s1 q => ?_) fun _ _ e => e.elim)
  cases f with
  | next => exact wpAny_execs_nil (SP.unwish (f := .next) q)
  | brk => exact SP.unwish (f := .brk) q
  | cont => exact SP.unwish (f := .cont) q
  | ret v => exact SP.unwish (f := .ret v) q
end
end L2
namespace L2
open PySem PySem.Spec PyProof.Rows
section
variable {X : Cx}
end
end L2
namespace L2
open PySem PySem.Spec PyProof.Rows
section
variable {X : Cx}
end
end L2
namespace L2
open PySem PySem.Spec PyProof.Rows
def Cov (l : List Env) (h0 : Heap) (H : Hp) (B h : Heap) : Prop := ∀ b o, h.get? b = some o → b ∉ frs l → (H b ≠ none ∨ ∃ o0, h0.get? b = some o0) → B.get? b = some o
def Fly (l : List Env) (h0 : Heap) (H : Hp) (ea C : Addr) (h : Heap) : Prop := ∃ B a0, Heap.FlyingW B l ea (.ref C) a0 h ∧ Cov l h0 H B h
section
variable {l : List Env} {H : Hp} {B h h' hc : Heap} {P : Program} {w : World}
theorem Cov.stay (c : Cov l hc H B h) (st : B.StaysIn h') : ∀ b o, h.get? b = some o → b ∉ frs l → (H b ≠ none ∨ ∃ o0, hc.get? b = some o0) → h'.get? b = some o := fun b o e nb hb => st b o (c b o e nb hb)
theorem HOk.moved (x : HOk P w H h) (c : Cov l hc H B h) (st : B.StaysIn h') (fr : ∀ b ∈ frs l, H b = none) : HOk P w H h' := fun a o e => by
  refine (x a o e).stay (fun b u hb q => ?_) (fun b q => q) fun b xs q => q
  have tr : H b ≠ none := by
    rcases hb with rfl | hb
    · rw [e]; intro z; cases z
    · rw [hb]; intro z; cases z
  exact c.stay st b u q (fun z => tr (fr b z)) (.inl tr)
theorem Un.moved {fs : List Addr} {H0 : Hp} {h0 : Heap} (u : Un fs [] H0 H h0 h) (c : Cov l hc H B h) (st : B.StaysIn h') (sm : h.UpToSlots h') (ff : h.FunFrames B l) (hn : ∀ b o, h0.get? b = some o → ∃ o', hc.get? b = some o')
    (hf : ∀ b ∈ fs, b ∈ frs l) (hl : ∀ b o, h0.get? b = some o → b ∈ frs l → b ∈ fs) : Un fs [] H0 H h0 h' := by
  have kp : ∀ b o0 o, h0.get? b = some o0 → b ∉ fs → h.get? b = some o → h'.get? b = some o := fun b o0 o e0 nb e => c.stay st b o e (fun z => nb (hl b o0 e0 z)) (.inr (hn b o0 e0))
  have sl : ∀ b o, b ∈ fs → h.get? b = some o → ∃ sl, h'.get? b = some { o with slots := sl } := fun b o hb e => by
    obtain ⟨_, o', e', d⟩ := ff.mem (show b ∈ l.filterMap (·.frame) from hf b hb)
    rw [e] at e'
    cases e'
    exact sm b o e d
  refine ⟨fun b o e z nb hx => kp b o o e nb (u.keep b o e z nb hx), fun b o e z hb hx => ?_, u.free, fun b o e hx => ?_, u.tups, u.frzs, u.tbls⟩
  · obtain ⟨s1, q⟩ := u.slot b o e z hb hx
    obtain ⟨s2, q2⟩ := sl b _ hb q
    exact ⟨s2, q2⟩
  · obtain ⟨o1, q⟩ := u.there b o e hx
    by_cases hb : b ∈ fs
    · obtain ⟨s2, q2⟩ := sl b _ hb q
      exact ⟨_, q2⟩
    · exact ⟨o1, kp b o o1 e hb q⟩
end
section
variable {X : Cx} {E : XK} {pins : List (Addr × Obj)} {σ : St} {H H' : Hp} {s s' : Shared}
theorem frs_cons (D : X.stack = X.env :: X.outer) (fr : X.env.frame = some X.env.locals) : frs X.stack = X.env.locals :: frs X.outer := by
  rw [D]
  show List.filterMap _ (X.env :: X.outer) = _
  rw [List.filterMap_cons, fr]
  rfl
end
section
variable {P : Program} {w : World} {K : PySem.W.Frag} {mg : Str → Option Value} {base : Heap}
end
end L2
namespace L2
open PySem PySem.Spec PyProof.Rows
theorem own_in {K : PySem.W.Frag} {h : Heap} {mg : Str → Option Value} {x : Str} {C : Addr} {bm : List Value} {new : String} (kin : K.In h) (hm : mg x = some (.ref C)) (q : PySem.W.excIn K C bm new = true) : OwnCls x C bm new mg h := by
  have key : ∀ o, K.lookup C = some o → ∃ tl N nm qn bs hdct sn sub ab col dd k0 k1 k2 k3 k5 mN, h.get? C = some (excClassObj nm qn C N bs tl hdct sn sub ab col dd k0 k1 k2 k3 k5 new) ∧ h.Ns N mN ∧ mN "__init__" = none ∧ OwnTail h bm tl := fun o lk => by
    unfold PySem.W.excIn at q
    rw [lk] at q
    obtain ⟨oc, od, odt, osl⟩ := o
    split at q
    · rename_i dd cd sl e0
      cases (Option.some.inj e0)
      obtain ⟨nm, bs, mro, ns, qn, hd, sn, sub, ab, col, del⟩ := cd
      split at q
      · rename_i C2 tl k0 k1 k2 k3 n2 k5 em es
        dsimp only at em q
        simp only [Bool.and_eq_true, beq_iff_eq, Bool.not_eq_true'] at q
        obtain ⟨⟨⟨⟨⟨q1, q2⟩, q3⟩, q4⟩, q5⟩, q6⟩ := q
        subst q1 q2 q3 em
        have esl : osl = #[k0, k1, k2, k3, some (.builtin n2), k5] := Array.toList_inj.mp es
        subst esl
        exact ⟨tl, ns, nm, qn, bs, hd, sn, sub, ab, col, od, k0, k1, k2, k3, k5, _, kin _ _ lk, .of_isNs (PySem.W.isNs_of_in kin q5), PySem.W.nsMap_none_of_in kin q5 q6, PySem.W.tail_of_in kin q4⟩
      · cases q
    · cases q
  refine ⟨hm, ?_⟩
  cases lk : K.lookup C with
  | none => unfold PySem.W.excIn at q; rw [lk] at q; cases q
  | some o => exact key o lk
section
variable {X : Cx} {E : XK}
end
end L2
namespace L2
open PySem PySem.Spec PyProof.Rows
def ExcO (ea C : Addr) : HO := .ext fun h => ∃ o, h.get? ea = some o ∧ o.cls = .ref C
abbrev Cx.hnd (X : Cx) (ev : Value) : Cx := { X with A := X.A.mark (some ev), calm := false, xe := fun _ _ => False }
section
variable {X : Cx} {pins : List (Addr × Obj)} {σ : St} {H H1 : Hp} {s s1 : Shared} {ev : Value}
theorem Cx.Ok.hnd (ok : X.Ok) (ev : Value) : (X.hnd ev).Ok :=
  ⟨ok.mod, ok.kind, ok.glob, ok.blt, ok.above, ok.inj, ok.has, ok.cab, fun h => (by cases h), ok.frames, ok.stk, ok.exf, ok.bs, ok.bsz, ok.noex, ok.exfs, ok.funs, ok.frf⟩
theorem Inv.hnd (I : Inv X pins σ H s) (ev : Value) : Inv (X.hnd ev) pins σ H s := ⟨I.ok.hnd ev, I.os, I.bare, I.base, I.loc, I.cell, I.free, I.freeC, I.pin, I.hok, I.len⟩
theorem Inv.unhnd (ok : X.Ok) (I : Inv (X.hnd ev) pins σ H s) : Inv X pins σ H s := ⟨ok, I.os, I.bare, I.base, I.loc, I.cell, I.free, I.freeC, I.pin, I.hok, I.len⟩
theorem SP.unhnd {D : Ends} {f : Flow} {s' : Shared} (ok : X.Ok) (h : SP (X.hnd ev) pins D f s') : SP X pins D f s' := by
  cases f with
  | next => obtain ⟨σ', H', I', q⟩ := h; exact ⟨σ', H', I'.unhnd ok, q⟩
  | brk => obtain ⟨σ', H', I', q⟩ := h; exact ⟨σ', H', I'.unhnd ok, q⟩
  | cont => obtain ⟨σ', H', I', q⟩ := h; exact ⟨σ', H', I'.unhnd ok, q⟩
  | ret v => obtain ⟨x, σ', H', I', r, q⟩ := h; exact ⟨x, σ', H', I'.unhnd ok, r, q⟩
theorem UpToSlots.isCell {h h' : Heap} {c : Addr} {v : Option Value} (sm : h.UpToSlots h') (x : h.IsCell c v) : h'.IsCell c v := by
  obtain ⟨o, e, d⟩ := x
  obtain ⟨sl, e2⟩ := sm c o e fun vs q => by rw [d] at q; cases q
  exact ⟨_, e2, d⟩
theorem Inv.moved {B h2 : Heap} (I1 : Inv X pins σ H1 s1) (I : Inv X pins σ H s) (hst : X.stack = X.env :: X.outer) (fr : X.env.frame = some X.env.locals) (hex : X.ex = []) (c : Cov X.stack s1.heap H B s.heap) (st : B.StaysIn h2) (sm : s.heap.UpToSlots h2)
    (ff : s.heap.FunFrames B X.stack) : Inv X pins σ H { s with heap := h2 } := by
  have fc := frs_cons hst fr
  have b0 : Un X.fs [] X.H₀ H X.s₀.heap s.heap := by have := I.base; rw [hex] at this; exact this
  have sub : ∀ b o, X.s₀.heap.get? b = some o → ∃ o', s1.heap.get? b = some o' := fun b o e => I1.base.there b o e (by rw [hex]; simp)
  have nL : ∀ b o, X.s₀.heap.get? b = some o → b ≠ X.env.locals := fun b o e z => absurd (Heap.lt_size e) (by rw [z]; exact Nat.not_lt.mpr I.ok.above)
  refine ⟨I.ok, I.os, I.bare, ?_, ?_, fun x cc e => ?_, I.free, I.freeC, fun p hp => ?_, I.hok.moved c st I.stkFree, I.len⟩
  · rw [hex]
    refine b0.moved c st sm ff sub (fun b hb => by rw [fc]; exact List.mem_cons_of_mem _ hb) fun b o e hb => ?_
    rw [fc] at hb
    rcases List.mem_cons.mp hb with z | z
    · exact absurd z (nL b o e)
    · exact z
  · obtain ⟨m, hn, hl⟩ := I.loc
    refine ⟨m, sm.ns hn, fun i x v a b cc => ?_⟩
    obtain ⟨u, r, lk⟩ := hl i x v a b cc
    refine ⟨u, r, ?_⟩
    rcases lk with z | ⟨z, cl, e, ic⟩
    · exact .inl z
    · exact .inr ⟨z, cl, e, UpToSlots.isCell sm ic⟩
  · obtain ⟨v, q⟩ := I.cell x cc e
    exact ⟨v, UpToSlots.isCell sm q⟩
  · obtain ⟨e, f, nl, nf, d⟩ := I.pin p hp
    refine ⟨c.stay st p.1 p.2 e (fun z => ?_) (.inr ⟨_, (I1.pin p hp).1⟩), f, nl, nf, d⟩
    rw [fc] at z
    rcases List.mem_cons.mp z with z | z
    · exact nl z
    · exact nf z
theorem Inv.exc {ea C : Addr} {oe : Obj} (I : Inv X pins σ H s) (hx : H ea = none) (ho : s.heap.get? ea = some oe) (hc : oe.cls = .ref C) (h0 : X.s₀.heap.get? ea = none) (hL : ea ≠ X.env.locals) (hcl : ∀ y c, X.env.cells.lookup y = some c → c ≠ ea)
    (hp : ∀ p ∈ X.pn ++ pins, p.1 ≠ ea) : Inv X pins σ (upd H ea (ExcO ea C)) s := by
  refine ⟨I.ok, I.os, I.bare, ⟨I.base.keep, I.base.slot, fun b o e z nx => ?_, I.base.there, fun b xs e => ?_, fun b o u e => ?_, fun b ps e => ?_⟩, I.loc, I.cell, ?_, fun y c e => ?_, fun p hp' => ?_, fun b u e => ?_, I.len⟩
  · rw [upd_ne (fun z2 => by rw [z2, h0] at e; cases e)]; exact I.base.free b o e z nx
  · have q := I.base.tups b xs e
    rw [upd_ne (ne_of_none q hx)]; exact q
  · have q := I.base.frzs b o u e
    rw [upd_ne (ne_of_none q hx)]; exact q
  · obtain ⟨more, q⟩ := I.base.tbls b ps e
    exact ⟨more, by rw [upd_ne (ne_of_none q hx)]; exact q⟩
  · rw [upd_ne hL.symm]; exact I.free
  · rw [upd_ne (hcl y c e)]; exact I.freeC y c e
  · obtain ⟨e, f, r⟩ := I.pin p hp'
    exact ⟨e, by rw [upd_ne (hp p hp')]; exact f, r⟩
  · by_cases hb : b = ea
    · subst hb
      rw [upd_same] at e
      cases e
      exact ⟨⟨oe, ho, hc⟩, ⟨oe, ho⟩, fun h1 h2 ⟨o, e, c⟩ k => ⟨o, k o e, c⟩⟩
    · rw [upd_ne hb] at e
      exact (I.hok b u e).stay (fun c v _ q => q) (fun c q => by rw [upd_ne (ne_of_none q hx)]; exact q) fun c xs q => by rw [upd_ne (ne_of_none q hx)]; exact q
def Takes (X : Cx) (C CB : Addr) : Prop := ∀ (A : Around) (s : Shared) (ea : Addr) (ob : Obj) (Q : Bool → Shared → Prop) (E : Value → Shared → Prop), X.K.In s.heap → s.heap.get? ea = some ob → ob.cls = .ref C → Q true s → wpAny (model X.prog X.w) A (excMatches (.ref ea) (.ref CB)) Q E s
theorem takes_self {x : Str} {C : Addr} {bm : List Value} {new : String} (hm : X.mg x = some (.ref C)) (qx : PySem.W.excIn X.K C bm new = true) (hb : bm.contains (.type "BaseException") = true) : Takes X C C := by
  intro A s ea ob Q E k ho hc q
  obtain ⟨tl, N, nm, q', bs, hdct, sn, sub, ab, col, dd, k0, k1, k2, k3, k5, mN, hC, hN, hni, T⟩ := (own_in k hm qx).obj
  obtain ⟨h, g, d, t, os⟩ := s
  exact wpAny_excMatches_sub_self hC ho hc (T.hasType hb) q
theorem lands {ea C CB : Addr} {cx : Str} {np hpos : Pos} {b₀ : Stmt} {suite : List Stmt} {rest : List ExceptHandler} {D : Ends} {th : TS} {E : Value → Shared → Prop} (I1 : Inv X pins σ H1 s1) (I : Inv X pins σ H s) (hst : X.stack = X.env :: X.outer) (fr : X.env.frame = some X.env.locals) (hex : X.ex = [])
    (fly : Fly X.stack s1.heap H ea C s.heap) (hg : Gl X cx) (hm : X.mg cx = some (.ref CB)) (tk : Takes X C CB) (hs : ∀ ev, PSs (X.hnd ev) (b₀ :: suite) th) (q : H ea = none → th D σ (upd H ea (ExcO ea C))) (hd : (cx == ("__debug__" : Str)) = false) :
    wpAny (model X.prog X.w) X.A (noteFrame (.ref ea) X.env) (fun _ s₂ => wpAny (model X.prog X.w) X.A (setFlight (.ref ea) none) (fun _ s₃ =>
      wpAny (model X.prog X.w) X.A (handleBy (.ref ea) X.env (.ExceptHandler (some (.Name cx np)) none (b₀ :: suite) hpos :: rest)) (SP X pins D) E s₃) E s₂) E s := by
  obtain ⟨B, a0, fl, c⟩ := fly
  have hfr : X.A.frames = some (X.env :: X.outer) := by rw [I.ok.frames, hst]
  have ff := fl.2.2.1
  have fl' : Heap.FlyingW B (X.env :: X.outer) ea (.ref C) a0 s.heap := by rw [← hst]; exact fl
  refine wpAny_looks_onW hfr fr fl' fun h₄ held₄ sm₄ => ?_
  refine wpAny_landsW held₄ fun h₅ fl₅ sm₅ => ?_
  have I5 := Inv.moved I1 I hst fr hex c fl₅.1 (sm₄.trans sm₅) ff
  obtain ⟨ob, hob, hobc⟩ := fl₅.there
  refine wpAny_handleBy_cons (codeAny_handlers_test (ld_glob (X := X.hnd (.ref ea)) (I5.hnd (.ref ea)) hg hm ?_ hd)) (by intro z; cases z)
  refine tk _ _ ea ob _ _ I5.kIn hob hobc (codeAny_handlers_suite ?_)
  refine lands_againW (s := { s with heap := h₅ }) fl₅ fun h₆ fl₆ sm₆ => ?_
  have I6 := Inv.moved I1 I hst fr hex c fl₆.1 ((sm₄.trans sm₅).trans sm₆) ff
  obtain ⟨oe, ws, hoe, hoec, hoed, hoe0⟩ := fl₆.first
  have nfr : ea ∉ frs X.stack := fun z => by
    have ff6 := fl₆.2.2.1
    rw [← hst] at ff6
    obtain ⟨_, o', e', d'⟩ := ff6.mem (show ea ∈ X.stack.filterMap (·.frame) from z)
    rw [hoe] at e'
    cases e'
    exact d' ws hoed
  obtain ⟨o1, e1, _⟩ := fl.there
  have hB := fl.2.1
  have hHe : H ea = none := by
    cases z : H ea with
    | none => rfl
    | some u =>
      have := c ea o1 e1 nfr (.inl (by rw [z]; intro y; cases y))
      rw [hB] at this; cases this
  have h1e : s1.heap.get? ea = none := by
    cases z : s1.heap.get? ea with
    | none => rfl
    | some u =>
      have := c ea o1 e1 nfr (.inr ⟨u, z⟩)
      rw [hB] at this; cases this
  have h0e : X.s₀.heap.get? ea = none := by
    cases z : X.s₀.heap.get? ea with
    | none => rfl
    | some u =>
      obtain ⟨o', e'⟩ := I1.base.there ea u z (by rw [hex]; simp)
      rw [h1e] at e'; cases e'
  have I6x := I6.exc hHe hoe hoec h0e (fun z => nfr (by rw [frs_cons hst fr, z]; exact List.mem_cons_self)) (fun y cc e z => by
    obtain ⟨v, o, e', _⟩ := I1.cell y cc e
    rw [z, h1e] at e'; cases e') fun p hp z => by
      have := (I1.pin p hp).1
      rw [z, h1e] at this; cases this
  exact wpAny_mono (hs (.ref ea) pins _ σ _ D (I6x.hnd _) (q hHe)) (fun f s7 h7 => SP.unhnd I.ok h7) fun _ _ z => z.elim
abbrev TX := St → Hp → VK → XK → Prop
def XP (X : Cx) (pins : List (Addr × Obj)) (σ : St) (E : XK) (ev : Value) (s' : Shared) : Prop := ∃ s1 H1 ea C H', Inv X pins σ H1 s1 ∧ ev = .ref ea ∧ Inv X pins σ H' s' ∧ Fly X.stack s1.heap H' ea C s'.heap ∧ E ev (some C) H'
def PEX (X : Cx) (e : Expr) (t : TX) : Prop :=
  ∀ (pins : List (Addr × Obj)) (s : Shared) (σ : St) (H : Hp) (Q : VK) (E : XK), Inv X pins σ H s → t σ H Q E → wpAny (model X.prog X.w) X.A (eval e X.env) (EP X pins σ Q) (XP X pins σ E) s
end
section
variable {X : Cx} {k : Nat} {f C : Addr} {fd : FuncData} {ps : List Str} {sp : Sp} {dvs : List V} {ds : List Value} {x : Str} {p pos : Pos} {e : Expr} {es : List Expr} {t : TA}
end
section
variable {X : Cx} {e : Expr} {t : TX} {C CB : Addr} {cx y : Str} {np hpos pos py apos : Pos} {b₀ : Stmt} {suite : List Stmt} {th : TS} {j : Nat}
def tTrySet (j : Nat) (C : Addr) (t : TX) (th : TS) : TS := fun D σ H => t σ H (fun v H1 => D.nx (σ.set j (some v)) H1) fun ev c H1 => ∃ ea, ev = .ref ea ∧ c = some C ∧ (H1 ea = none → th D σ (upd H1 ea (ExcO ea C)))
theorem ps_trySet (hst : X.stack = X.env :: X.outer) (fr : X.env.frame = some X.env.locals) (hex : X.ex = []) (hN : X.N.Nodup) (hj : X.N[j]? = some y) (hy : Loc X.env.scope y) (he : PEX X e t) (hg : Gl X cx) (hm : X.mg cx = some (.ref CB)) (tk : Takes X C CB)
    (hs : ∀ ev, PSs (X.hnd ev) (b₀ :: suite) th) (hd : (cx == ("__debug__" : Str)) = false := by decide) (hsw : swapsWith e (some (.Name y py)) apos.line X.env = pure false := by rfl)
    (hf : X.fn y = true ∨ X.env.scope.names.lookup y = some .local := by first | exact .inl rfl | exact .inr rfl | assumption) :
    PS X (.Try [.Assign [.Name y py] e apos] [.ExceptHandler (some (.Name cx np)) none (b₀ :: suite) hpos] [] [] pos) (tTrySet j C t th) := by
  intro pins s σ H D I h
  refine wpAny_Try_except (wpAny_execs_cons (wpAny_mono (wpAny_Assign_Name (Q := fun f s1 => f = .next ∧ SP X pins D .next s1) (wpAny_mono (he pins s σ H _ _ I h) (fun v s1 ⟨y1, H1, I1, r1, q1⟩ => ?_) fun ev s1 hx => ?_) hsw) (fun f s1 hq => ?_) fun _ _ z => z))
  · exact store_ok I1 hN hj hy r1 (fun s2 I2 => ⟨rfl, _, H1, I2, q1⟩) hf
  · obtain ⟨s0, H0, ea, C', H', I0, rfl, I', fl, ea2, e2, rfl', q⟩ := hx
    cases e2
    obtain rfl : C' = C := Option.some.inj rfl'
    exact lands I0 I' hst fr hex fl hg hm tk hs q hd
  · obtain ⟨rfl, hq⟩ := hq
    exact wpAny_execs_nil (wpAny_execs_nil hq)
end
end L2
namespace L2
open PySem PySem.Spec PyProof.Rows PySem.Builtin PySem.Builtin.ObjectAttr PySem.Builtin.Getset_descriptor
section
variable {prog : Program} {w : World} {A : Around} {E : Value → Shared → Prop} {s : Shared} {K : PySem.W.Frag} {x D : Addr} {ox : Obj}
end
end L2
namespace L2
open PySem PySem.Spec PyProof.Rows
section
variable {K : PySem.W.Frag} {x D : Addr}
end
section
variable {X : Cx}
end
section
variable {X : Cx} {pins : List (Addr × Obj)} {σ : St} {H H1 : Hp} {s s1 : Shared} {ev : Value}
end
section
variable {X : Cx} {e : Expr} {t : TX} {C CB : Addr} {cx n : Str} {np hpos pos epos : Pos} {b₀ : Stmt} {suite : List Stmt} {th : TS} {i : Nat}
end
end L2
namespace L2
open PySem PySem.Spec PyProof.Rows
section
variable {P : Program} {w : World} {K : PySem.W.Frag} {H : Hp} {h : Heap} {a b : Addr} {xs ys : List V}
theorem sqL_raw (hok : HOk P w H h) (kin : K.In h) (q : SqL K H a xs) : ∃ its : List Value, Vals xs its ∧ PlainL h a its.toArray ∧ xs.length ≤ sizeLine := by
  rcases q with q | ⟨o, its, n, hk, hc, hd, hs, hz, r⟩
  · obtain ⟨z, its, n, r, e⟩ := q.ok hok
    exact ⟨its, r, ⟨_, n, e, rfl, rfl, rfl⟩, z⟩
  · refine ⟨its.toList, r, ⟨o, n, kin a o hk, hc, hd, by simpa using hs⟩, ?_⟩
    have e := r.length
    simp only [Array.length_toList] at e
    omega
theorem sqT_raw (hok : HOk P w H h) (kin : K.In h) (q : SqT K H a xs) : ∃ its : List Value, Vals xs its ∧ IsTup h a its.toArray ∧ xs.length ≤ sizeLine := by
  rcases q with q | ⟨o, its, n, hk, hc, hs, hz, r⟩
  · obtain ⟨z, its, r, p⟩ := q.ok hok
    exact ⟨its, r, p, z⟩
  · refine ⟨its.toList, r, ⟨o, kin a o hk, hc, n, by simpa using hs⟩, ?_⟩
    have e := r.length
    simp only [Array.length_toList] at e
    omega
def TSame (H H' : Hp) : Prop := ∀ b xs, H b = some (.tup xs) → H' b = some (.tup xs)
end
def EqIs (K : PySem.W.Frag) (n : Nat) (H : Hp) (x y : V) (b : Bool) : Prop :=
  ∀ (P : Program) (w : World) (A : Around) (s : Shared) (u v : Value), A.units + n < cLine → HOk P w H s.heap → K.In s.heap → RelV x u → RelV y v → SeqAt.EqAt A s u v b
def RcIs (K : PySem.W.Frag) (n : Nat) (H : Hp) (x y : V) (b : Bool) : Prop :=
  ∀ (P : Program) (w : World) (A : Around) (s : Shared) (u v : Value), A.units + n < cLine → HOk P w H s.heap → K.In s.heap → RelV x u → RelV y v → SeqAt.RcAt A s u v b
def NeIs (K : PySem.W.Frag) (n : Nat) (H : Hp) (x y : V) (b : Bool) : Prop :=
  ∀ (P : Program) (w : World) (A : Around) (s : Shared) (u v : Value), A.units + n < cLine → HOk P w H s.heap → K.In s.heap → RelV x u → RelV y v → SeqAt.RcNeAt A s u v (!b)
section
variable {K : PySem.W.Frag} {H : Hp} {a b : Addr} {n m : Nat} {x y : V} {r : Bool}
theorem tupRc {us vs : List V} {e : Nat → Bool} (ha : SqT K H a us) (hb : SqT K H b vs) (hl : us.length = vs.length) (he : ∀ (j : Nat) x y, us[j]? = some x → vs[j]? = some y → EqIs K n H x y (e j)) :
    RcIs K (n + 1) H (.ref a) (.ref b) ((List.range us.length).all e) ∧ NeIs K (n + 1) H (.ref a) (.ref b) ((List.range us.length).all e) := by
  have main : ∀ (P : Program) (w : World) (A : Around) (s : Shared) (u v : Value), A.units + (n + 1) < cLine → HOk P w H s.heap → K.In s.heap → RelV (.ref a) u → RelV (.ref b) v →
      SeqAt.RcAt A s u v ((List.range us.length).all e) ∧ SeqAt.RcNeAt A s u v (!(List.range us.length).all e) := by
    intro P w A s u v hA hok kin r1 r2
    cases r1
    cases r2
    obtain ⟨i1, v1, p1, _⟩ := sqT_raw hok kin ha
    obtain ⟨i2, v2, p2, _⟩ := sqT_raw hok kin hb
    have l1 := v1.length
    have l2 := v2.length
    have items : ∀ j (h1 : j < i1.toArray.size) (h2 : j < i2.toArray.size), SeqAt.EqAt A.in1 s i1.toArray[j] i2.toArray[j] (e j) := fun j h1 h2 => by
      have h1' : j < i1.length := by simpa using h1
      have h2' : j < i2.length := by simpa using h2
      have e1 : us[j]? = some us[j] := List.getElem?_eq_getElem (by omega)
      have e2 : vs[j]? = some vs[j] := List.getElem?_eq_getElem (by omega)
      obtain ⟨u, eu, ru⟩ := v1.get e1
      obtain ⟨v, ev, rv⟩ := v2.get e2
      have q := he j _ _ e1 e2 P w A.in1 s u v (by show A.units + 1 + n < cLine; omega) hok kin ru rv
      have z1 : i1.toArray[j] = u := by
        rw [List.getElem?_eq_getElem h1'] at eu
        simpa using Option.some.inj eu
      have z2 : i2.toArray[j] = v := by
        rw [List.getElem?_eq_getElem h2'] at ev
        simpa using Option.some.inj ev
      rw [z1, z2]
      exact q
    have ez : ((List.range (min i1.toArray.size i2.toArray.size)).all e && i1.toArray.size == i2.toArray.size) = (List.range us.length).all e := by
      have s1 : i1.toArray.size = us.length := by simp [l1]
      have s2 : i2.toArray.size = us.length := by simp [← l2, hl]
      rw [s1, s2, Nat.min_self]
      simp
    constructor
    · have q := SeqAt.RcAt.tuples (A := A) (s := s) (e := e) p1 p2 (by omega) items
      rw [ez] at q
      exact q
    · have q := SeqAt.RcNeAt.tuples (A := A) (s := s) (e := e) p1 p2 (by omega) items
      rw [ez] at q
      exact q
  exact ⟨fun P w A s u v h1 h2 h3 h4 h5 => (main P w A s u v h1 h2 h3 h4 h5).1, fun P w A s u v h1 h2 h3 h4 h5 => (main P w A s u v h1 h2 h3 h4 h5).2⟩
end
structure Cod (α : Type) [DecidableEq α] where
  n : Nat
  rp : PySem.W.Frag → Hp → α → V → Prop
  inj : ∀ {P : Program} {w : World} {K : PySem.W.Frag} {H : Hp} {h : Heap} {x y : α} {v : V}, HOk P w H h → K.In h → rp K H x v → rp K H y v → x = y
  eq : ∀ {K : PySem.W.Frag} {H : Hp} {x y : α} {u v : V}, rp K H x u → rp K H y v → EqIs K n H u v (decide (x = y))
  rc : ∀ {K : PySem.W.Frag} {H : Hp} {x y : α} {u v : V}, rp K H x u → rp K H y v → RcIs K n H u v (decide (x = y))
  ne : ∀ {K : PySem.W.Frag} {H : Hp} {x y : α} {u v : V}, rp K H x u → rp K H y v → NeIs K n H u v (decide (x = y))
  keep : ∀ {K : PySem.W.Frag} {H H' : Hp} {x : α} {v : V}, TSame H H' → rp K H x v → rp K H' x v
def cInt : Cod Int where
  n := 0
  rp _ _ i v := v = .int i
  inj _ _ h1 h2 := by
    rw [h1] at h2
    exact V.int.inj h2
  eq h1 h2 := by
    intro P w A s u v _ _ _ r1 r2
    subst h1 h2
    obtain ⟨t, rfl⟩ := r1
    obtain ⟨t', rfl⟩ := r2
    rw [← Bool.beq_eq_decide_eq]
    exact SeqAt.EqAt.int_int _ t _ t'
  rc h1 h2 := by
    intro P w A s u v _ _ _ r1 r2
    subst h1 h2
    obtain ⟨t, rfl⟩ := r1
    obtain ⟨t', rfl⟩ := r2
    rw [← Bool.beq_eq_decide_eq]
    exact SeqAt.RcAt.int_int _ t _ t'
  ne h1 h2 := by
    intro P w A s u v _ _ _ r1 r2
    subst h1 h2
    obtain ⟨t, rfl⟩ := r1
    obtain ⟨t', rfl⟩ := r2
    rw [← Bool.beq_eq_decide_eq]
    exact SeqAt.RcNeAt.int_int _ t _ t'
  keep _ h := h
theorem str_beq_dec (x y : Str) : decide (x = y) = (x == y) := by
  rw [Bool.eq_iff_iff]
  simp
def cStr : Cod Str where
  n := 0
  rp _ _ i v := v = .str i
  inj _ _ h1 h2 := by
    rw [h1] at h2
    exact V.str.inj h2
  eq h1 h2 := by
    intro P w A s u v _ _ _ r1 r2
    subst h1 h2
    obtain ⟨t, rfl⟩ := r1
    obtain ⟨t', rfl⟩ := r2
    rw [str_beq_dec]
    exact SeqAt.EqAt.str_str _ t _ t'
  rc h1 h2 := by
    intro P w A s u v _ _ _ r1 r2
    subst h1 h2
    obtain ⟨t, rfl⟩ := r1
    obtain ⟨t', rfl⟩ := r2
    rw [str_beq_dec]
    exact SeqAt.RcAt.str_str _ t _ t'
  ne h1 h2 := by
    intro P w A s u v _ _ _ r1 r2
    subst h1 h2
    obtain ⟨t, rfl⟩ := r1
    obtain ⟨t', rfl⟩ := r2
    rw [str_beq_dec]
    exact SeqAt.RcNeAt.str_str _ t _ t'
  keep _ h := h
section
variable {α β γ : Type} [DecidableEq α] [DecidableEq β] [DecidableEq γ]
end
section
variable {α : Type} [DecidableEq α] {K : PySem.W.Frag} {H : Hp}
theorem _root_.PySem.Paired.get {β γ : Type} {R : β → γ → Prop} : ∀ {xs : List β} {us : List γ}, Paired R xs us → ∀ {j : Nat} {u : γ}, us[j]? = some u → ∃ x, xs[j]? = some x ∧ R x u
  | _, _, .nil, j, u, e => by simp at e
  | _, _, .cons r t, 0, u, e => by simp at e; subst e; exact ⟨_, rfl, r⟩
  | _, _, .cons r t, j + 1, u, e => PySem.Paired.get t (j := j) (by simpa using e)
theorem _root_.PySem.Paired.len {β γ : Type} {R : β → γ → Prop} : ∀ {xs : List β} {us : List γ}, Paired R xs us → xs.length = us.length
  | _, _, .nil => rfl
  | _, _, .cons r t => by simp [PySem.Paired.len t]
theorem _root_.PySem.Paired.app {β γ : Type} {R : β → γ → Prop} : ∀ {xs ys : List β} {us vs : List γ}, Paired R xs us → Paired R ys vs → Paired R (xs ++ ys) (us ++ vs)
  | _, _, _, _, .nil, s => s
  | _, _, _, _, .cons r t, s => .cons r (PySem.Paired.app t s)
theorem range_all_eq {xs ys : List α} {n : Nat} (h1 : xs.length = n) (h2 : ys.length = n) : ((List.range n).all fun j => decide (xs[j]? = ys[j]?)) = decide (xs = ys) := by
  rw [Bool.eq_iff_iff, List.all_eq_true, decide_eq_true_eq]
  constructor
  · intro h
    apply List.ext_getElem?
    intro i
    by_cases hi : i < n
    · exact of_decide_eq_true (h i (List.mem_range.mpr hi))
    · rw [List.getElem?_eq_none (by omega), List.getElem?_eq_none (by omega)]
  · intro h i _
    rw [h]
    exact decide_eq_true rfl
theorem listRc {c : Cod α} {a b : Addr} {us vs : List V} {xs ys : List α} (ha : SqL K H a us) (hb : SqL K H b vs) (px : Paired (c.rp K H) xs us) (py : Paired (c.rp K H) ys vs) :
    RcIs K (c.n + 1) H (.ref a) (.ref b) (decide (xs = ys)) ∧ NeIs K (c.n + 1) H (.ref a) (.ref b) (decide (xs = ys)) := by
  have main : ∀ (P : Program) (w : World) (A : Around) (s : Shared) (u v : Value), A.units + (c.n + 1) < cLine → HOk P w H s.heap → K.In s.heap → RelV (.ref a) u → RelV (.ref b) v →
      SeqAt.RcAt A s u v (decide (xs = ys)) ∧ SeqAt.RcNeAt A s u v (!decide (xs = ys)) := by
    intro P w A s u v hA hok kin r1 r2
    cases r1
    cases r2
    obtain ⟨i1, v1, p1, _⟩ := sqL_raw hok kin ha
    obtain ⟨i2, v2, p2, _⟩ := sqL_raw hok kin hb
    have l1 := v1.length
    have l2 := v2.length
    have m1 := px.len
    have m2 := py.len
    by_cases hl : i1.length = i2.length
    · have items : ∀ j (h1 : j < i1.toArray.size) (h2 : j < i2.toArray.size), SeqAt.EqAt A.in1 s i1.toArray[j] i2.toArray[j] (decide (xs[j]? = ys[j]?)) := fun j h1 h2 => by
        have h1' : j < i1.length := by simpa using h1
        have h2' : j < i2.length := by simpa using h2
        have e1 : us[j]? = some us[j] := List.getElem?_eq_getElem (by omega)
        have e2 : vs[j]? = some vs[j] := List.getElem?_eq_getElem (by omega)
        obtain ⟨u, eu, ru⟩ := v1.get e1
        obtain ⟨v, ev, rv⟩ := v2.get e2
        obtain ⟨x, ex, rx⟩ := px.get e1
        obtain ⟨y, ey, ry⟩ := py.get e2
        have q := c.eq rx ry P w A.in1 s u v (by show A.units + 1 + c.n < cLine; omega) hok kin ru rv
        have z1 : i1.toArray[j] = u := by
          rw [List.getElem?_eq_getElem h1'] at eu
          simpa using Option.some.inj eu
        have z2 : i2.toArray[j] = v := by
          rw [List.getElem?_eq_getElem h2'] at ev
          simpa using Option.some.inj ev
        rw [z1, z2, ex, ey]
        have e : decide ((some x : Option α) = some y) = decide (x = y) := decide_eq_decide.mpr ⟨fun z => Option.some.inj z, fun z => by rw [z]⟩
        rw [e]
        exact q
      have ez : (List.range i1.toArray.size).all (fun j => decide (xs[j]? = ys[j]?)) = decide (xs = ys) := range_all_eq (by rw [List.size_toArray]; omega) (by rw [List.size_toArray]; omega)
      constructor
      · have q := SeqAt.RcAt.lists (A := A) (s := s) p1.isList p2.isList (by simpa using hl) (by omega) items
        rw [ez] at q
        exact q
      · have q := SeqAt.RcNeAt.lists (A := A) (s := s) p1.isList p2.isList (by simpa using hl) (by omega) items
        rw [ez] at q
        exact q
    · have hsz : (i1.toArray.size != i2.toArray.size) = true := by simpa using hl
      have e : decide (xs = ys) = false := decide_eq_false fun z => hl (by rw [← l1, ← l2, ← m1, ← m2, z])
      rw [e]
      exact ⟨SeqAt.RcAt.lists_lengths p1.isList p2.isList hsz (by omega), SeqAt.RcNeAt.lists_lengths p1.isList p2.isList hsz (by omega)⟩
  exact ⟨fun P w A s u v h1 h2 h3 h4 h5 => (main P w A s u v h1 h2 h3 h4 h5).1, fun P w A s u v h1 h2 h3 h4 h5 => (main P w A s u v h1 h2 h3 h4 h5).2⟩
end
section
variable {X : Cx} {α : Type} [DecidableEq α]
theorem hun {c : Nat} {k : Nat} {A : Around} (hr : Room k A) (h : c ≤ 60 := by decide) : A.units + c + 1 < cLine := by
  have := hr.units
  omega
def LsOf (c : Cod α) (K : PySem.W.Frag) (H : Hp) (xs : List α) (v : V) : Prop := ∃ a us, v = .ref a ∧ SqL K H a us ∧ Paired (c.rp K H) xs us
theorem op_neL (c : Cod α) (hu : X.A.units + c.n + 1 < cLine) : OpR X (compareOp .NotEq) (fun x y H Q => ∃ xs ys, LsOf c X.K H xs x ∧ LsOf c X.K H ys y ∧ Q (.bl (!decide (xs = ys))) H) := by
  intro pins s σ H x y v u Q I rx ry h
  obtain ⟨xs, ys, ⟨a, us, rfl, ha, px⟩, ⟨b, vs, rfl, hb, py⟩, q⟩ := h
  exact (listRc ha hb px py).2 X.prog X.w X.A s v u (by omega) I.hok I.kIn rx ry X.prog X.w X.xe _ ⟨.bl _, H, I, rfl, q⟩
noncomputable def eqR (c : Cod α) (K : PySem.W.Frag) (H : Hp) (a : α) (u : Value) : Bool := @decide (∃ v, RelV v u ∧ c.rp K H a v) (Classical.propDecidable _)
theorem eqR_of {c : Cod α} {P : Program} {w : World} {K : PySem.W.Frag} {H : Hp} {h : Heap} {a z : α} {v : V} {u : Value} (hok : HOk P w H h) (kin : K.In h) (r : RelV v u) (q : c.rp K H z v) : eqR c K H a u = decide (z = a) := by
  unfold eqR
  by_cases e : z = a
  · subst e
    rw [decide_eq_true (show z = z from rfl)]
    exact @decide_eq_true _ (Classical.propDecidable _) ⟨v, r, q⟩
  · rw [decide_eq_false e]
    refine @decide_eq_false _ (Classical.propDecidable _) fun ⟨v', r', q'⟩ => e ?_
    have := r.inj r'
    subst this
    exact c.inj hok kin q q'
theorem any_eqR {c : Cod α} {P : Program} {w : World} {K : PySem.W.Frag} {H : Hp} {h : Heap} {a : α} (hok : HOk P w H h) (kin : K.In h) : ∀ {xs : List α} {us : List V} {its : List Value}, Paired (c.rp K H) xs us → Vals us its → its.any (eqR c K H a) = decide (a ∈ xs)
  | _, _, _, .nil, .nil => by simp
  | x :: xs, _, _, .cons p t, .cons r s => by
    rw [List.any_cons, eqR_of hok kin r p, any_eqR hok kin t s, Bool.eq_iff_iff]
    simp only [Bool.or_eq_true, decide_eq_true_eq, List.mem_cons]
    exact ⟨fun z => z.elim (fun e => .inl e.symm) .inr, fun z => z.elim (fun e => .inl e.symm) .inr⟩
theorem mem_eqR {c : Cod α} {P : Program} {w : World} {A : Around} {s : Shared} {K : PySem.W.Frag} {H : Hp} {a : α} {x : V} {v : Value} (hok : HOk P w H s.heap) (kin : K.In s.heap) (hA : A.units + c.n < cLine) (rx : RelV x v) (qx : c.rp K H a x) :
    ∀ {xs : List α} {us : List V} {its : List Value}, Paired (c.rp K H) xs us → Vals us its → ∀ u ∈ its, SeqAt.EqAt A s u v (eqR c K H a u)
  | _, _, _, .nil, .nil => fun u hu => by cases hu
  | _, _, _, .cons p t, .cons r q => fun u' hu => by
    rcases List.mem_cons.mp hu with rfl | hu
    · rw [eqR_of hok kin r p]
      exact c.eq p qx P w A s _ v hA hok kin r rx
    · exact mem_eqR hok kin hA rx qx t q u' hu
def rNinC (c : Cod α) (K : PySem.W.Frag) : R2 := fun x y H Q => ∃ a p us xs, c.rp K H a x ∧ y = .ref p ∧ (SqL K H p us ∨ SqT K H p us) ∧ Paired (c.rp K H) xs us ∧ Q (.bl (!decide (a ∈ xs))) H
theorem op_notinC (c : Cod α) (hu : X.A.units + c.n + 1 < cLine) : OpR X (compareOp .NotIn) (rNinC c X.K) := by
  intro pins s σ H x y v u Q I rx ry h
  obtain ⟨a, p, us, xs, ha, rfl, hq, px, q⟩ := h
  cases ry
  rcases hq with hq | hq
  · obtain ⟨its, r, pl, hz⟩ := I.list hq
    refine SeqAt.notIn_listAt (eqR c X.K H a) pl.isList (fun w hw => mem_eqR I.hok I.kIn (by show X.A.units + 1 + c.n < cLine; omega) rx ha px r w (by simpa using hw)) ⟨.bl _, H, I, rfl, ?_⟩
    rw [show its.toArray.any (eqR c X.K H a) = its.any (eqR c X.K H a) by simp, any_eqR I.hok I.kIn px r]
    exact q
  · obtain ⟨its, r, pl, hz⟩ := I.tuple hq
    refine SeqAt.notIn_tupleAt (eqR c X.K H a) pl (fun w hw => mem_eqR I.hok I.kIn (by show X.A.units + 1 + c.n < cLine; omega) rx ha px r w (by simpa using hw)) ⟨.bl _, H, I, rfl, ?_⟩
    rw [show its.toArray.any (eqR c X.K H a) = its.any (eqR c X.K H a) by simp, any_eqR I.hok I.kIn px r]
    exact q
end
end L2
namespace L2
open PySem PySem.Spec PyProof.Rows
section
variable {prog : Program} {w : World} {A : Around} {R : Result → Shared → Prop} {s : Shared}
end
section
variable {X : Cx} {N' : List Str} {scope : Scope} {mm : Nat} {fv : List Nat}
end
end L2
namespace L2
open PySem PySem.Spec PyProof.Rows
section
variable {X : Cx}
def datL : KTD.Dat → Value → Bool
  | .flat d, v => KTD.flatLooks d v
  | _, _ => false
theorem datL_at {h : Heap} : ∀ (d : KTD.Dat) (v : Value), datL d v = true → d.At h v
  | .flat d, v, e => KTD.flat_of_looks (d := d) e
  | .float _, _, e => by cases e
  | .nums _, _, e => by cases e
  | .words _, _, e => by cases e
  | .tup _, _, e => by cases e
  | .tab _, _, e => by cases e
def TabK (K : PySem.W.Frag) (a : Addr) (D : List (Str × KTD.Dat)) : Prop := KTD.tabLook datL (fun b => K.lookup b) a D = true
theorem TabK.at {K : PySem.W.Frag} {a : Addr} {D : List (Str × KTD.Dat)} {h : Heap} (t : TabK K a D) (kin : K.In h) : KTD.TextTab h a D := KTD.tab_of_look datL_at (fun a o e => kin a o e) t
theorem each_at {h₀ : Heap} {k : Str} {Pr : Value → Prop} : ∀ {D : List (Str × KTD.Dat)} {d : KTD.Dat}, KTD.datumAt k D = some d → KTD.Opened h₀ Pr d → KTD.EachL h₀ k Pr D
  | [], _, e, _ => by cases e
  | (x, d') :: D, d, e, o => by
    have e' : (if decide (k = x) = true then some d' else KTD.datumAt k D) = some d := e
    by_cases hx : k = x
    · rw [if_pos (decide_eq_true hx)] at e'
      cases e'
      exact KTD.eachL_hit hx o
    · rw [if_neg (by simp [hx])] at e'
      exact KTD.eachL_miss hx (each_at e' o)
end
section
variable {X : Cx} {α : Type} [DecidableEq α]
end
structure GF (P : Program) (w : World) (K : PySem.W.Frag) (mg : Str → Option Value) (base : Heap) (CX : CXT) (k : Nat) (x : Str) (ps : List Str) (sp : Sp) where
  f : Addr
  fd : FuncData
  ok : FnOk P w K mg base CX k f fd ps sp
  bd : Binds K fd ps []
  kp : PySem.W.keepIn K (.ref f) = true
  mgx : mg x = some (.ref f)
structure GM (P : Program) (w : World) (K : PySem.W.Frag) (mg : Str → Option Value) (base : Heap) (CX : CXT) (k : Nat) (C : Addr) (m : Str) (ps : List Str) (sp : Sp) where
  f : Addr
  fd : FuncData
  ok : FnOk P w K mg base CX k f fd ps sp
  bd : Binds K fd ps []
  me : Meth K C m f
section
variable {X : Cx} {CX : CXT} {j k : Nat} {x m : Str} {ps : List Str} {sp : Sp} {E : XK} {p pos apos : Pos} {e o : Expr} {es : List Expr} {t : TA} {ta : TE} {C : Addr}
theorem pc (G : GF X.prog X.w X.K X.mg X.base CX j x ps sp) (hr : Room k X.A) (ha : PA X (e :: es) t) (hx : Passes CX X E := by exact pass0) (hk : j ≤ k := by decide) (hg : Gl X x := by rfl)
    (hdb : (x == ("__debug__" : Str)) = false := by decide) (he : starEach (e :: es) X.env = (false, eval e X.env) :: starEach es X.env := by rfl) (hpl : (backTo pos (starEach es X.env)).any (·.1) = false := by rfl) :
    PE X (.Call (.Name x p) (e :: es) [] pos) (tCall sp [] E t) := pe_call G.ok (hr.mono hk) hg G.mgx G.kp G.bd .nil hx ha hdb he hpl
theorem pm0 {pl : Sem Bool} (G : GM X.prog X.w X.K X.mg X.base CX j C m ps sp) (ho : PE X o ta) (cl : Cls X.K C) (hr : Room k X.A) (hx : Passes CX X E := by exact pass0) (hk : j ≤ k := by decide)
    (ht : eval (.Call (.Attribute o m apos) [] [] pos) X.env = (do
      let ov ← eval o X.env
      standAt apos.atName
      let (f, first) ← holding [ov] (getMethod ov m pl)
      callWith pos f first (backTo pos (starEach [] X.env)) (backToKw pos (keywordEach [] X.env))) := by rfl) :
    PE X (.Call (.Attribute o m apos) [] [] pos) (tMeth C m sp [] E ta tNil) := pe_meth0 ho cl G.me G.ok (hr.mono hk) G.bd .nil hx ht
end
end L2
set_option maxHeartbeats 1000000
namespace L2
open PySem PySem.Spec PyProof.Rows
section
variable {K : PySem.W.Frag} {a : Addr} {xs : List V} {tt : TT} {te : TE} {bl : St} {Fin : List V → Hp → Prop} {H : Hp}
theorem lc_list (Pv : Nat → List V → Hp → Prop) (h0 : Pv 0 [] H) (hn : xs.length ≤ sizeLine) (hl : ∀ i ys H, i ≤ xs.length → Pv i ys H → SqL K H a xs)
    (hs : ∀ i x ys H, xs[i]? = some x → Pv i ys H → tt (some x :: bl) H fun c H2 => if c = true then te (some x :: bl) H2 fun y H3 => Pv (i + 1) (ys ++ [y]) H3 else Pv (i + 1) ys H2)
    (hd : ∀ ys H, Pv xs.length ys H → Fin ys H) :
    ∃ (W : Nat → List V → Hp → Prop) (n : Nat), W 0 [] H ∧ n ≤ sizeLine ∧ ∀ i ys H, W i ys H → ((Itl K a).stop i H ∧ Fin ys H) ∨
      ((Itl K a).go i H ∧ i < n ∧ ∀ x H', (Itl K a).yld i H x H' → tt (some x :: bl) H' fun c H2 => if c = true then te (some x :: bl) H2 fun y H3 => W (i + 1) (ys ++ [y]) H3 else W (i + 1) ys H2) := by
  refine ⟨fun i ys H => i ≤ xs.length ∧ Pv i ys H, xs.length, ⟨Nat.zero_le _, h0⟩, hn, ?_⟩
  rintro i ys H ⟨hi, p⟩
  have q := hl i ys H hi p
  by_cases hlt : i < xs.length
  · refine .inr ⟨⟨xs, xs[i], q, by simp [hlt]⟩, hlt, fun x H' y => ?_⟩
    obtain ⟨e, y⟩ := y
    subst e
    have z := hs i x ys _ (y xs q) p
    have e1 : (fun (c : Bool) (H2 : Hp) => if c = true then te (some x :: bl) H2 fun y H3 => i + 1 ≤ xs.length ∧ Pv (i + 1) (ys ++ [y]) H3 else i + 1 ≤ xs.length ∧ Pv (i + 1) ys H2) = fun c H2 => if c = true then te (some x :: bl) H2 fun y H3 => Pv (i + 1) (ys ++ [y]) H3 else Pv (i + 1) ys H2 := by
      have e2 : (i + 1 ≤ xs.length) = True := eq_true hlt
      funext c H2
      simp only [e2, true_and]
    show tt _ _ _
    rw [e1]
    exact z
  · have e : i = xs.length := by omega
    subst e
    exact .inl ⟨⟨xs, q, Nat.le_refl _⟩, hd ys H p⟩
theorem tAllT {σ : St} {A B : Hp → Prop} (h : A H) : tAll σ H (fun c H2 => if c = true then A H2 else B H2) := by
  show if true = true then A H else B H
  exact @iteT (A H) (B H) h
theorem lc_tup (Pv : Nat → List V → Hp → Prop) (h0 : Pv 0 [] H) (hn : xs.length ≤ sizeLine) (hl : ∀ i ys H, i ≤ xs.length → Pv i ys H → SqT K H a xs)
    (hs : ∀ i x ys H, xs[i]? = some x → Pv i ys H → tt (some x :: bl) H fun c H2 => if c = true then te (some x :: bl) H2 fun y H3 => Pv (i + 1) (ys ++ [y]) H3 else Pv (i + 1) ys H2)
    (hd : ∀ ys H, Pv xs.length ys H → Fin ys H) :
    ∃ (W : Nat → List V → Hp → Prop) (n : Nat), W 0 [] H ∧ n ≤ sizeLine ∧ ∀ i ys H, W i ys H → ((Itt K a).stop i H ∧ Fin ys H) ∨
      ((Itt K a).go i H ∧ i < n ∧ ∀ x H', (Itt K a).yld i H x H' → tt (some x :: bl) H' fun c H2 => if c = true then te (some x :: bl) H2 fun y H3 => W (i + 1) (ys ++ [y]) H3 else W (i + 1) ys H2) := by
  refine ⟨fun i ys H => i ≤ xs.length ∧ Pv i ys H, xs.length, ⟨Nat.zero_le _, h0⟩, hn, ?_⟩
  rintro i ys H ⟨hi, p⟩
  have q := hl i ys H hi p
  by_cases hlt : i < xs.length
  · refine .inr ⟨⟨xs, xs[i], q, by simp [hlt]⟩, hlt, fun x H' y => ?_⟩
    obtain ⟨e, y⟩ := y
    subst e
    have z := hs i x ys _ (y xs q) p
    have e1 : (fun (c : Bool) (H2 : Hp) => if c = true then te (some x :: bl) H2 fun y H3 => i + 1 ≤ xs.length ∧ Pv (i + 1) (ys ++ [y]) H3 else i + 1 ≤ xs.length ∧ Pv (i + 1) ys H2) = fun c H2 => if c = true then te (some x :: bl) H2 fun y H3 => Pv (i + 1) (ys ++ [y]) H3 else Pv (i + 1) ys H2 := by
      have e2 : (i + 1 ≤ xs.length) = True := eq_true hlt
      funext c H2
      simp only [e2, true_and]
    show tt _ _ _
    rw [e1]
    exact z
  · have e : i = xs.length := by omega
    subst e
    exact .inl ⟨⟨xs, q, Nat.le_refl _⟩, hd ys H p⟩
theorem lc_range {n : Nat} (Pv : Nat → List V → Hp → Prop) (h0 : Pv 0 [] H) (hn : n ≤ sizeLine)
    (hs : ∀ (i : Nat) ys H, i < n → Pv i ys H → tt (some (.int i) :: bl) H fun c H2 => if c = true then te (some (.int i) :: bl) H2 fun y H3 => Pv (i + 1) (ys ++ [y]) H3 else Pv (i + 1) ys H2)
    (hd : ∀ ys H, Pv n ys H → Fin ys H) :
    ∃ (W : Nat → List V → Hp → Prop) (m : Nat), W 0 [] H ∧ m ≤ sizeLine ∧ ∀ i ys H, W i ys H → ((Itr 0 n).stop i H ∧ Fin ys H) ∨
      ((Itr 0 n).go i H ∧ i < m ∧ ∀ x H', (Itr 0 n).yld i H x H' → tt (some x :: bl) H' fun c H2 => if c = true then te (some x :: bl) H2 fun y H3 => W (i + 1) (ys ++ [y]) H3 else W (i + 1) ys H2) := by
  refine ⟨fun i ys H => i ≤ n ∧ Pv i ys H, n, ⟨Nat.zero_le _, h0⟩, hn, ?_⟩
  rintro i ys H ⟨hi, p⟩
  by_cases hlt : i < n
  · refine .inr ⟨hlt, hlt, fun x H' y => ?_⟩
    obtain ⟨e, y⟩ := y
    subst e
    rw [Int.zero_add] at y
    subst y
    have z := hs i ys _ hlt p
    have e1 : (fun (c : Bool) (H2 : Hp) => if c = true then te (some (.int i) :: bl) H2 fun y H3 => i + 1 ≤ n ∧ Pv (i + 1) (ys ++ [y]) H3 else i + 1 ≤ n ∧ Pv (i + 1) ys H2) = fun c H2 => if c = true then te (some (.int i) :: bl) H2 fun y H3 => Pv (i + 1) (ys ++ [y]) H3 else Pv (i + 1) ys H2 := by
      have e2 : (i + 1 ≤ n) = True := eq_true hlt
      funext c H2
      simp only [e2, true_and]
    show tt _ _ _
    rw [e1]
    exact z
  · have e : i = n := by omega
    subst e
    exact .inl ⟨Nat.le_refl _, hd ys H p⟩
end
end L2
namespace Lo
open PySem L2
theorem same_new {H : Hp} {p : Addr} {o : HO} (h : H p = none) : Same H (upd H p o) := fun b u e => by
  rw [upd_ne (ne_of_none e h)]
  exact e
def Kp (p : Addr) (H H' : Hp) : Prop := ∀ b o, b ≠ p → H b = some o → H' b = some o
theorem Kp.of {p : Addr} {H H' : Hp} (h : Same H H') : Kp p H H' := fun b o _ e => h b o e
theorem Kp.trans {p : Addr} {H H1 H2 : Hp} (a : Kp p H H1) (b : Kp p H1 H2) : Kp p H H2 := fun c o n e => b c o n (a c o n e)
theorem kp_upd {p : Addr} {H : Hp} {o : HO} : Kp p H (upd H p o) := fun b u n e => by
  rw [upd_ne n]
  exact e
end Lo
set_option maxHeartbeats 1000000
namespace Lo
open PySem L2
theorem gint {X : Cx} {x : Str} {i : Int} {pos : Pos} (hm : ∃ t, X.mg x = some (.int i t)) (hg : Gl X x) (hd : (x == ("__debug__" : Str)) = false := by decide) : PE X (.Name x pos) (tC (.int i)) := by
  obtain ⟨t, e⟩ := hm
  exact pe_glob hg e ⟨t, rfl⟩ hd
structure TxB (mg : Str → Option Value) : Prop where
  isi : mg "isinstance" = none
  int : mg "int" = none
  bool : mg "bool" = none
  str : mg "str" = none
  len : mg "len" = none
  range : mg "range" = none
  tuple : mg "tuple" = none
  list : mg "list" = none
  any : mg "any" = none
  all : mg "all" = none
  max : mg "max" = none
  sorted : mg "sorted" = none
theorem tab_mk {K : PySem.W.Frag} {a : Addr} {es : Array DictEntry} {n : Nat} {D : List (Str × PyProof.Rows.KTD.Dat)} (h : K.lookup a = some ⟨.type "dict", none, .dict es n, #[]⟩) (z : (a == sysModules) = false) (r : PyProof.Rows.KTD.rowsLook datL es.toList D = true) : TabK K a D := by
  unfold TabK PyProof.Rows.KTD.tabLook
  rw [z]
  show (true && (match K.lookup a with | some o => _ | none => false)) = true
  rw [h]
  simp [r]
section
variable (C : Kd → Addr) (CL : Addr) (K : PySem.W.Frag)
end
def cellAt (ns : List Int) (k : Nat) : Int := (ns[k]?).getD 0
def spCell (K : PySem.W.Frag) : Sp := fun vs H Q _ => ∃ a ns k, vs = [.ref a, .int (k : Nat)] ∧ SqL K H a ((ns : List Int).map V.int) ∧ Q (.int (cellAt ns k)) H
end Lo
namespace Lo
open PySem L2
end Lo
namespace Lo
open PySem L2
section
variable {K : PySem.W.Frag}
theorem kit_ii : PySem.W.kitOne K (.type "int") (.type "int") = some true := rfl
theorem kit_ss : PySem.W.kitOne K (.type "str") (.type "str") = some true := rfl
theorem kit_tt : PySem.W.kitOne K (.type "tuple") (.type "tuple") = some true := rfl
theorem kit_ll : PySem.W.kitOne K (.type "list") (.type "list") = some true := rfl
theorem kit_ib : PySem.W.kitOne K (.type "int") (.type "bool") = some false := by kernel_rfl
end
def spWhole : Sp := fun vs H Q _ => ∃ i, vs = [.int i] ∧ Q (.bl true) H
def spLaw (K : PySem.W.Frag) : Sp := fun vs H Q _ => ∃ a ns, vs = [.ref a] ∧ SqL K H a ((ns : List Int).map V.int) ∧ ns.length ≤ 63 ∧ ∀ H', Q (.bl true) H'
end Lo
namespace Lo
open PySem L2
theorem pss_weak {X : Cx} {st : List Stmt} {t : TS} (u : TS) (h : PSs X st t) (hw : ∀ D σ H, u D σ H → t D σ H) : PSs X st u := fun pins s σ H D I q => h pins s σ H D I (hw D σ H q)
end Lo
set_option maxHeartbeats 1000000
namespace Lo
open PySem L2
section
variable {K : PySem.W.Frag} {a : Addr} {tt : TT} {te : TE} {bl : St} {Fin : List V → Hp → Prop} {H : Hp}
end
end Lo
namespace Lo
open PySem L2
end Lo
namespace Lo
open PySem L2
theorem int_at {cs : List Int} {i : Nat} {x : V} (h : (cs.map V.int)[i]? = some x) : ∃ c, x = .int c := by
  rw [List.getElem?_map] at h
  cases e : cs[i]? with
  | none => rw [e] at h; cases h
  | some c => rw [e] at h; exact ⟨c, (Option.some.inj h).symm⟩
end Lo
set_option maxHeartbeats 1000000
namespace Lo
open PySem L2
section
variable {X : Cx}
end
end Lo
set_option maxHeartbeats 1000000
namespace Lo
open PySem L2
section
variable {C : Kd → Addr} {CL : Addr} {K : PySem.W.Frag} {H H' : Hp} {l pl pl' d : Addr} {ps ps' : List Pr} {own : List (Addr × List V)} {xs ys : List V}
end
end Lo
set_option maxHeartbeats 1000000
namespace Lo
open PySem L2
section
variable {X : Cx}
end
end Lo
set_option maxHeartbeats 1000000
namespace Lo
open PySem L2
end Lo
set_option maxHeartbeats 1000000
namespace Lo
open PySem L2
section
variable {C : Kd → Addr} {CL : Addr} {K : PySem.W.Frag} {H H' : Hp} {l pl : Addr} {ps : List Pr} {own : List (Addr × List V)}
end
end Lo
set_option maxHeartbeats 1000000
namespace L2
open PySem PySem.Spec PyProof.Rows
section
variable {κ : Type} [DecidableEq κ]
end
section
variable {P : Program} {w : World} {H : Hp} {h : Heap} {a : Addr}
end
section
variable {X : Cx} {pins : List (Addr × Obj)} {σ : St} {H : Hp} {s : Shared} {a : Addr} {y v : V} {u r : Value} {o : Option V} {A : Around} {E : Value → Shared → Prop}
end
section
variable {X : Cx} {pins : List (Addr × Obj)} {σ : St} {H : Hp} {s : Shared} {a : Addr} {kvs : List (Key × V)} {k : Key} {u : Value} {A : Around} {E : Value → Shared → Prop}
end
section
variable {X : Cx} {o i e value : Expr} {pos pos' tpos : Pos} {td ty tv : TE}
end
section
variable {X : Cx} {pos : Pos}
end
structure M1 (X : Cx) (o : Expr) (m : Str) (apos : Pos) (e : Expr) (cpos : Pos) : Prop where
  base : attributeBase o m X.env (eval o X.env) = eval o X.env
  few : ((backTo cpos (starEach [e] X.env)).all (fun x => !x.1) && (backToKw cpos (keywordEach [] X.env)).all (fun x => x.1.isSome)
    && decide (([e] : List Expr).length + ([] : List Keyword).length + (if ([] : List Keyword).isEmpty then 0 else 1) < 30)) = true
  line : (apos.endLine == cpos.line) = true
  trees : backTo cpos (starEach [e] X.env) = [(false, eval e X.env)]
section
variable {X : Cx} {pins : List (Addr × Obj)} {σ : St} {H : Hp} {s : Shared} {a : Addr} {y d : V} {u r : Value} {o : Option V} {A : Around} {E : Value → Shared → Prop}
end
section
variable {X : Cx} {o e f : Expr} {apos cpos : Pos} {td ty tx : TE}
end
end L2
set_option maxHeartbeats 1000000
namespace Lo
open PySem L2
section
variable {C : Kd → Addr} {CL : Addr} {K : PySem.W.Frag} {H H' : Hp}
variable {l0 pl0 q0 l1 pl1 q1 : Addr} {ps0 ps1 : List Pr} {us0 us1 : List V} {own : List (Addr × List V)}
end
section
variable {X : Cx}
end
end Lo
namespace Km
open PySem PySem.NumText PyProof.Rows
def isDig (c : Nat) : Bool := decide (48 ≤ c) && decide (c ≤ 57)
def okSign (c : Nat) : Bool := decide (32 ≤ c) && decide (c ≤ 126) && decide (c ≠ 37)
def digs (m : Nat) : List Nat := (Nat.toDigits 10 m).map Char.toNat
def numCs (n : Int) : List Nat := if n < 0 then 45 :: digs n.natAbs else digs n.natAbs
theorem digs_all (m : Nat) : AllDigits (digs m) := by
  intro c hc
  obtain ⟨ch, hch, e⟩ := List.mem_map.mp hc
  have r := digit_range (Nat.isDigit_of_mem_toDigits (by decide) (by decide) hch)
  rw [← e]
  exact r
theorem digs_ne (m : Nat) : digs m ≠ [] := by
  intro e
  have h := toDigits_len_ge 10 m
  rw [List.map_eq_nil_iff.mp e] at h
  exact absurd h (by decide)
theorem digs_val (m : Nat) : digitsVal (digs m) = m := PySem.W.KIN.val_back m
theorem digs_zero : digs 0 = [48] := rfl
theorem digs_head (m : Nat) (h : m ≠ 0) : ∀ c r, digs m = c :: r → c ≠ 48 := by
  induction m using Nat.strongRecOn with
  | _ m ih =>
    intro c r e
    by_cases hm : m < 10
    · unfold digs at e
      rw [Nat.toDigits_of_lt_base hm] at e
      have hc : (Nat.digitChar m).toNat = c := by simpa using (List.cons.inj e).1
      have key : ∀ d : Nat, d < 10 → d ≠ 0 → (Nat.digitChar d).toNat ≠ 48 := by decide
      rw [← hc]
      exact key m hm h
    · have t : Nat.toDigits 10 (m / 10) ++ Nat.toDigits 10 (m % 10) = Nat.toDigits 10 (10 * (m / 10) + m % 10) := Nat.toDigits_append_toDigits (by decide) (by omega) (Nat.mod_lt m (by decide))
      rw [Nat.div_add_mod] at t
      have e2 : digs m = digs (m / 10) ++ digs (m % 10) := by unfold digs; rw [← t, List.map_append]
      cases q : digs (m / 10) with
      | nil => exact absurd q (digs_ne _)
      | cons c' r' =>
        rw [e2, q] at e
        have : c' = c := (List.cons.inj e).1
        rw [← this]
        exact ih (m / 10) (by omega) (by omega) c' r' q
theorem digs_len {m k : Nat} (hk : 1 ≤ k) (h : m < 10 ^ k) : (digs m).length ≤ k := by
  induction k generalizing m with
  | zero => omega
  | succ k ih =>
    by_cases hm : m < 10
    · unfold digs
      rw [Nat.toDigits_of_lt_base hm]
      simp
    · have hk1 : 1 ≤ k := by
        cases k with
        | zero => exfalso; simp at h; omega
        | succ k => omega
      have t : Nat.toDigits 10 (m / 10) ++ Nat.toDigits 10 (m % 10) = Nat.toDigits 10 (10 * (m / 10) + m % 10) := Nat.toDigits_append_toDigits (by decide) (by omega) (Nat.mod_lt m (by decide))
      rw [Nat.div_add_mod] at t
      have e2 : digs m = digs (m / 10) ++ digs (m % 10) := by unfold digs; rw [← t, List.map_append]
      have e3 : digs (m % 10) = [(Nat.digitChar (m % 10)).toNat] := by unfold digs; rw [Nat.toDigits_of_lt_base (Nat.mod_lt m (by decide))]; rfl
      have h2 : m / 10 < 10 ^ k := by
        rw [Nat.pow_succ] at h
        exact Nat.div_lt_of_lt_mul (by rw [Nat.mul_comm]; exact h)
      have := ih hk1 h2
      rw [e2, e3, List.length_append]
      simpa using this
theorem str_num (n : Int) : (Str.ofString (toString n)).cps.toList = numCs n := by
  cases n with
  | ofNat m =>
    unfold numCs
    rw [if_neg (show ¬ Int.ofNat m < 0 from Int.not_lt.mpr (Int.natCast_nonneg m))]
    exact PySem.W.KIN.signs_num m
  | negSucc m =>
    unfold numCs
    rw [if_pos (by omega)]
    have e : toString (Int.negSucc m) = "-" ++ Nat.repr (m + 1) := rfl
    rw [e, signs_ofString, String.toList_append, List.map_append, Nat.toList_repr]
    rfl
theorem log_ok {n : Int} (h : n.natAbs < 10 ^ 400) : n.natAbs.log2 < 1920 := by
  by_cases h0 : n.natAbs = 0
  · rw [h0]; decide
  · exact (Nat.log2_lt h0).mpr (Nat.lt_of_lt_of_le h (by decide +kernel))
end Km
namespace Km
open PySem PySem.NumText L2
end Km
namespace Km
open PySem PySem.NumText L2 PyProof.Rows
def joinC (c : Nat) : List (List Nat) → List Nat
  | [] => []
  | [x] => x
  | x :: y :: r => x ++ c :: joinC c (y :: r)
theorem join_one_cs (c : Nat) : ∀ ys : List Str, (Str.join ⟨#[c]⟩ ys).cps.toList = joinC c (ys.map fun y => y.cps.toList)
  | [] => rfl
  | [y] => rfl
  | y :: u :: ys => by
    have ih := join_one_cs c (u :: ys)
    rw [join_cons_cons]
    show ((y.cps ++ #[c]) ++ (Str.join ⟨#[c]⟩ (u :: ys)).cps).toList = _
    rw [Array.toList_append, Array.toList_append, ih]
    simp [joinC]
theorem cut_first {c : Nat} {a b a' b' : List Nat} (ha : c ∉ a) (ha' : c ∉ a') (e : a ++ c :: b = a' ++ c :: b') : a = a' ∧ b = b' := by
  induction a generalizing a' with
  | nil =>
    cases a' with
    | nil => exact ⟨rfl, (List.cons.inj e).2⟩
    | cons x a' => exact absurd (List.mem_cons.mpr (.inl (List.cons.inj e).1)) ha'
  | cons x a ih =>
    cases a' with
    | nil => exact absurd (List.mem_cons.mpr (.inl (List.cons.inj e).1.symm)) ha
    | cons y a' =>
      obtain ⟨e1, e2⟩ := List.cons.inj e
      obtain ⟨r1, r2⟩ := ih (fun h => ha (List.mem_cons_of_mem _ h)) (fun h => ha' (List.mem_cons_of_mem _ h)) e2
      exact ⟨by rw [e1, r1], r2⟩
theorem joinC_inj {c : Nat} : ∀ {xs ys : List (List Nat)}, xs ≠ [] → ys ≠ [] → (∀ x ∈ xs, c ∉ x) → (∀ y ∈ ys, c ∉ y) → joinC c xs = joinC c ys → xs = ys
  | [], _, h, _, _, _, _ => absurd rfl h
  | _ :: _, [], _, h, _, _, _ => absurd rfl h
  | [x], [y], _, _, _, _, e => by rw [show x = y from e]
  | [x], y :: u :: ys, _, _, hx, _, e => by
    have e' : x = y ++ c :: joinC c (u :: ys) := e
    exact absurd (by rw [e']; simp) (hx x List.mem_cons_self)
  | x :: u :: xs, [y], _, _, _, hy, e => by
    have e' : x ++ c :: joinC c (u :: xs) = y := e
    exact absurd (by rw [← e']; simp) (hy y List.mem_cons_self)
  | x :: u :: xs, y :: v :: ys, _, _, hx, hy, e => by
    have e' : x ++ c :: joinC c (u :: xs) = y ++ c :: joinC c (v :: ys) := e
    obtain ⟨e1, e2⟩ := cut_first (hx x List.mem_cons_self) (hy y List.mem_cons_self) e'
    rw [e1, joinC_inj (by simp) (by simp) (fun z hz => hx z (List.mem_cons_of_mem _ hz)) (fun z hz => hy z (List.mem_cons_of_mem _ hz)) e2]
theorem split_at {z : Str} {c : Nat} {ps : List (List Nat)} (ez : z.cps.toList = joinC c ps) (h0 : ps ≠ []) (hp : ∀ p ∈ ps, c ∉ p) : Txt.split z ⟨#[c]⟩ = ps.map fun p => (⟨p.toArray⟩ : Str) := by
  have e1 := join_one_cs c (Txt.split z ⟨#[c]⟩)
  rw [StrLaws.join_split, ez] at e1
  have n1 : (Txt.split z ⟨#[c]⟩).map (fun y => y.cps.toList) ≠ [] := by
    intro e
    have := split_pos z ⟨#[c]⟩
    rw [List.map_eq_nil_iff.mp e] at this
    exact absurd this (by decide)
  have e2 := joinC_inj h0 n1 hp (fun y hy => by
    obtain ⟨p, hp', rfl⟩ := List.mem_map.mp hy
    exact StrLaws.split_free z c p hp') e1
  rw [e2, List.map_map]
  have e3 : ((fun p : List Nat => (⟨p.toArray⟩ : Str)) ∘ fun y : Str => y.cps.toList) = id := by
    funext y
    obtain ⟨a⟩ := y
    simp
  rw [e3, List.map_id]
end Km
set_option maxHeartbeats 1000000
namespace St
open PySem L2 Lo Km PySem.NumText
inductive Wd where
  | take | mean | sum | give | add | plus | need
  deriving DecidableEq
def wS : Wd → Str
  | .take => "take" | .mean => "mean" | .sum => "sum" | .give => "give" | .add => "add" | .plus => "plus" | .need => "need"
def wN : Wd → Str
  | .take => "TakeStep" | .mean => "MeanStep" | .sum => "SumStep" | .give => "GiveStep" | .add => "AddStep" | .plus => "PlusStep" | .need => "NeedStep"
def inN (i : Int) : Prop := 0 ≤ i ∧ i < 10 ^ 40
def inV (i : Int) : Prop := i.natAbs < 10 ^ 40
theorem inN.v {i : Int} (h : inN i) : inV i := by
  unfold inN at h
  unfold inV
  omega
def Ar : Wd → List Int → Prop
  | .take, [h, c] => inN h ∧ inN c
  | .mean, [h, c] => inN h ∧ inN c
  | .give, [h, c] => inN h ∧ inN c
  | .sum, [h, a, b] => inN h ∧ inN a ∧ inN b ∧ a ≤ b
  | .add, [h, c, v] => inN h ∧ inN c ∧ inV v
  | .plus, [v] => inV v
  | .need, [v] => inV v
  | _, _ => False
theorem Ar.all {w : Wd} {ns : List Int} (h : Ar w ns) : ∀ i ∈ ns, inV i := by
  unfold Ar at h
  split at h
  · intro i hi; simp only [List.mem_cons, List.mem_nil_iff, or_false] at hi; rcases hi with rfl | rfl <;> first | exact h.1.v | exact h.2.v
  · intro i hi; simp only [List.mem_cons, List.mem_nil_iff, or_false] at hi; rcases hi with rfl | rfl <;> first | exact h.1.v | exact h.2.v
  · intro i hi; simp only [List.mem_cons, List.mem_nil_iff, or_false] at hi; rcases hi with rfl | rfl <;> first | exact h.1.v | exact h.2.v
  · intro i hi; simp only [List.mem_cons, List.mem_nil_iff, or_false] at hi; rcases hi with rfl | rfl | rfl <;> first | exact h.1.v | exact h.2.1.v | exact h.2.2.1.v
  · intro i hi; simp only [List.mem_cons, List.mem_nil_iff, or_false] at hi; rcases hi with rfl | rfl | rfl <;> first | exact h.1.v | exact h.2.1.v | exact h.2.2
  · intro i hi; simp only [List.mem_cons, List.mem_nil_iff, or_false] at hi; rcases hi with rfl; exact h
  · intro i hi; simp only [List.mem_cons, List.mem_nil_iff, or_false] at hi; rcases hi with rfl; exact h
  · exact h.elim
def iS (i : Int) : Str := Str.ofString (toString i)
theorem iS_len {i : Int} (h : inV i) : (iS i).length ≤ 41 := by
  have e : (iS i).length = (numCs i).length := by
    unfold iS
    rw [← str_num]
    simp [Str.length]
  rw [e]
  unfold numCs
  have := digs_len (k := 40) (by decide) h
  split
  · rw [List.length_cons]; omega
  · omega
theorem num_32 (i : Int) : 32 ∉ numCs i := by
  have hd : ∀ m, 32 ∉ digs m := fun m hm => by
    have := digs_all m
    have h := this 32 hm
    omega
  unfold numCs
  split
  · intro hm
    rcases List.mem_cons.mp hm with e | e
    · cases e
    · exact hd _ e
  · exact hd _
def txt (w : Wd) (ns : List Int) : Str := Str.join (Str.ofString " ") (wS w :: ns.map iS)
theorem wS_32 (w : Wd) : 32 ∉ (wS w).cps.toList := by cases w <;> decide +kernel
theorem wS_len (w : Wd) : (wS w).length ≤ 4 := by cases w <;> decide +kernel
theorem sep_eq : (Str.ofString " ") = ⟨#[32]⟩ := by decide +kernel
theorem split_txt (w : Wd) (ns : List Int) : Txt.split (txt w ns) ⟨#[32]⟩ = wS w :: ns.map iS := by
  have e := join_one_cs 32 (wS w :: ns.map iS)
  have e2 : (txt w ns).cps.toList = joinC 32 ((wS w :: ns.map iS).map fun y => y.cps.toList) := by
    unfold txt
    rw [sep_eq]
    exact e
  rw [split_at e2 (by simp) (fun p hp => ?_)]
  · rw [List.map_map]
    have e3 : ((fun p : List Nat => (⟨p.toArray⟩ : Str)) ∘ fun y : Str => y.cps.toList) = id := by
      funext y
      obtain ⟨a⟩ := y
      simp
    rw [e3, List.map_id]
  · obtain ⟨y, hy, rfl⟩ := List.mem_map.mp hp
    rcases List.mem_cons.mp hy with e | hy
    · rw [e]; exact wS_32 w
    · obtain ⟨i, _, rfl⟩ := List.mem_map.mp hy
      have e4 : (iS i).cps.toList = numCs i := str_num i
      rw [e4]
      exact num_32 i
theorem Ar.len {w : Wd} {ns : List Int} (h : Ar w ns) : 1 ≤ ns.length ∧ ns.length ≤ 3 := by
  unfold Ar at h
  split at h <;> first | exact h.elim | (constructor <;> simp)
theorem sum_le {ys : List Str} {k : Nat} (h : ∀ y ∈ ys, y.length ≤ k) : (ys.map (·.length)).sum ≤ ys.length * k := by
  induction ys with
  | nil => simp
  | cons y ys ih =>
    have h1 := h y List.mem_cons_self
    have h2 := ih fun y hy => h y (List.mem_cons_of_mem _ hy)
    rw [List.map_cons, List.sum_cons, List.length_cons, Nat.succ_mul]
    omega
theorem words_le {w : Wd} {ns : List Int} (h : Ar w ns) : ∀ y ∈ wS w :: ns.map iS, y.length ≤ 41 := fun y hy => by
  rcases List.mem_cons.mp hy with e | hy
  · rw [e]; exact Nat.le_trans (wS_len w) (by decide)
  · obtain ⟨i, hi, rfl⟩ := List.mem_map.mp hy
    exact iS_len (h.all i hi)
theorem words_sum {w : Wd} {ns : List Int} (h : Ar w ns) : ((wS w :: ns.map iS).map (·.length)).sum + (wS w :: ns.map iS).length * (Str.ofString " ").length ≤ 1000 := by
  have h1 := sum_le (words_le h)
  have h2 := h.len
  have h3 : (Str.ofString " ").length = 1 := by decide +kernel
  rw [h3]
  have h4 : (wS w :: ns.map iS).length ≤ 4 := by rw [List.length_cons, List.length_map]; omega
  have h5 : (wS w :: ns.map iS).length * 41 ≤ 4 * 41 := Nat.mul_le_mul_right _ h4
  omega
def fsOf : Wd → List Int → List (Str × V)
  | .take, [h, c] => putF "cell" (.int c) (putF "where" (.int h) [])
  | .mean, [h, c] => putF "cell" (.int c) (putF "where" (.int h) [])
  | .give, [h, c] => putF "cell" (.int c) (putF "where" (.int h) [])
  | .sum, [h, a, b] => putF "high" (.int b) (putF "low" (.int a) (putF "where" (.int h) []))
  | .add, [h, c, v] => putF "amount" (.int v) (putF "cell" (.int c) (putF "where" (.int h) []))
  | .plus, [v] => putF "amount" (.int v) []
  | .need, [v] => putF "amount" (.int v) []
  | _, _ => []
def StO (C : Wd → Addr) (H : Hp) (w : Wd) (ns : List Int) (v : V) : Prop := ∃ a dx, v = .ref a ∧ H a = some (.ins (C w) dx (fsOf w ns))
theorem StO.keep {C : Wd → Addr} {H H' : Hp} {w : Wd} {ns : List Int} {v : V} (e : Same H H') (h : StO C H w ns v) : StO C H' w ns v := by
  obtain ⟨a, dx, rfl, q⟩ := h
  exact ⟨a, dx, rfl, e _ _ q⟩
def tSt (H : Hp) (w : Wd) (ns : List Int) (v : V) : Prop := ∃ a, v = .ref a ∧ H a = some (.tup (.str (wS w) :: ns.map V.int))
theorem tSt.keep {H H' : Hp} {w : Wd} {ns : List Int} {v : V} (e : Same H H') (h : tSt H w ns v) : tSt H' w ns v := by
  obtain ⟨a, rfl, q⟩ := h
  exact ⟨a, rfl, e _ _ q⟩
def houseV : Wd → List Int → V
  | .plus, _ => .non
  | .need, _ => .non
  | _, h :: _ => .int h
  | _, [] => .non
end St
set_option maxHeartbeats 1000000
namespace L2
open PySem PySem.Spec PyProof.Rows
section
variable {X : Cx} {CX : CXT} {E : XK} {k : Nat} {C f : Addr} {fd : FuncData} {ps : List Str} {sp : Sp} {m : Str} {o e : Expr} {es : List Expr} {t : TA} {ty : TE} {pos apos cpos p : Pos} {mc : Value}
structure ClsFn (K : PySem.W.Frag) (C : Addr) (m : Str) (f : Addr) : Prop where
  ga : PySem.W.specialIn K (.ref C) "__getattribute__" = some (some (.builtin "type.__getattribute__"))
  rd : PySem.W.readsIn K C (.type "type") = true
  fc : PySem.W.findCls K (.ref C) (.type "type") m = some (.val (.ref f))
  hi : PySem.W.handedIn (.ref f) = true
  kp : PySem.W.keepIn K (.ref f) = true
theorem pe_clsm {pl : Sem Bool} (ho : PE X o (tC (.ref C))) (c : ClsFn X.K C m f) (F : FnOk X.prog X.w X.K X.mg X.base CX k f fd ps sp) (hr : Room k X.A) (hb : Binds X.K fd ps []) (hx : Passes CX X E) (ha : PA X (e :: es) t)
    (hst : starEach (e :: es) X.env = (false, eval e X.env) :: starEach es X.env := by rfl) (hpl : (backTo pos (starEach es X.env)).any (·.1) = false := by rfl)
    (ht : eval (.Call (.Attribute o m apos) (e :: es) [] pos) X.env = (do
      let ov ← eval o X.env
      standAt apos.atName
      let (f, first) ← holding [ov] (getMethod ov m pl)
      callWith pos f first (backTo pos (starEach (e :: es) X.env)) (backToKw pos (keywordEach [] X.env))) := by rfl) :
    PE X (.Call (.Attribute o m apos) (e :: es) [] pos) (tCall sp [] E t) := by
  intro pins s σ H Q I h
  refine PySem.W.methodCall_KW (pl := pl) (thn (ho pins s σ H (fun x H1 => x = .ref C ∧ t σ H1 fun vs H2 => sp (vs ++ []) H2 Q E) I ⟨rfl, h⟩) fun u s1 ⟨x, H1, I1, rx, ex, q⟩ => ?_) ht
  subst ex
  obtain rfl : u = Value.ref C := rx
  refine PySem.W.method_cls I1.kIn c.ga (PySem.W.cls_value I1.kIn c.rd c.fc c.hi ?_)
  have I2 : Inv X pins σ H1 { s1 with toks := s1.toks + 1 } := I1.tok _
  refine PySem.W.callWith_K (first := []) (h₀ := X.base) I.ok.mod.kin c.kp (thn (ha pos pins _ σ H1 _ I2 q) fun us s2 ⟨vs, H2, I3, r, q2⟩ => ⟨I3.kIn, ?_⟩) hst hpl
  exact run_fn (us := us) (vs := vs) F hr hb .nil hx I3 r q2
theorem pe_tabS {a : Addr} {D : List (Str × KTD.Dat)} (ho : PE X o (tC (.ref a))) (he : PE X e ty) (mm : M1 X o "get" apos e cpos) (ht : TabK X.K a D) :
    PE X (.Call (.Attribute o "get" apos) [e] [] cpos) (fun σ H Q => ty σ H fun y H1 => ∃ k z, y = .str k ∧ KTD.datumAt k D = some (.flat (.str z)) ∧ Q (.str z) H1) := by
  intro pins s σ H Q I h
  refine wpAny_Call_method mm.base mm.few mm.line PySem.F.plainAttrs_dict PySem.F.slot_dict_get PySem.F.type_dict_get (thn (ho pins s σ H (fun x H1 => x = .ref a ∧ ty σ H1 fun y H1 => ∃ k z, y = .str k ∧ KTD.datumAt k D = some (.flat (.str z)) ∧ Q (.str z) H1) I ⟨rfl, h⟩) fun u s1 ⟨x, H1, I1, rx, ex, q1⟩ => ?_)
  subst ex
  obtain rfl : u = Value.ref a := rx
  have T1 : KTD.Here s1.heap s1.heap a D := ⟨ht.at I1.kIn, fun _ _ e => e⟩
  refine ⟨T1.typeIs, T1.noDict, ?_⟩
  rw [mm.trees]
  refine Calls.callWith_builtin rfl (Calls.evalArgs_plain (Calls.spliced_cons (thn (he pins s1 σ H1 _ I1 q1) fun iv s2 ⟨y, H2, I2, ry, k, z, ek, hd, q2⟩ => Calls.spliced_nil ?_)))
  subst ek
  obtain ⟨tk, rfl⟩ := ry
  refine KTD.get1_textL (h₀ := s2.heap) ⟨ht.at I2.kIn, fun _ _ e => e⟩ ?_ (each_at hd (KTD.opened_str fun t' => ⟨.str z, H2, I2.tok _, ⟨_, rfl⟩, q2⟩))
  rw [← KTD.isSome_datumAt, hd]
  rfl
theorem mt_lstripC : MtR X "str.lstrip" (fun x vs H Q => ∃ z y, x = .str z ∧ vs = [.str y] ∧ z.length ≤ sizeLine ∧ Q (.str (Txt.lstripChars z y)) H) := by
  intro pins s σ H x xs v us Q I rx r h
  obtain ⟨z, y, rfl, rfl, hz, q⟩ := h
  obtain ⟨t, rfl⟩ := rx
  obtain ⟨u, rfl, ⟨t1, rfl⟩⟩ := vals1 r
  exact SC.lstripChars (fun t' k => ⟨.str _, H, I.tok _, ⟨_, rfl⟩, q⟩) hz
theorem pex_of {te : TE} (h : PE X.nox e te) : PEX X e (fun σ H Q _ => te σ H Q) := by
  intro pins s σ H Q E I q
  exact nox (h pins s σ H _ (I.wish _) q) fun v s1 ⟨x, H1, I1, r, q1⟩ => ⟨x, H1, I1.unwish, r, q1⟩
end
end L2
set_option maxHeartbeats 1000000
namespace St
open PySem L2 Lo Km PySem.NumText
structure TxW (K : PySem.W.Frag) (CW : Wd → Addr) : Prop where
  cl : ∀ w, Cls K (CW w)
  nW : ∀ w, NoAttr K (CW w) "where"
  nC : ∀ w, NoAttr K (CW w) "cell"
  nL : ∀ w, NoAttr K (CW w) "low"
  nH : ∀ w, NoAttr K (CW w) "high"
  nA : ∀ w, NoAttr K (CW w) "amount"
def isC : Wd → Bool
  | .take => true | .mean => true | .give => true | _ => false
theorem lk_hit {f : Str} {v : V} {fs : List (Str × V)} : (putF f v fs).lookup f = some v := by rw [lookup_putF, if_pos rfl]
theorem lk_miss {f g : Str} {v : V} {fs : List (Str × V)} (h : ¬ g = f) : (putF f v fs).lookup g = fs.lookup g := by rw [lookup_putF, if_neg h]
section
variable (CW : Wd → Addr)
def spWInit (w : Wd) : Sp := fun vs H Q _ => ∃ a dx ns, vs = .ref a :: (ns : List Int).map V.int ∧ Ar w ns ∧ H a = some (.ins (CW w) dx []) ∧ ∀ H', H' a = some (.ins (CW w) dx (fsOf w ns)) → Kp a H H' → Q .non H'
def spCInit : Sp := fun vs H Q _ => ∃ a dx w h c, vs = [.ref a, .int h, .int c] ∧ H a = some (.ins (CW w) dx []) ∧ ∀ H', H' a = some (.ins (CW w) dx (putF "cell" (.int c) (putF "where" (.int h) []))) → Kp a H H' → Q .non H'
def spHouse (w : Wd) : Sp := fun vs H Q _ => ∃ v ns, vs = [v] ∧ Ar w ns ∧ StO CW H w ns v ∧ Q (houseV w ns) H
def spSure (w : Wd) : Sp := fun vs H Q _ => ∃ v, vs = [v] ∧ Q (.bl (decide (w = .give))) H
def spSpelled (w : Wd) : Sp := fun vs H Q _ => ∃ v ns, vs = [v] ∧ Ar w ns ∧ StO CW H w ns v ∧ ∀ H', Same H H' → Q (.str (txt w ns)) H'
end
def spSpell : Sp := fun vs H Q _ => ∃ w q ns, vs = [.str (wS w), .ref q] ∧ H q = some (.lst ((ns : List Int).map V.int)) ∧ Ar w ns ∧ ∀ H', Same H H' → Q (.str (txt w ns)) H'
theorem log_v {i : Int} (h : inV i) : i.natAbs.log2 < 1920 := by
  by_cases h0 : i.natAbs = 0
  · rw [h0]; decide
  · exact (Nat.log2_lt h0).mpr (Nat.lt_trans h (by decide +kernel))
theorem Ar.c {w : Wd} {ns : List Int} (hw : isC w = true) (h : Ar w ns) : ∃ a b, ns = [a, b] ∧ inN a ∧ inN b ∧ fsOf w ns = putF "cell" (.int b) (putF "where" (.int a) []) := by
  cases w <;> first | cases hw | skip
  all_goals
    match ns, h with
    | [a, b], h => exact ⟨a, b, rfl, h.1, h.2, rfl⟩
theorem Ar.s {ns : List Int} (h : Ar .sum ns) : ∃ a b c, ns = [a, b, c] ∧ inN a ∧ inN b ∧ inN c ∧ b ≤ c := by
  match ns, h with
  | [a, b, c], h => exact ⟨a, b, c, rfl, h⟩
theorem Ar.a {ns : List Int} (h : Ar .add ns) : ∃ a b c, ns = [a, b, c] ∧ inN a ∧ inN b ∧ inV c := by
  match ns, h with
  | [a, b, c], h => exact ⟨a, b, c, rfl, h⟩
theorem Ar.p {ns : List Int} (h : Ar .plus ns) : ∃ a, ns = [a] ∧ inV a := by
  match ns, h with
  | [a], h => exact ⟨a, rfl, h⟩
theorem Ar.n {ns : List Int} (h : Ar .need ns) : ∃ a, ns = [a] ∧ inV a := by
  match ns, h with
  | [a], h => exact ⟨a, rfl, h⟩
end St
set_option maxHeartbeats 1000000
namespace St
open PySem PySem.Spec PyProof.Rows L2 Lo Km PySem.NumText
section
variable {K : PySem.W.Frag} {H : Hp} {a : Addr} {bl : L2.St} {te : TE} {Fin : List V → Hp → Prop}
theorem lc_ints {g : Int → V} {ns : List Int} (hq : SqL K H a (ns.map V.int)) (hn : ns.length ≤ sizeLine)
    (he : ∀ i H1 (Q : VK), i ∈ ns → Same H H1 → (∀ H2, Same H1 H2 → Q (g i) H2) → te (some (.int i) :: bl) H1 Q)
    (hd : ∀ H1, Same H H1 → Fin (ns.map g) H1) :
    ∃ (W : Nat → List V → Hp → Prop) (n : Nat), W 0 [] H ∧ n ≤ sizeLine ∧ ∀ i ys H, W i ys H → ((Itl K a).stop i H ∧ Fin ys H) ∨
      ((Itl K a).go i H ∧ i < n ∧ ∀ x H', (Itl K a).yld i H x H' → tAll (some x :: bl) H' fun c H2 => if c = true then te (some x :: bl) H2 fun y H3 => W (i + 1) (ys ++ [y]) H3 else W (i + 1) ys H2) := by
  refine lc_list (tt := tAll) (xs := ns.map V.int) (fun i ys H1 => Same H H1 ∧ ys = (ns.take i).map g) ⟨Same.refl _, rfl⟩ (by rw [List.length_map]; exact hn) (fun i ys H1 _ z => z.1.seq hq) ?_ ?_
  · rintro i x ys H1 hx ⟨s1, rfl⟩
    rw [List.getElem?_map] at hx
    obtain ⟨n, hn, rfl⟩ := Option.map_eq_some_iff.mp hx
    refine tAllT (he n H1 _ (List.mem_of_getElem? hn) s1 fun H2 s2 => ⟨s1.trans s2, ?_⟩)
    rw [List.take_add_one, hn]
    simp
  · rintro ys H1 ⟨s1, rfl⟩
    rw [List.length_map, List.take_length]
    exact hd H1 s1
theorem lc_intsT {g : Int → V} {ns : List Int} (hq : H a = some (.tup (ns.map V.int))) (hn : ns.length ≤ sizeLine)
    (he : ∀ i H1 (Q : VK), i ∈ ns → Same H H1 → (∀ H2, Same H1 H2 → Q (g i) H2) → te (some (.int i) :: bl) H1 Q)
    (hd : ∀ H1, Same H H1 → Fin (ns.map g) H1) :
    ∃ (W : Nat → List V → Hp → Prop) (n : Nat), W 0 [] H ∧ n ≤ sizeLine ∧ ∀ i ys H, W i ys H → ((Itt K a).stop i H ∧ Fin ys H) ∨
      ((Itt K a).go i H ∧ i < n ∧ ∀ x H', (Itt K a).yld i H x H' → tAll (some x :: bl) H' fun c H2 => if c = true then te (some x :: bl) H2 fun y H3 => W (i + 1) (ys ++ [y]) H3 else W (i + 1) ys H2) := by
  refine lc_tup (tt := tAll) (xs := ns.map V.int) (fun i ys H1 => Same H H1 ∧ ys = (ns.take i).map g) ⟨Same.refl _, rfl⟩ (by rw [List.length_map]; exact hn) (fun i ys H1 _ z => SqT.of (z.1 _ _ hq)) ?_ ?_
  · rintro i x ys H1 hx ⟨s1, rfl⟩
    rw [List.getElem?_map] at hx
    obtain ⟨n, hn, rfl⟩ := Option.map_eq_some_iff.mp hx
    refine tAllT (he n H1 _ (List.mem_of_getElem? hn) s1 fun H2 s2 => ⟨s1.trans s2, ?_⟩)
    rw [List.take_add_one, hn]
    simp
  · rintro ys H1 ⟨s1, rfl⟩
    rw [List.length_map, List.take_length]
    exact hd H1 s1
end
theorem pInts (K : PySem.W.Frag) (H : Hp) : ∀ ns : List Int, Paired (cInt.rp K H) ns (ns.map V.int)
  | [] => .nil
  | n :: ns => .cons rfl (pInts K H ns)
theorem at0 {x : V} {xs : List V} : atI (x :: xs) 0 = some x := atI_nat (j := 0) rfl
theorem at1 {x y : V} {xs : List V} : atI (x :: y :: xs) 1 = some y := atI_nat (j := 1) rfl
theorem at2 {x y z : V} {xs : List V} : atI (x :: y :: z :: xs) 2 = some z := atI_nat (j := 2) rfl
theorem wS_inj {a b : Wd} (h : wS a = wS b) : a = b := by
  cases a <;> cases b <;> first | rfl | exact absurd h (by decide +kernel)
theorem w_hit {a b : Wd} (c : decide (V.str (wS a) = V.str (wS b)) = true) : a = b := wS_inj (V.str.inj (of_decide_eq_true c))
theorem w_miss {a b : Wd} (c : ¬ decide (V.str (wS a) = V.str (wS b)) = true) : a ≠ b := fun e => c (by rw [e]; exact decide_eq_true rfl)
theorem w_need {a : Wd} (h1 : a ≠ .take) (h2 : a ≠ .mean) (h3 : a ≠ .sum) (h4 : a ≠ .give) (h5 : a ≠ .add) (h6 : a ≠ .plus) : a = .need := by
  cases a <;> first | rfl | contradiction
def shp : Wd → Str
  | .take => "HC" | .mean => "HC" | .sum => "HAB" | .give => "HC" | .add => "HCV" | .plus => "V" | .need => "V"
def shapesD : List (Str × PyProof.Rows.KTD.Dat) := [("take", .flat (.str "HC")), ("mean", .flat (.str "HC")), ("sum", .flat (.str "HAB")), ("give", .flat (.str "HC")), ("add", .flat (.str "HCV")), ("plus", .flat (.str "V")), ("need", .flat (.str "V"))]
theorem shape_at (w : Wd) : PyProof.Rows.KTD.datumAt (wS w) shapesD = some (.flat (.str (shp w))) := by
  cases w <;> kernel_rfl
theorem shp_len {w : Wd} {ns : List Int} (h : Ar w ns) : (shp w).length = ns.length := by
  unfold Ar at h
  split at h <;> first | exact h.elim | kernel_rfl
theorem shp_line (w : Wd) : (shp w).length ≤ sizeLine := by cases w <;> decide +kernel
theorem neg_no {i : Int} {p : Prop} (h : inN i) : i < 0 → p := fun z => absurd z (by unfold inN at h; omega)
theorem shp_at {w : Wd} {ns : List Int} {k : Nat} {i : Int} (h : Ar w ns) (hi : ns[k]? = some i) : ∃ c, (shp w).cps.toList[k]? = some c ∧ (i < 0 → c = 86) := by
  unfold Ar at h
  split at h
  · rcases k with _ | _ | k
    · cases hi; exact ⟨72, by decide +kernel, neg_no h.1⟩
    · cases hi; exact ⟨67, by decide +kernel, neg_no h.2⟩
    · simp at hi
  · rcases k with _ | _ | k
    · cases hi; exact ⟨72, by decide +kernel, neg_no h.1⟩
    · cases hi; exact ⟨67, by decide +kernel, neg_no h.2⟩
    · simp at hi
  · rcases k with _ | _ | k
    · cases hi; exact ⟨72, by decide +kernel, neg_no h.1⟩
    · cases hi; exact ⟨67, by decide +kernel, neg_no h.2⟩
    · simp at hi
  · rcases k with _ | _ | _ | k
    · cases hi; exact ⟨72, by decide +kernel, neg_no h.1⟩
    · cases hi; exact ⟨65, by decide +kernel, neg_no h.2.1⟩
    · cases hi; exact ⟨66, by decide +kernel, neg_no h.2.2.1⟩
    · simp at hi
  · rcases k with _ | _ | _ | k
    · cases hi; exact ⟨72, by decide +kernel, neg_no h.1⟩
    · cases hi; exact ⟨67, by decide +kernel, neg_no h.2.1⟩
    · cases hi; exact ⟨86, by decide +kernel, fun _ => rfl⟩
    · simp at hi
  · rcases k with _ | k
    · cases hi; exact ⟨86, by decide +kernel, fun _ => rfl⟩
    · simp at hi
  · rcases k with _ | k
    · cases hi; exact ⟨86, by decide +kernel, fun _ => rfl⟩
    · simp at hi
  · exact h.elim
theorem iS_cs (i : Int) : (iS i).cps.toList = numCs i := str_num i
theorem num_in {i : Int} {c : Nat} (h : c ∈ numCs i) : c = 45 ∨ (48 ≤ c ∧ c ≤ 57) := by
  have hd : ∀ m, c ∈ digs m → 48 ≤ c ∧ c ≤ 57 := fun m hm => digs_all m c hm
  unfold numCs at h
  split at h
  · rcases List.mem_cons.mp h with e | e
    · exact .inl e
    · exact .inr (hd _ e)
  · exact .inr (hd _ h)
theorem lstrip_len {i : Int} (h : inV i) : (Txt.lstripChars (iS i) (Str.ofString "-")).length ≤ 40 := by
  have e : (Str.ofString "-") = ⟨#[45]⟩ := by decide +kernel
  have hd := digs_len (k := 40) (by decide) h
  have hs : (iS i).cps.size = (numCs i).length := by rw [← iS_cs]; simp
  rw [e]
  unfold Txt.lstripChars
  rw [stripBy_eq]
  generalize hL : stripLo ((⟨#[45]⟩ : Str).cps.contains) true (iS i) = lo
  show ((iS i).cps.extract lo (iS i).length).size ≤ 40
  rw [Array.size_extract]
  by_cases hi : i < 0
  · have h1 : 1 ≤ lo := by
      rw [← hL]
      show 1 ≤ ((iS i).cps.toList.takeWhile (fun c => (⟨#[45]⟩ : Str).cps.contains c)).length
      rw [iS_cs]
      unfold numCs
      rw [if_pos hi, List.takeWhile_cons, if_pos (by decide +kernel)]
      simp
    have h2 : (numCs i).length ≤ 41 := by
      unfold numCs
      rw [if_pos hi, List.length_cons]
      omega
    omega
  · have h2 : (numCs i).length ≤ 40 := by
      unfold numCs
      rw [if_neg hi]
      exact hd
    omega
theorem iS_line {i : Int} (h : inV i) : (iS i).length ≤ 100000 := Nat.le_trans (iS_len h) (by decide)
theorem joinC_len (c : Nat) : ∀ ls : List (List Nat), (joinC c ls).length ≤ (ls.map (·.length)).sum + ls.length
  | [] => Nat.zero_le _
  | [x] => by simp [joinC]
  | x :: y :: r => by
    have h := joinC_len c (y :: r)
    show (x ++ c :: joinC c (y :: r)).length ≤ _
    rw [List.length_append, List.length_cons, List.map_cons, List.sum_cons, List.length_cons (a := x)]
    omega
theorem txt_len {wd : Wd} {ns : List Int} (h : Ar wd ns) : (txt wd ns).length ≤ 1000000 := by
  have e2 : (txt wd ns).cps.toList = joinC 32 ((wS wd :: ns.map iS).map fun y => y.cps.toList) := by
    unfold txt
    rw [sep_eq]
    exact join_one_cs 32 _
  have e3 : (txt wd ns).length = (txt wd ns).cps.toList.length := by simp [Str.length]
  have h1 := joinC_len 32 ((wS wd :: ns.map iS).map fun y => y.cps.toList)
  have h2 := words_sum h
  have e4 : ((wS wd :: ns.map iS).map fun y => y.cps.toList).map (·.length) = (wS wd :: ns.map iS).map (·.length) := by
    rw [List.map_map]
    refine List.map_congr_left fun y _ => ?_
    simp [Str.length]
  have e5 : (Str.ofString " ").length = 1 := by decide +kernel
  rw [e4, List.length_map] at h1
  rw [e5, Nat.mul_one] at h2
  rw [e3, e2]
  omega
theorem cut_one (x : V) (xs : List V) : cutV (x :: xs) (some 1) none = xs := by
  unfold cutV
  rw [HT.sIx_none, show (some (1 : Int)) = some ((1 : Nat) : Int) from rfl, HT.sIx_nat, List.length_cons, Nat.min_eq_left (by omega)]
  simp
theorem cut_one_no (x : V) (xs : List V) : ¬ (HT.sIx (x :: xs).length 0 (some (1 : Int)) = 0 ∧ HT.sIx (x :: xs).length (x :: xs).length none = (x :: xs).length) := by
  rintro ⟨h, _⟩
  rw [show (some (1 : Int)) = some ((1 : Nat) : Int) from rfl, HT.sIx_nat, List.length_cons] at h
  omega
theorem Ar.home {w : Wd} {ns : List Int} (h1 : w ≠ .plus) (h2 : w ≠ .need) (h : Ar w ns) : ∃ x r, ns = x :: r ∧ houseV w ns = .int x := by
  unfold Ar at h
  split at h <;> first | contradiction | exact h.elim | exact ⟨_, _, rfl, rfl⟩
theorem Ar.homeless {w : Wd} {ns : List Int} (h1 : w = .plus ∨ w = .need) : houseV w ns = .non := by
  rcases h1 with rfl | rfl <;> rfl
theorem w_of (i : Int) (h0 : 0 ≤ i) (h7 : i < 7) : ∃ w, atI ([.str "take", .str "mean", .str "sum", .str "give", .str "add", .str "plus", .str "need"] : List V) i = some (.str (wS w)) := by
  have : i = 0 ∨ i = 1 ∨ i = 2 ∨ i = 3 ∨ i = 4 ∨ i = 5 ∨ i = 6 := by omega
  rcases this with rfl | rfl | rfl | rfl | rfl | rfl | rfl
  · exact ⟨.take, rfl⟩
  · exact ⟨.mean, rfl⟩
  · exact ⟨.sum, rfl⟩
  · exact ⟨.give, rfl⟩
  · exact ⟨.add, rfl⟩
  · exact ⟨.plus, rfl⟩
  · exact ⟨.need, rfl⟩
theorem fs_no {m : Str} (h1 : ¬ m = "where") (h2 : ¬ m = "cell") (h3 : ¬ m = "low") (h4 : ¬ m = "high") (h5 : ¬ m = "amount") (w : Wd) (ns : List Int) : (fsOf w ns).lookup m = none := by
  unfold fsOf
  split <;> simp only [lk_miss h1, lk_miss h2, lk_miss h3, lk_miss h4, lk_miss h5, List.lookup_nil]
theorem mk_kp {H H' : Hp} {x dx : Addr} {o1 o2 : HO} (nx : H x = none) (nd : H dx = none) (k : Kp x (upd (upd H dx o1) x o2) H') : Same H H' := fun b o e => by
  have hx : b ≠ x := fun z => by rw [z, nx] at e; cases e
  have hd : b ≠ dx := fun z => by rw [z, nd] at e; cases e
  exact k b o hx (by rw [upd_ne hx, upd_ne hd]; exact e)
structure WI (P : Program) (w : World) (K : PySem.W.Frag) (mg : Str → Option Value) (base : Heap) (CW : Wd → Addr) (wd : Wd) where
  fI : Addr
  dI : FuncData
  ps : List Str
  M : Mk K (CW wd) fI
  ok : FnOk P w K mg base CX0 2 fI dI ps (spWInit CW wd)
  b : Binds K dI ps []
  m : mg (wN wd) = some (.ref (CW wd))
section
variable (CW : Wd → Addr)
def spMade : Sp := fun vs H Q _ => ∃ wd q ns, vs = [.str (wS wd), .ref q] ∧ H q = some (.lst ((ns : List Int).map V.int)) ∧ Ar wd ns ∧ ∀ v H', Same H H' → StO CW H' wd ns v → Q v H'
def spMSum : Sp := fun vs H Q _ => ∃ x y z, vs = [.int x, .int y, .int z] ∧ Ar .sum [x, y, z] ∧ ∀ v H', Same H H' → StO CW H' .sum [x, y, z] v → Q v H'
def spRStep : Sp := fun vs H Q _ => ∃ wd ns, vs = [.str (txt wd ns)] ∧ Ar wd ns ∧ ∀ v H', Same H H' → StO CW H' wd ns v → Q v H'
end
def spRNum : Sp := fun vs H Q _ => ∃ i c, vs = [.str (iS i), .str ⟨#[c]⟩] ∧ inV i ∧ (i < 0 → c = 86) ∧ ∀ H', Same H H' → Q (.int i) H'
def spMixed : Sp := fun vs H Q _ => ∃ c k, vs = [.int c, .int k] ∧ ∀ r, 0 ≤ r → r < 2147483647 → Q (.int r) H
def spNumber : Sp := fun vs H Q _ => ∃ c k, vs = [.int c, .int k] ∧ ∀ r, inN r → Q (.int r) H
def spEither : Sp := fun vs H Q _ => ∃ c k, vs = [.int c, .int k] ∧ ∀ r, inV r → Q (.int r) H
def spLStep : Sp := fun vs H Q _ => ∃ c, vs = [.int c] ∧ ∀ wd ns v H', Ar wd ns → Same H H' → tSt H' wd ns v → Q v H'
def spLText : Sp := fun vs H Q _ => ∃ wd ns v, vs = [v] ∧ tSt H wd ns v ∧ Ar wd ns ∧ ∀ H', Same H H' → Q (.str (txt wd ns)) H'
end St
namespace L2
open PySem PySem.Spec PyProof.Rows
open Builtin Builtin.Str
theorem join_manyS {y : Str} (hy : 1 ≤ y.length) : ∀ ys : List Str, ys.length ≤ (Str.join y ys).length + 1
  | [] => Nat.zero_le _
  | [_] => by simp
  | a :: u :: ys => by
    have ih := join_manyS hy (u :: ys)
    rw [join_cons_cons]
    have e : (a ++ y ++ Str.join y (u :: ys)).length = a.length + y.length + (Str.join y (u :: ys)).length := by
      show ((a.cps ++ y.cps) ++ (Str.join y (u :: ys)).cps).size = _
      rw [Array.size_append, Array.size_append]
      rfl
    rw [e, List.length_cons]
    omega
section
variable {X : Cx}
theorem mt_splitS : MtR X "str.split" (fun x vs H Q => ∃ (z y : Str), x = .str z ∧ vs = [.str y] ∧ 1 ≤ y.length ∧ z.length ≤ 1000000 ∧ ∀ p, H p = none → Q (.ref p) (upd H p (.lst ((Txt.split z y).map V.str)))) := by
  intro pins s σ H x xs v us Q I rx r h
  obtain ⟨z, y, rfl, rfl, h1y, hz, q⟩ := h
  obtain ⟨t, rfl⟩ := rx
  obtain ⟨u, rfl, ⟨t1, rfl⟩⟩ := vals1 r
  have hs : (1000002 : Nat) ≤ sizeLine := by decide
  have many : (Txt.split z y).length ≤ sizeLine := by
    have := join_manyS h1y (Txt.split z y)
    rw [StrLaws.join_split] at this
    omega
  have fin : ∀ (l : List (Str × Tok)) (k : Nat), l.map (·.1) = Txt.split z y → EP X pins σ Q (.ref s.heap.objs.size) { s with toks := k, heap := s.heap.push { cls := .type "list", data := .seq (strValues l).toArray } } := fun l k el =>
    ⟨.ref s.heap.objs.size, _, I.laid (t' := k) (o := .lst ((Txt.split z y).map V.str)) (fun b o e => Heap.get?_push_of_some _ e) (Nat.le_refl _)
      (show ObjOk X.prog X.w _ _ _ (.lst ((Txt.split z y).map V.str)) from ⟨by rw [List.length_map]; exact many, strValues l, 0, el ▸ vals_strs l, Heap.get?_push_size _ rfl⟩), rfl, q _ (I.hok.fresh (Nat.le_refl _))⟩
  have hy : (y.length == 0) = false := by
    cases e : y.length with
    | zero => omega
    | succ n => rfl
  cases h1 : (decide (z.length < y.length) || decide (strKind z < strKind y)) with
  | true =>
    have es : Txt.split z y = [z] := by unfold Txt.split; rw [if_pos h1]
    exact call_meets F.slot_str_split (typeIs_str _ _ _) F.entry_str_split (F.args_str_split_2 _ _) (meets_str_split_cannot_occur z y t t1 h1) (fin [(z, t)] s.toks es.symm)
  | false =>
    cases hf : (occurrences z y 0 z.length (z.length + 1)).isEmpty with
    | true =>
      have es : Txt.split z y = [z] := by unfold Txt.split; rw [if_neg (by rw [h1]; decide), if_pos hf]
      exact call_meets F.slot_str_split (typeIs_str _ _ _) F.entry_str_split (F.args_str_split_2 _ _) (meets_str_split_not_found z y t t1 h1 hy hf) (fin [(z, t)] s.toks es.symm)
    | false =>
      have es : Txt.split z y = partsBetween z (occurrences z y 0 z.length (z.length + 1)) y.length := by unfold Txt.split; rw [if_neg (by rw [h1]; decide), if_neg (by rw [hf]; decide)]
      refine call_meets F.slot_str_split (typeIs_str _ _ _) F.entry_str_split (F.args_str_split_2 _ _) (meets_str_split_sep z y t t1 h1 hy hf (by omega) (by rw [← es]; exact many)) ?_
      rw [strsFrom_eq]
      exact fin _ _ ((numbered_texts _ _).trans es.symm)
theorem mt_part : MtR X "str.partition" (fun x vs H Q => ∃ (z y : Str), x = .str z ∧ vs = [.str y] ∧ (y.length == 0) = false ∧ z.length ≤ sizeLine ∧
    ∀ p, H p = none → Q (.ref p) (upd H p (.tup [.str (Txt.partition z y).1, .str (Txt.partition z y).2.1, .str (Txt.partition z y).2.2]))) := by
  intro pins s σ H x xs v us Q I rx r h
  obtain ⟨z, y, rfl, rfl, hy, hz, q⟩ := h
  obtain ⟨t, rfl⟩ := rx
  obtain ⟨u, rfl, ⟨t1, rfl⟩⟩ := vals1 r
  have fin : ∀ (a b c : Str) (ta tb tc : Tok) (k : Nat), (∀ p, H p = none → Q (.ref p) (upd H p (.tup [.str a, .str b, .str c]))) →
      EP X pins σ Q (.ref s.heap.objs.size) { s with toks := k, heap := s.heap.push { cls := .type "tuple", data := .seq [Value.str a ta, Value.str b tb, Value.str c tc].toArray } } := fun a b c ta tb tc k hq =>
    ⟨.ref s.heap.objs.size, _, I.laid (t' := k) (o := .tup [.str a, .str b, .str c]) (fun b o e => Heap.get?_push_of_some _ e) (Nat.le_refl _)
      (show ObjOk X.prog X.w _ _ _ (.tup [.str a, .str b, .str c]) from ⟨by show 3 ≤ sizeLine; decide, _, .cons ⟨ta, rfl⟩ (.cons ⟨tb, rfl⟩ (.cons ⟨tc, rfl⟩ .nil)), IsTup.new _ _⟩), rfl, hq _ (I.hok.fresh (Nat.le_refl _))⟩
  refine call_meets F.slot_str_partition (typeIs_str _ _ _) F.entry_str_partition (F.args_str_partition_2 _ _) (meets_str_partition z y t t1 hy hz) ?_
  unfold Txt.partition at q
  cases e : occurrences z y 0 z.length 1 with
  | nil => rw [e] at q; exact fin _ _ _ _ _ _ _ q
  | cons i r => rw [e] at q; exact fin _ _ _ _ _ _ _ q
end
end L2
set_option maxHeartbeats 1000000
namespace Km
open PySem PySem.NumText L2 PyProof.Rows
open Builtin Builtin.Str
def joinD (c d : Nat) : List (List Nat) → List Nat
  | [] => []
  | [x] => x
  | x :: y :: r => x ++ c :: d :: joinD c d (y :: r)
theorem join_two_cs (c d : Nat) : ∀ ys : List Str, (Str.join ⟨#[c, d]⟩ ys).cps.toList = joinD c d (ys.map fun y => y.cps.toList)
  | [] => rfl
  | [y] => rfl
  | y :: u :: ys => by
    have ih := join_two_cs c d (u :: ys)
    rw [join_cons_cons]
    show ((y.cps ++ #[c, d]) ++ (Str.join ⟨#[c, d]⟩ (u :: ys)).cps).toList = _
    rw [Array.toList_append, Array.toList_append, ih]
    simp [joinD]
theorem joinD_inj {c d : Nat} : ∀ {xs ys : List (List Nat)}, xs ≠ [] → ys ≠ [] → (∀ x ∈ xs, c ∉ x) → (∀ y ∈ ys, c ∉ y) → joinD c d xs = joinD c d ys → xs = ys
  | [], _, h, _, _, _, _ => absurd rfl h
  | _ :: _, [], _, h, _, _, _ => absurd rfl h
  | [x], [y], _, _, _, _, e => by rw [show x = y from e]
  | [x], y :: u :: ys, _, _, hx, _, e => by
    have e' : x = y ++ c :: d :: joinD c d (u :: ys) := e
    exact absurd (by rw [e']; simp) (hx x List.mem_cons_self)
  | x :: u :: xs, [y], _, _, _, hy, e => by
    have e' : x ++ c :: d :: joinD c d (u :: xs) = y := e
    exact absurd (by rw [← e']; simp) (hy y List.mem_cons_self)
  | x :: u :: xs, y :: v :: ys, _, _, hx, hy, e => by
    have e' : x ++ c :: d :: joinD c d (u :: xs) = y ++ c :: d :: joinD c d (v :: ys) := e
    obtain ⟨e1, e2⟩ := cut_first (hx x List.mem_cons_self) (hy y List.mem_cons_self) e'
    rw [e1, joinD_inj (by simp) (by simp) (fun z hz => hx z (List.mem_cons_of_mem _ hz)) (fun z hz => hy z (List.mem_cons_of_mem _ hz)) (List.cons.inj e2).2]
def Foll (c d : Nat) (l : List Nat) : Prop := ∀ k, l[k]? = some c → l[k + 1]? = some d
theorem foll_join {c d : Nat} (hcd : c ≠ d) : ∀ {ps : List (List Nat)}, (∀ p ∈ ps, c ∉ p) → Foll c d (joinD c d ps)
  | [], _, k, h => by cases h
  | [x], hp, k, h => absurd (List.mem_of_getElem? h) (hp x List.mem_cons_self)
  | x :: y :: r, hp, k, h => by
    have ih := foll_join hcd (ps := y :: r) fun p hp' => hp p (List.mem_cons_of_mem _ hp')
    have h' : (x ++ c :: d :: joinD c d (y :: r))[k]? = some c := h
    show (x ++ c :: d :: joinD c d (y :: r))[k + 1]? = some d
    by_cases h1 : k < x.length
    · rw [List.getElem?_append_left h1] at h'
      exact absurd (List.mem_of_getElem? h') (hp x List.mem_cons_self)
    · rw [List.getElem?_append_right (by omega)] at h' ⊢
      obtain ⟨m, hm⟩ : ∃ m, k = x.length + m := ⟨k - x.length, by omega⟩
      subst hm
      rw [Nat.add_sub_cancel_left] at h'
      rw [show x.length + m + 1 - x.length = m + 1 from by omega]
      match m, h' with
      | 0, _ => rfl
      | 1, h' => exact absurd (Option.some.inj h').symm hcd
      | m + 2, h' => exact ih m h'
theorem subAt_two (x : Str) (c d i : Nat) : (i + (⟨#[c, d]⟩ : Str).length ≤ x.length ∧ subAt x ⟨#[c, d]⟩ i = true) ↔ (x.cps.toList[i]? = some c ∧ x.cps.toList[i + 1]? = some d) := by
  rw [StrLaws.subAt_eq]
  have hl : x.length = x.cps.toList.length := by simp [Str.length]
  have e2 : (⟨#[c, d]⟩ : Str).length = 2 := rfl
  rw [e2, hl]
  generalize x.cps.toList = l
  show (i + 2 ≤ l.length ∧ (((l.drop i).take 2) == [c, d]) = true) ↔ _
  rw [beq_iff_eq]
  constructor
  · rintro ⟨h1, h2⟩
    have a0 : ((l.drop i).take 2)[0]? = l[i]? := by rw [List.getElem?_take_of_lt (by omega), List.getElem?_drop, Nat.add_zero]
    have a1 : ((l.drop i).take 2)[1]? = l[i + 1]? := by rw [List.getElem?_take_of_lt (by omega), List.getElem?_drop]
    rw [h2] at a0 a1
    exact ⟨a0.symm, a1.symm⟩
  · rintro ⟨h1, h2⟩
    have hb := (List.getElem?_eq_some_iff.mp h2).1
    refine ⟨by omega, ?_⟩
    have e := List.drop_eq_getElem_cons (l := l) (i := i) (by omega)
    have e' := List.drop_eq_getElem_cons (l := l) (i := i + 1) (by omega)
    rw [e, e', (List.getElem?_eq_some_iff.mp h1).2, (List.getElem?_eq_some_iff.mp h2).2]
    rfl
section
variable {x : Str} {c d : Nat} (hF : Foll c d x.cps.toList)
include hF
theorem at_c {k : Nat} (h : x.cps.toList[k]? = some c) : StrLaws.At x ⟨#[c, d]⟩ x.length k := (subAt_two x c d k).mpr ⟨h, hF k h⟩
theorem part_freeD (a b : Nat) (hb : b ≤ x.length) (hn : ∀ k, a ≤ k → k < b → ¬ StrLaws.At x ⟨#[c, d]⟩ x.length k) : c ∉ (strSub x a b).cps.toList := by
  intro hm
  rw [StrLaws.strSub_toList] at hm
  obtain ⟨j, hj⟩ := List.getElem?_of_mem hm
  have hlt : j < b - a := by
    have h1 : j < ((x.cps.toList.drop a).take (b - a)).length := (List.getElem?_eq_some_iff.mp hj).1
    rw [List.length_take] at h1
    omega
  rw [List.getElem?_take_of_lt hlt, List.getElem?_drop] at hj
  exact hn (a + j) (by omega) (by omega) (at_c hF hj)
theorem parts_freeD : ∀ (cuts : List Nat) (a f : Nat), StrLaws.ChainG x ⟨#[c, d]⟩ x.length a cuts f → (∀ k, f ≤ k → ¬ StrLaws.At x ⟨#[c, d]⟩ x.length k) → ∀ p ∈ StrLaws.partsFrom x (⟨#[c, d]⟩ : Str).length a cuts, c ∉ p.cps.toList
  | [], a, f, h, hn, p, hp => by
    have e : f = a := h
    subst e
    rw [List.mem_singleton.mp hp]
    exact part_freeD hF f x.length (Nat.le_refl _) fun k h1 _ => hn k h1
  | i :: r, a, f, h, hn, p, hp => by
    rcases List.mem_cons.mp hp with rfl | hp'
    · exact part_freeD hF a i (by have := h.2.1.1; omega) h.2.2.1
    · exact parts_freeD r _ f h.2.2.2 hn p hp'
theorem split_freeD (hk : Builtin.Str.strKind x < Builtin.Str.strKind ⟨#[c, d]⟩ → False) : ∀ p ∈ Txt.split x ⟨#[c, d]⟩, c ∉ p.cps.toList := by
  obtain ⟨f, hG, hn⟩ := StrLaws.occ_tight x ⟨#[c, d]⟩ (by show 1 ≤ 2; decide)
  unfold Txt.split
  split
  · rename_i hc
    intro p hp
    rw [List.mem_singleton.mp hp]
    intro hm
    obtain ⟨j, hj⟩ := List.getElem?_of_mem hm
    have hA := at_c hF hj
    rw [Bool.or_eq_true, decide_eq_true_eq, decide_eq_true_eq] at hc
    rcases hc with h | h
    · have := hA.1; omega
    · exact hk h
  · split
    · rename_i he
      intro p hp
      rw [List.mem_singleton.mp hp]
      have e0 : occurrences x ⟨#[c, d]⟩ 0 x.length (x.length + 1) = [] := List.isEmpty_iff.mp he
      rw [e0] at hG
      have ef : f = 0 := hG
      subst ef
      rw [← StrLaws.sub_whole x]
      exact part_freeD hF 0 x.length (Nat.le_refl _) fun k h1 _ => hn k h1
    · rw [StrLaws.partsBetween_eq]
      exact parts_freeD hF _ 0 f hG hn
end
theorem kind_least {c d : Nat} (hc : c < 256) (hd : d < 256) (x : Str) : ¬ Builtin.Str.strKind x < Builtin.Str.strKind ⟨#[c, d]⟩ := by
  have k1 : (#[c, d] : Array Nat).all (· < 256) = true := by simp [hc, hd]
  unfold Builtin.Str.strKind
  rw [if_pos k1]
  split
  · omega
  · split <;> omega
theorem split_two {z : Str} {c d : Nat} {ps : List (List Nat)} (hcd : c ≠ d) (hc : c < 256) (hd : d < 256) (ez : z.cps.toList = joinD c d ps) (h0 : ps ≠ []) (hp : ∀ p ∈ ps, c ∉ p) : Txt.split z ⟨#[c, d]⟩ = ps.map fun p => (⟨p.toArray⟩ : Str) := by
  have e1 := join_two_cs c d (Txt.split z ⟨#[c, d]⟩)
  rw [StrLaws.join_split, ez] at e1
  have n1 : (Txt.split z ⟨#[c, d]⟩).map (fun y => y.cps.toList) ≠ [] := by
    intro e
    have := split_pos z ⟨#[c, d]⟩
    rw [List.map_eq_nil_iff.mp e] at this
    exact absurd this (by decide)
  have hF : Foll c d z.cps.toList := by rw [ez]; exact foll_join hcd hp
  have e2 := joinD_inj h0 n1 hp (fun y hy => by
    obtain ⟨p, hp', rfl⟩ := List.mem_map.mp hy
    exact split_freeD hF (kind_least hc hd z) p hp') e1
  rw [e2, List.map_map]
  have e3 : ((fun p : List Nat => (⟨p.toArray⟩ : Str)) ∘ fun y : Str => y.cps.toList) = _root_.id := by
    funext y
    obtain ⟨a⟩ := y
    simp
  rw [e3, List.map_id]
theorem part_at {z x y : Str} {c : Nat} (ez : z.cps.toList = x.cps.toList ++ c :: y.cps.toList) (hx : c ∉ x.cps.toList) : Txt.partition z ⟨#[c]⟩ = (x, ⟨#[c]⟩, y) := by
  have lx : x.length = x.cps.toList.length := by simp [Str.length]
  have hl : z.length = x.length + 1 + y.length := by
    have e1 : z.length = z.cps.toList.length := by simp [Str.length]
    have e2 : y.length = y.cps.toList.length := by simp [Str.length]
    rw [e1, ez, e2, lx, List.length_append, List.length_cons]
    omega
  have ha : z.cps.toList[x.length]? = some c := by rw [ez, lx, List.getElem?_append_right (Nat.le_refl _), Nat.sub_self]; rfl
  have hA := (StrLaws.subAt_one z c x.length).mpr ha
  have no : ∀ k, k < x.length → ¬ StrLaws.At z ⟨#[c]⟩ z.length k := fun k hk hAk => by
    have e := (StrLaws.subAt_one z c k).mp hAk
    rw [ez, List.getElem?_append_left (by omega)] at e
    exact hx (List.mem_of_getElem? e)
  obtain ⟨i, r, e, hi, hk⟩ : ∃ i r, occurrences z ⟨#[c]⟩ 0 z.length 1 = i :: r ∧ StrLaws.At z ⟨#[c]⟩ z.length i ∧ ∀ k, k < i → ¬ StrLaws.At z ⟨#[c]⟩ z.length k :=
    (StrLaws.occ_head z ⟨#[c]⟩ 1 (Nat.le_refl _)).resolve_left fun h => h.2 _ hA
  have ei : i = x.length := by
    rcases Nat.lt_trichotomy i x.length with h | h | h
    · exact absurd hi (no _ h)
    · exact h
    · exact absurd hA (hk _ h)
  subst ei
  unfold Txt.partition
  rw [e]
  have ea : z.cps = (x.cps.toList ++ c :: y.cps.toList).toArray := by
    apply Array.toList_inj.mp
    rw [ez]
  have e1 : strSub z 0 x.length = x := by
    unfold strSub
    rw [ea, lx]
    obtain ⟨xs⟩ := x
    congr 1
    apply Array.toList_inj.mp
    simp
  have e2 : strSub z (x.length + (⟨#[c]⟩ : Str).length) z.length = y := by
    unfold strSub
    rw [ea, hl]
    have e3 : (⟨#[c]⟩ : Str).length = 1 := rfl
    rw [e3]
    obtain ⟨xs⟩ := x
    obtain ⟨ys⟩ := y
    congr 1
    apply Array.toList_inj.mp
    simp [Str.length]
    have e4 : xs.toList ++ c :: ys.toList = (xs.toList ++ [c]) ++ ys.toList := by simp
    rw [e4, List.drop_left' (by simp)]
    exact List.take_of_length_le (by simp)
  show (strSub z 0 x.length, (⟨#[c]⟩ : Str), strSub z (x.length + (⟨#[c]⟩ : Str).length) z.length) = _
  rw [e1, e2]
end Km
namespace Tb
open PySem PySem.SetTable
theorem go_spec (xs : Array Nat) (j : Nat) : ∀ fuel lo hi : Nat, hi - lo ≤ fuel → lo ≤ hi → hi ≤ xs.size → (∀ (i k a b : Nat), i ≤ k → xs[i]? = some a → xs[k]? = some b → a ≤ b) → (∀ (i a : Nat), i < lo → xs[i]? = some a → a < j) → (∀ (i a : Nat), hi ≤ i → xs[i]? = some a → j ≤ a) →
    below.go xs j fuel lo hi ≤ xs.size ∧ (∀ (i a : Nat), i < below.go xs j fuel lo hi → xs[i]? = some a → a < j) ∧ ∀ (i a : Nat), below.go xs j fuel lo hi ≤ i → xs[i]? = some a → j ≤ a
  | 0, lo, hi, hf, hl, hh, _, h1, h2 => by
    have e : lo = hi := by omega
    subst e
    exact ⟨hh, h1, h2⟩
  | fuel + 1, lo, hi, hf, hl, hh, hm, h1, h2 => by
    unfold below.go
    by_cases hlt : lo < hi
    · rw [if_pos hlt]
      have hmid : (lo + hi) / 2 < xs.size := by omega
      have e : xs[(lo + hi) / 2]? = some xs[(lo + hi) / 2] := Array.getElem?_eq_getElem hmid
      have eg : xs.getD ((lo + hi) / 2) j = xs[(lo + hi) / 2] := by simp [Array.getD, hmid]
      dsimp only
      rw [eg]
      by_cases hc : xs[(lo + hi) / 2] < j
      · rw [if_pos hc]
        refine go_spec xs j fuel _ hi (by omega) (by omega) hh hm (fun i a hi' ea => ?_) h2
        exact Nat.lt_of_le_of_lt (hm i _ a _ (by omega) ea e) hc
      · rw [if_neg hc]
        refine go_spec xs j fuel lo _ (by omega) (by omega) (by omega) hm h1 (fun i a hi' ea => ?_)
        exact Nat.le_trans (Nat.not_lt.mp hc) (hm _ i _ a hi' e ea)
    · rw [if_neg hlt]
      have e : lo = hi := by omega
      subst e
      exact ⟨hh, h1, h2⟩
def Rs (l : List Nat) : Prop := l.Pairwise (· < ·)
theorem Rs.mono {xs : Array Nat} (h : Rs xs.toList) : ∀ (i k a b : Nat), i ≤ k → xs[i]? = some a → xs[k]? = some b → a ≤ b := by
  intro i k a b hik ea eb
  rcases Nat.lt_or_eq_of_le hik with hlt | rfl
  · rw [← Array.getElem?_toList] at ea eb
    obtain ⟨h1, e1⟩ := List.getElem?_eq_some_iff.mp ea
    obtain ⟨h2, e2⟩ := List.getElem?_eq_some_iff.mp eb
    have := List.pairwise_iff_getElem.mp h i k h1 h2 hlt
    rw [← e1, ← e2]
    exact Nat.le_of_lt this
  · rw [ea] at eb; cases eb; exact Nat.le_refl _
theorem below_spec {xs : Array Nat} (h : Rs xs.toList) (j : Nat) : below xs j ≤ xs.size ∧ (∀ a ∈ xs.toList.take (below xs j), a < j) ∧ ∀ a ∈ xs.toList.drop (below xs j), j ≤ a := by
  obtain ⟨h1, h2, h3⟩ := go_spec xs j xs.size 0 xs.size (by omega) (Nat.zero_le _) (Nat.le_refl _) h.mono (fun i a hi => absurd hi (by omega)) (fun i a hi e => by rw [Array.getElem?_eq_none hi] at e; cases e)
  refine ⟨h1, fun a ha => ?_, fun a ha => ?_⟩
  · obtain ⟨i, hi⟩ := List.getElem?_of_mem ha
    rw [List.getElem?_take] at hi
    split at hi
    · rename_i hlt
      exact h2 i a hlt (by rw [← Array.getElem?_toList]; exact hi)
    · cases hi
  · obtain ⟨i, hi⟩ := List.getElem?_of_mem ha
    rw [List.getElem?_drop] at hi
    exact h3 (below xs j + i) a (by show below xs j ≤ _; omega) (by rw [← Array.getElem?_toList]; exact hi)
theorem below_at {xs : Array Nat} (h : Rs xs.toList) {j : Nat} (hj : j ∈ xs.toList) : xs[below xs j]? = some j := by
  obtain ⟨h1, h2, h3⟩ := below_spec h j
  have hj' : j ∈ xs.toList.take (below xs j) ++ xs.toList.drop (below xs j) := by rw [List.take_append_drop]; exact hj
  rcases List.mem_append.mp hj' with z | z
  · exact absurd (h2 j z) (Nat.lt_irrefl _)
  · cases e : xs.toList.drop (below xs j) with
    | nil => rw [e] at z; cases z
    | cons b r =>
      have eb : xs.toList[below xs j]? = some b := by
        have : (xs.toList.drop (below xs j))[0]? = some b := by rw [e]; rfl
        rw [List.getElem?_drop] at this
        simpa using this
      have hb : j ≤ b := h3 b (by rw [e]; exact List.mem_cons_self)
      have : b = j := by
        rw [e] at z
        rcases List.mem_cons.mp z with rfl | z
        · rfl
        · have hs : Rs (b :: r) := by
            have : Rs (xs.toList.drop (below xs j)) := List.Pairwise.sublist (List.drop_sublist _ _) h
            rw [e] at this; exact this
          have := (List.pairwise_cons.mp hs).1 j z
          omega
      rw [← Array.getElem?_toList, eb, this]
theorem below_no {xs : Array Nat} (h : Rs xs.toList) {j : Nat} (hj : j ∉ xs.toList) : (xs[below xs j]? == some j) = false := by
  refine beq_eq_false_iff_ne.mpr fun e => hj ?_
  rw [← Array.getElem?_toList] at e
  exact List.mem_of_getElem? e
theorem insert_rs {xs : Array Nat} (h : Rs xs.toList) {j : Nat} (hj : j ∉ xs.toList) : Rs (insertAt xs (below xs j) j).toList := by
  obtain ⟨h1, h2, h3⟩ := below_spec h j
  rw [toList_insertAt]
  refine List.pairwise_append.mpr ⟨List.Pairwise.sublist (List.take_sublist _ _) h, List.pairwise_cons.mpr ⟨fun a ha => ?_, List.Pairwise.sublist (List.drop_sublist _ _) h⟩, fun a ha b hb => ?_⟩
  · have := h3 a ha
    have hne : a ≠ j := fun e => hj (e ▸ List.mem_of_mem_drop ha)
    omega
  · have ha' := h2 a ha
    rcases List.mem_cons.mp hb with rfl | hb
    · exact ha'
    · exact Nat.lt_of_lt_of_le ha' (h3 b hb)
theorem below_next {xs : Array Nat} (h : Rs xs.toList) {k p : Nat} (hp : xs[k]? = some p) : below xs (p + 1) = k + 1 := by
  obtain ⟨h1, h2, h3⟩ := below_spec h (p + 1)
  have hk : k < xs.size := (Array.getElem?_eq_some_iff.mp hp).1
  have hp' : xs.toList[k]? = some p := by rw [Array.getElem?_toList]; exact hp
  have lo : k < below xs (p + 1) := by
    refine Nat.lt_of_not_le fun hle => ?_
    have : p ∈ xs.toList.drop (below xs (p + 1)) := by
      refine List.mem_of_getElem? (i := k - below xs (p + 1)) ?_
      rw [List.getElem?_drop]
      rw [show below xs (p + 1) + (k - below xs (p + 1)) = k by omega]
      exact hp'
    have := h3 p this
    omega
  refine Nat.le_antisymm (Nat.le_of_not_lt fun hlt => ?_) lo
  have hk1 : k + 1 < xs.toList.length := by rw [Array.length_toList]; omega
  have e1 : xs.toList[k + 1]? = some xs.toList[k + 1] := List.getElem?_eq_getElem hk1
  have m : xs.toList[k + 1] ∈ xs.toList.take (below xs (p + 1)) := by
    refine List.mem_of_getElem? (i := k + 1) ?_
    rw [List.getElem?_take, if_pos hlt]
    exact e1
  have a1 := h2 _ m
  obtain ⟨g1, g2⟩ := List.getElem?_eq_some_iff.mp hp'
  have a2 := List.pairwise_iff_getElem.mp h k (k + 1) g1 hk1 (Nat.lt_succ_self _)
  rw [g2] at a2
  omega
theorem below_zero {xs : Array Nat} (h : Rs xs.toList) : below xs 0 = 0 := by
  obtain ⟨h1, h2, h3⟩ := below_spec h 0
  refine Nat.eq_zero_of_not_pos fun hpos => ?_
  have hl : 0 < xs.toList.length := by rw [Array.length_toList]; omega
  have : xs.toList[0] ∈ xs.toList.take (below xs 0) := by
    refine List.mem_of_getElem? (i := 0) ?_
    rw [List.getElem?_take, if_pos hpos]
    exact List.getElem?_eq_getElem hl
  exact absurd (h2 _ this) (Nat.not_lt_zero _)
end Tb
namespace Tb
open PySem PySem.SetTable
def adv (t : SetTable) (p : Probe) : Nat → Probe
  | 0 => p
  | n + 1 => adv t (t.advance p) n
def wk (t : SetTable) (p : Probe) : Nat → List Nat
  | 0 => []
  | n + 1 => p.j :: wk t (t.advance p) n
theorem adv_add (t : SetTable) : ∀ (m n : Nat) (p : Probe), adv t p (m + n) = adv t (adv t p m) n
  | 0, n, p => by rw [Nat.zero_add]; rfl
  | m + 1, n, p => by rw [show m + 1 + n = (m + n) + 1 by omega]; exact adv_add t m n (t.advance p)
theorem wk_add (t : SetTable) : ∀ (m n : Nat) (p : Probe), wk t p (m + n) = wk t p m ++ wk t (adv t p m) n
  | 0, n, p => by rw [Nat.zero_add]; rfl
  | m + 1, n, p => by
    rw [show m + 1 + n = (m + n) + 1 by omega]
    show p.j :: wk t (t.advance p) (m + n) = p.j :: (wk t (t.advance p) m ++ _)
    rw [wk_add t m n (t.advance p)]
    rfl
theorem wk_le {t : SetTable} {p : Probe} {m n : Nat} (h : m ≤ n) {s : Nat} (hs : s ∈ wk t p m) : s ∈ wk t p n := by
  obtain ⟨d, rfl⟩ : ∃ d, n = m + d := ⟨n - m, by omega⟩
  rw [wk_add]
  exact List.mem_append_left _ hs
theorem adv_dummy (t : SetTable) : ∀ (n : Nat) (p : Probe), (adv t p n).dummy = p.dummy
  | 0, _ => rfl
  | n + 1, p => by
    show (adv t (t.advance p) n).dummy = _
    rw [adv_dummy t n]
    unfold advance
    split <;> rfl
def atRun (mask i q : Nat) : Probe := { j := i, more := runEnd mask i - i, i := i, perturb := q, dummy := none }
theorem start_run (t : SetTable) (h : Int) : t.probeStart h = atRun t.mask (bits h % (t.mask + 1)) (bits h) := rfl
theorem run_steps (t : SetTable) : ∀ (m : Nat) (p : Probe), p.more = m → p.dummy = none → wk t p (m + 1) = List.range' p.j (m + 1) ∧ adv t p (m + 1) = atRun t.mask (leap t.mask p.i p.perturb).1 (leap t.mask p.i p.perturb).2
  | 0, p, hm, hd => by
    refine ⟨rfl, ?_⟩
    show t.advance p = _
    unfold advance
    rw [if_neg (by omega)]
    unfold atRun
    simp only [hd]
  | m + 1, p, hm, hd => by
    have e : t.advance p = { p with j := p.j + 1, more := m } := by
      unfold advance
      rw [if_pos (by omega), hm]
      rfl
    obtain ⟨h1, h2⟩ := run_steps t m { p with j := p.j + 1, more := m } rfl hd
    constructor
    · show p.j :: wk t (t.advance p) (m + 1) = List.range' p.j (m + 1 + 1)
      rw [e, h1]
      exact (List.range'_succ ..).symm
    · show adv t (t.advance p) (m + 1) = _
      rw [e, h2]
theorem run_short (mask i : Nat) : runEnd mask i - i ≤ 9 := by
  unfold runEnd
  split <;> omega
def rq (h : Int) (n : Nat) : Nat := bits h / 32 ^ n
def ri (mask : Nat) (h : Int) : Nat → Nat
  | 0 => bits h % (mask + 1)
  | n + 1 => (ri mask h n * 5 + 1 + rq h (n + 1)) % (mask + 1)
theorem at_run (t : SetTable) (h : Int) : ∀ n : Nat, ∃ l, l ≤ 10 * n ∧ adv t (t.probeStart h) l = atRun t.mask (ri t.mask h n) (rq h n)
  | 0 => ⟨0, Nat.le_refl _, by rw [start_run]; unfold rq; rw [Nat.pow_zero, Nat.div_one]; rfl⟩
  | n + 1 => by
    obtain ⟨l, hl, e⟩ := at_run t h n
    obtain ⟨_, h2⟩ := run_steps t (runEnd t.mask (ri t.mask h n) - ri t.mask h n) (atRun t.mask (ri t.mask h n) (rq h n)) rfl rfl
    have := run_short t.mask (ri t.mask h n)
    refine ⟨l + (runEnd t.mask (ri t.mask h n) - ri t.mask h n + 1), by omega, ?_⟩
    rw [adv_add, e, h2]
    have eq : (atRun t.mask (ri t.mask h n) (rq h n)).perturb / 32 = rq h (n + 1) := by
      show bits h / 32 ^ n / 32 = bits h / 32 ^ (n + 1)
      rw [Nat.div_div_eq_div_mul, ← Nat.pow_succ]
    unfold leap
    rw [eq]
    rfl
theorem run_in (t : SetTable) (h : Int) (n : Nat) : ri t.mask h n ∈ wk t (t.probeStart h) (10 * n + 1) := by
  obtain ⟨l, hl, e⟩ := at_run t h n
  refine wk_le (m := l + 1) (by omega) ?_
  rw [wk_add, e]
  exact List.mem_append_right _ List.mem_cons_self
theorem bits_lt (h : Int) : bits h < 2 ^ 64 := by
  unfold bits
  have h1 : 0 ≤ h % (2 ^ 64 : Int) := Int.emod_nonneg _ (by decide)
  have h2 : h % (2 ^ 64 : Int) < 2 ^ 64 := Int.emod_lt_of_pos _ (by decide)
  omega
theorem rq_zero (h : Int) {n : Nat} (hn : 13 ≤ n) : rq h n = 0 := by
  unfold rq
  refine Nat.div_eq_of_lt (Nat.lt_of_lt_of_le (bits_lt h) ?_)
  exact Nat.le_trans (by decide : 2 ^ 64 ≤ 32 ^ 13) (Nat.pow_le_pow_right (by decide) hn)
def cyc (m : Nat) : Nat → Nat
  | 0 => 0
  | n + 1 => (cyc m n * 5 + 1) % m
def Good (mask : Nat) : Prop := mask = 7 ∨ mask = 31 ∨ mask = 127
theorem cyc_all {mask : Nat} (g : Good mask) : (∀ s, s < mask + 1 → ∃ n, n < mask + 1 ∧ cyc (mask + 1) n = s) ∧ cyc (mask + 1) (mask + 1) = 0 := by
  rcases g with rfl | rfl | rfl <;> exact ⟨by decide +kernel, by decide +kernel⟩
theorem cyc_back {mask : Nat} (g : Good mask) : ∀ n, cyc (mask + 1) (mask + 1 + n) = cyc (mask + 1) n
  | 0 => (cyc_all g).2
  | n + 1 => by show (cyc (mask + 1) (mask + 1 + n) * 5 + 1) % (mask + 1) = _; rw [cyc_back g n]; rfl
theorem ri_cyc {mask : Nat} (h : Int) {a : Nat} (ha : ri mask h 12 = cyc (mask + 1) a) : ∀ n, ri mask h (12 + n) = cyc (mask + 1) (a + n)
  | 0 => ha
  | n + 1 => by
    show (ri mask h (12 + n) * 5 + 1 + rq h (12 + n + 1)) % (mask + 1) = (cyc (mask + 1) (a + n) * 5 + 1) % (mask + 1)
    rw [ri_cyc h ha n, rq_zero h (by omega), Nat.add_zero]
theorem ri_lt (mask : Nat) (h : Int) : ∀ n, ri mask h n < mask + 1
  | 0 => Nat.mod_lt _ (Nat.succ_pos _)
  | _ + 1 => Nat.mod_lt _ (Nat.succ_pos _)
theorem hits {mask : Nat} (g : Good mask) (h : Int) {s : Nat} (hs : s ≤ mask) : ∃ n, n ≤ 12 + mask ∧ ri mask h n = s := by
  obtain ⟨a, ha, ea⟩ := (cyc_all g).1 (ri mask h 12) (ri_lt mask h 12)
  obtain ⟨b, hb, eb⟩ := (cyc_all g).1 s (by omega)
  by_cases hab : a ≤ b
  · refine ⟨12 + (b - a), by omega, ?_⟩
    rw [ri_cyc h ea.symm, show a + (b - a) = b by omega, eb]
  · refine ⟨12 + (mask + 1 + b - a), by omega, ?_⟩
    rw [ri_cyc h ea.symm, show a + (mask + 1 + b - a) = mask + 1 + b by omega, cyc_back g, eb]
theorem covers {t : SetTable} (g : Good t.mask) (h : Int) {s : Nat} (hs : s ≤ t.mask) : s ∈ wk t (t.probeStart h) (10 * (t.mask + 14)) := by
  obtain ⟨n, hn, e⟩ := hits g h hs
  refine wk_le (m := 10 * n + 1) (by omega) ?_
  rw [← e]
  exact run_in t h n
theorem free_there {l : List Nat} {mask : Nat} (hl : l.length ≤ mask) : ∃ s, s ≤ mask ∧ s ∉ l := by
  refine Classical.byContradiction fun hc => ?_
  have all : ∀ s, s ≤ mask → s ∈ l := fun s hs => Classical.byContradiction fun z => hc ⟨s, hs, z⟩
  have : (List.range (mask + 1)).length ≤ l.length := List.Nodup.length_le_of_subset List.nodup_range fun s hs => all s (by have := List.mem_range.mp hs; omega)
  rw [List.length_range] at this
  omega
theorem first_out {l path : List Nat} (h : ∃ s, s ∈ path ∧ s ∉ l) : ∃ pre e post, path = pre ++ e :: post ∧ (∀ s ∈ pre, s ∈ l) ∧ e ∉ l := by
  induction path with
  | nil => obtain ⟨s, hs, _⟩ := h; cases hs
  | cons a r ih =>
    by_cases ha : a ∈ l
    · obtain ⟨s, hs, hn⟩ := h
      rcases List.mem_cons.mp hs with rfl | hs
      · exact absurd ha hn
      · obtain ⟨pre, e, post, e1, e2, e3⟩ := ih ⟨s, hs, hn⟩
        exact ⟨a :: pre, e, post, by rw [e1]; rfl, fun s hs => (List.mem_cons.mp hs).elim (fun z => z ▸ ha) (e2 s), e3⟩
    · exact ⟨[], a, r, rfl, fun _ hs => (nomatch hs), ha⟩
section
variable {t : SetTable}
theorem has_none (j : Nat) : has #[] j = false := rfl
theorem slot_live (h : Rs t.place.toList) {j : Nat} (hj : j ∈ t.place.toList) : t.slot j = .live (below t.place j) := by
  unfold slot
  dsimp only
  rw [below_at h hj, if_pos (by simp)]
theorem slot_empty (h : Rs t.place.toList) (hd : t.dummies = #[]) {j : Nat} (hj : j ∉ t.place.toList) : t.slot j = .empty := by
  unfold slot
  dsimp only
  rw [below_no h hj, hd, has_none]
  rfl
theorem probe_go {hashAt : Nat → Int} {h : Int} (hr : Rs t.place.toList) (hd : t.dummies = #[]) : ∀ (pre : List Nat) (e : Nat) (post : List Nat) (fuel : Nat) (p : Probe), wk t p fuel = pre ++ e :: post → (∀ s ∈ pre, s ∈ t.place.toList) → e ∉ t.place.toList → p.dummy = none →
    ((∀ s ∈ pre, (hashAt (below t.place s) == h) = false) ∧ probe.go t hashAt h fuel p = some (.empty e none)) ∨
    ∃ pre1 j pre2, pre = pre1 ++ j :: pre2 ∧ (∀ s ∈ pre1, (hashAt (below t.place s) == h) = false) ∧ (hashAt (below t.place j) == h) = true ∧ probe.go t hashAt h fuel p = some (.candidate j (below t.place j) (adv t p (pre1.length + 1)))
  | [], e, post, 0, p, hw, _, _, _ => by cases hw
  | _ :: _, e, post, 0, p, hw, _, _, _ => by cases hw
  | [], e, post, fuel + 1, p, hw, _, he, hp => by
    have e1 : p.j = e := (List.cons.inj hw).1
    refine .inl ⟨(fun _ hs => nomatch hs), ?_⟩
    unfold probe.go
    rw [e1, slot_empty hr hd he, hp]
  | a :: pre, e, post, fuel + 1, p, hw, ha, he, hp => by
    obtain ⟨e1, e2⟩ := List.cons.inj hw
    have ha' : a ∈ t.place.toList := ha a List.mem_cons_self
    unfold probe.go
    rw [show p.j = a from e1, slot_live hr ha']
    dsimp only
    cases hc : hashAt (below t.place a) == h with
    | true =>
      refine .inr ⟨[], a, pre, rfl, (fun _ hs => nomatch hs), hc, ?_⟩
      rfl
    | false =>
      have hp' : (t.advance p).dummy = none := by have := adv_dummy t 1 p; rw [hp] at this; exact this
      rcases probe_go hr hd pre e post fuel (t.advance p) e2 (fun s hs => ha s (List.mem_cons_of_mem _ hs)) he hp' with ⟨h1, h2⟩ | ⟨pre1, j, pre2, h1, h2, h3, h4⟩
      · refine .inl ⟨fun s hs => (List.mem_cons.mp hs).elim (fun z => z ▸ hc) (h1 s), ?_⟩
        rw [if_neg (by decide)]
        exact h2
      · refine .inr ⟨a :: pre1, j, pre2, by rw [h1]; rfl, fun s hs => (List.mem_cons.mp hs).elim (fun z => z ▸ hc) (h2 s), h3, ?_⟩
        rw [if_neg (by decide), h4]
        rfl
end
end Tb
namespace Tb
open PySem PySem.SetTable
theorem advance_congr {t t' : SetTable} (e : t.mask = t'.mask) (p : Probe) : t.advance p = t'.advance p := by
  unfold advance
  rw [e]
theorem wk_congr {t t' : SetTable} (e : t.mask = t'.mask) : ∀ (n : Nat) (p : Probe), wk t p n = wk t' p n
  | 0, _ => rfl
  | n + 1, p => by show p.j :: _ = p.j :: _; rw [advance_congr e, wk_congr e n]
theorem start_congr {t t' : SetTable} (e : t.mask = t'.mask) (h : Int) : t.probeStart h = t'.probeStart h := by rw [start_run, start_run, e]
def Rch (t : SetTable) (P : List Nat) (h : Int) (s : Nat) : Prop := ∃ n pre post, wk t (t.probeStart h) n = pre ++ s :: post ∧ ∀ a ∈ pre, a ∈ P
theorem Rch.mono {t t' : SetTable} {P P' : List Nat} {h : Int} {s : Nat} (e : t.mask = t'.mask) (hs : ∀ a ∈ P, a ∈ P') (r : Rch t P h s) : Rch t' P' h s := by
  obtain ⟨n, pre, post, e1, e2⟩ := r
  exact ⟨n, pre, post, by rw [← wk_congr e, ← start_congr e]; exact e1, fun a ha => hs a (e2 a ha)⟩
structure TOk (t : SetTable) (es : List (Int × Value)) : Prop where
  gd : Good t.mask
  rs : Rs t.place.toList
  du : t.dummies = #[]
  sz : t.place.toList.length = es.length
  fl : es.length ≤ t.mask
  rc : ∀ x ∈ t.place.toList.zip es, Rch t t.place.toList x.2.1 x.1
theorem tok_fresh (f m : Nat) (led : Bool) : TOk (.fresh f m led) [] := ⟨.inl rfl, .nil, rfl, rfl, Nat.zero_le _, fun x hx => nomatch hx⟩
section
variable {t : SetTable} {es : List (Int × Value)}
theorem TOk.fits (k : TOk t es) {n : Nat} (hn : es.length = n) : t.fits n = true := by
  unfold SetTable.fits fill
  have h1 := k.sz
  have h2 := k.fl
  rw [Array.length_toList] at h1
  rw [k.du]
  simp
  omega
theorem TOk.free (k : TOk t es) (h : Int) : ∃ pre e post, wk t (t.probeStart h) (10 * turns t.mask) = pre ++ e :: post ∧ (∀ s ∈ pre, s ∈ t.place.toList) ∧ e ∉ t.place.toList := by
  obtain ⟨s, hs, hn⟩ := free_there (l := t.place.toList) (mask := t.mask) (by rw [k.sz]; exact k.fl)
  refine first_out ⟨s, wk_le (m := 10 * (t.mask + 14)) (by show _ ≤ 10 * (t.mask + 15); omega) (covers k.gd h hs), hn⟩
theorem TOk.freeSlot (k : TOk t es) (h : Int) : ∃ e, t.freeSlot h = some (e, false) ∧ e ∉ t.place.toList ∧ Rch t t.place.toList h e := by
  obtain ⟨pre, e, post, ew, hp, he⟩ := k.free h
  refine ⟨e, ?_, he, ⟨_, pre, post, ew, hp⟩⟩
  unfold SetTable.freeSlot probe
  rcases probe_go (hashAt := fun _ => h + 1) (h := h) k.rs k.du pre e post _ _ ew hp he rfl with ⟨_, q⟩ | ⟨_, j, _, _, _, hj, _⟩
  · rw [q]; rfl
  · have : h + 1 = h := by simpa using hj
    omega
theorem put_eq (k : TOk t es) (s : Nat) : t.put s = ({ t with place := insertAt t.place (below t.place s) s }, below t.place s) := by
  unfold put
  dsimp only
  rw [k.du, has_none]
  cases t
  have := k.du
  simp only at this
  subst this
  rfl
theorem TOk.put (k : TOk t es) {s : Nat} {h : Int} {x : Value} (hs : s ∉ t.place.toList) (r : Rch t t.place.toList h s) (hl : es.length + 1 ≤ t.mask) {ea : Array (Int × Value)} (ee : ea.toList = es) :
    TOk (t.put s).1 (insertAt ea (t.put s).2 (h, x)).toList := by
  rw [put_eq k]
  have hb := (below_spec k.rs s).1
  have el : (insertAt ea (below t.place s) (h, x)).toList = es.take (below t.place s) ++ (h, x) :: es.drop (below t.place s) := by rw [toList_insertAt, ee]
  have pl : (insertAt t.place (below t.place s) s).toList = t.place.toList.take (below t.place s) ++ s :: t.place.toList.drop (below t.place s) := toList_insertAt ..
  have sub : ∀ a ∈ t.place.toList, a ∈ (insertAt t.place (below t.place s) s).toList := fun a ha => by
    rw [pl]
    have ha' : a ∈ t.place.toList.take (below t.place s) ++ t.place.toList.drop (below t.place s) := by rw [List.take_append_drop]; exact ha
    rcases List.mem_append.mp ha' with z | z
    · exact List.mem_append_left _ z
    · exact List.mem_append_right _ (List.mem_cons_of_mem _ z)
  refine ⟨k.gd, insert_rs k.rs hs, k.du, ?_, ?_, fun y hy => ?_⟩
  · show (insertAt t.place (below t.place s) s).toList.length = _
    have h1 := k.sz
    rw [pl, el]
    simp only [List.length_append, List.length_cons, List.length_take, List.length_drop]
    omega
  · show (insertAt ea (below t.place s) (h, x)).toList.length ≤ t.mask
    rw [el]
    simp only [List.length_append, List.length_cons, List.length_take, List.length_drop]
    omega
  · have hy' : y ∈ (insertAt t.place (below t.place s) s).toList.zip (insertAt ea (below t.place s) (h, x)).toList := hy
    rw [pl, el, List.zip_append (by simp only [List.length_take]; rw [k.sz])] at hy'
    have mn : ∀ {g a}, Rch t t.place.toList g a → Rch { t with place := insertAt t.place (below t.place s) s } (insertAt t.place (below t.place s) s).toList g a := fun z => Rch.mono (t := t) rfl sub z
    rcases List.mem_append.mp hy' with z | z
    · exact mn (k.rc y (by
        have e1 : t.place.toList = t.place.toList.take (below t.place s) ++ t.place.toList.drop (below t.place s) := (List.take_append_drop _ _).symm
        have e2 : es = es.take (below t.place s) ++ es.drop (below t.place s) := (List.take_append_drop _ _).symm
        rw [e1, e2, List.zip_append (by simp only [List.length_take]; rw [k.sz])]
        exact List.mem_append_left _ z))
    · rcases List.mem_cons.mp (show y ∈ (s, (h, x)) :: _ from z) with rfl | z
      · exact mn r
      · exact mn (k.rc y (by
          have e1 : t.place.toList = t.place.toList.take (below t.place s) ++ t.place.toList.drop (below t.place s) := (List.take_append_drop _ _).symm
          have e2 : es = es.take (below t.place s) ++ es.drop (below t.place s) := (List.take_append_drop _ _).symm
          rw [e1, e2, List.zip_append (by simp only [List.length_take]; rw [k.sz])]
          exact List.mem_append_right _ z))
end
end Tb
namespace Tb
open PySem PySem.SetTable
def rn (mask : Nat) : Nat → Nat × Nat → Nat × Nat
  | 0, s => s
  | m + 1, s => rn mask m (leap mask s.1 s.2)
theorem rn_snoc (mask : Nat) : ∀ (m : Nat) (s : Nat × Nat), rn mask (m + 1) s = leap mask (rn mask m s).1 (rn mask m s).2
  | 0, _ => rfl
  | m + 1, s => by show rn mask (m + 1) (leap mask s.1 s.2) = _; rw [rn_snoc mask m]; rfl
theorem rn_ri (mask : Nat) (h : Int) : ∀ m, rn mask m (bits h % (mask + 1), bits h) = (ri mask h m, rq h m)
  | 0 => by unfold rq; rw [Nat.pow_zero, Nat.div_one]; rfl
  | m + 1 => by
    rw [rn_snoc, rn_ri mask h m]
    show ((ri mask h m * 5 + 1 + rq h m / 32) % (mask + 1), rq h m / 32) = _
    have e : rq h m / 32 = rq h (m + 1) := by
      show bits h / 32 ^ m / 32 = bits h / 32 ^ (m + 1)
      rw [Nat.div_div_eq_div_mul, ← Nat.pow_succ]
    rw [e]
    rfl
def Tk (owner : Array (Option Nat)) (j : Nat) : Prop := ∃ i, owner[j]? = some (some i)
theorem tk_or {owner : Array (Option Nat)} {j : Nat} (hj : j < owner.size) : (owner.getD j (some 0)).isNone = true ∨ Tk owner j := by
  have e : owner[j]? = some owner[j] := Array.getElem?_eq_getElem hj
  have eg : owner.getD j (some 0) = owner[j] := by simp [Array.getD, hj]
  rw [eg]
  cases q : owner[j] with
  | none => exact .inl rfl
  | some i => exact .inr ⟨i, by rw [e, q]⟩
theorem none_not {owner : Array (Option Nat)} {j : Nat} (h : (owner.getD j (some 0)).isNone = true) : j < owner.size ∧ ¬ Tk owner j ∧ owner[j]? = some none := by
  by_cases hj : j < owner.size
  · have e : owner[j]? = some owner[j] := Array.getElem?_eq_getElem hj
    have eg : owner.getD j (some 0) = owner[j] := by simp [Array.getD, hj]
    rw [eg] at h
    have q : owner[j] = none := Option.isNone_iff_eq_none.mp h
    refine ⟨hj, fun ⟨i, z⟩ => ?_, by rw [e, q]⟩
    rw [e, q] at z
    cases z
  · have eg : owner.getD j (some 0) = some 0 := by simp [Array.getD, hj]
    rw [eg] at h
    cases h
theorem runEnd_le {mask i : Nat} (h : i ≤ mask) : runEnd mask i ≤ mask ∧ i ≤ runEnd mask i := by
  unfold runEnd
  split <;> omega
theorem free_run (t : SetTable) (owner : Array (Option Nat)) (ho : owner.size = t.mask + 1) : ∀ (n fuel i q : Nat), n < fuel → i ≤ t.mask → (∃ m, m ≤ n ∧ ¬ Tk owner (rn t.mask m (i, q)).1 ∧ (rn t.mask m (i, q)).1 ≤ t.mask) →
    ∃ l pre j post, layClean.free t.mask owner fuel i q = some j ∧ wk t (atRun t.mask i q) l = pre ++ j :: post ∧ (∀ a ∈ pre, Tk owner a) ∧ owner[j]? = some none := by
  intro n
  induction n with
  | zero =>
    intro fuel i q hf hi ⟨m, hm, hn, _⟩
    obtain rfl : m = 0 := by omega
    obtain ⟨fuel, rfl⟩ : ∃ f, fuel = f + 1 := ⟨fuel - 1, by omega⟩
    have h0 : (owner.getD i (some 0)).isNone = true := (tk_or (by omega)).resolve_right hn
    refine ⟨1, [], i, [], ?_, rfl, (fun _ h => nomatch h), (none_not h0).2.2⟩
    unfold layClean.free
    obtain ⟨r1, r2⟩ := runEnd_le hi
    have e : runEnd t.mask i + 1 - i = (runEnd t.mask i - i) + 1 := by omega
    rw [e, List.range_succ_eq_map, List.find?_cons]
    simp only [Nat.add_zero, h0]
  | succ n ih =>
    intro fuel i q hf hi ⟨m, hm, hn, hk⟩
    obtain ⟨fuel, rfl⟩ : ∃ f, fuel = f + 1 := ⟨fuel - 1, by omega⟩
    obtain ⟨r1, r2⟩ := runEnd_le hi
    obtain ⟨w1, w2⟩ := run_steps t (runEnd t.mask i - i) (atRun t.mask i q) rfl rfl
    have el : runEnd t.mask i + 1 - i = runEnd t.mask i - i + 1 := by omega
    unfold layClean.free
    cases hf2 : (List.range (runEnd t.mask i + 1 - i)).find? fun k => (owner.getD (i + k) (some 0)).isNone with
    | some k =>
      obtain ⟨hp, as, bs, e1, e2⟩ := List.find?_eq_some_iff_append.mp hf2
      refine ⟨runEnd t.mask i - i + 1, as.map (i + ·), i + k, bs.map (i + ·), rfl, ?_, fun a ha => ?_, (none_not hp).2.2⟩
      · rw [w1]
        show List.range' i (runEnd t.mask i - i + 1) = _
        rw [List.range'_eq_map_range, ← el, e1, List.map_append, List.map_cons]
      · obtain ⟨b, hb, rfl⟩ := List.mem_map.mp ha
        have hb2 : b ∈ List.range (runEnd t.mask i + 1 - i) := by rw [e1]; exact List.mem_append_left _ hb
        have := List.mem_range.mp hb2
        rcases tk_or (owner := owner) (j := i + b) (by omega) with z | z
        · have := e2 b hb
          rw [z] at this
          cases this
        · exact z
    | none =>
      dsimp only
      have all : ∀ k, k < runEnd t.mask i + 1 - i → Tk owner (i + k) := fun k hk => by
        have := List.find?_eq_none.mp hf2 k (List.mem_range.mpr hk)
        exact (tk_or (by omega)).resolve_left this
      cases m with
      | zero => exact absurd (all 0 (by omega)) hn
      | succ m =>
        obtain ⟨l, pre, j, post, h1, h2, h3, h4⟩ := ih fuel (leap t.mask i q).1 (leap t.mask i q).2 (by omega) (by have := Nat.mod_lt (i * 5 + 1 + q / 32) (show 0 < t.mask + 1 by omega); show (i * 5 + 1 + q / 32) % (t.mask + 1) ≤ t.mask; omega) ⟨m, by omega, hn, hk⟩
        refine ⟨runEnd t.mask i - i + 1 + l, List.range' i (runEnd t.mask i - i + 1) ++ pre, j, post, h1, ?_, fun a ha => ?_, h4⟩
        · rw [wk_add, w1, w2]
          show List.range' i (runEnd t.mask i - i + 1) ++ wk t (atRun t.mask (leap t.mask i q).1 (leap t.mask i q).2) l = _
          rw [h2, List.append_assoc]
        · rcases List.mem_append.mp ha with z | z
          · obtain ⟨h5, h6⟩ := List.mem_range'_1.mp z
            have := all (a - i) (by omega)
            rw [show i + (a - i) = a by omega] at this
            exact this
          · exact h3 a z
structure Own (t : SetTable) (hs : List Int) (owner : Array (Option Nat)) (A : List (Nat × Nat)) (k : Nat) : Prop where
  sz : owner.size = t.mask + 1
  iff : ∀ j i, owner[j]? = some (some i) ↔ (j, i) ∈ A
  sn : A.map (·.2) = List.range k
  nd : (A.map (·.1)).Nodup
  rc : ∀ x ∈ A, ∃ h, hs[x.2]? = some h ∧ Rch t (A.map (·.1)) h x.1
theorem own_nil (t : SetTable) (hs : List Int) : Own t hs (Array.replicate (t.mask + 1) none) [] 0 := by
  refine ⟨by simp, fun j i => ⟨fun h => ?_, fun h => nomatch h⟩, rfl, .nil, fun x hx => nomatch hx⟩
  rw [Array.getElem?_replicate] at h
  split at h <;> cases h
theorem own_step {t : SetTable} {hs : List Int} {owner : Array (Option Nat)} {A : List (Nat × Nat)} {k : Nat} {h : Int} (g : Good t.mask) (o : Own t hs owner A k) (hh : hs[k]? = some h) (hk : k ≤ t.mask) :
    ∃ j, layClean.free t.mask owner (turns t.mask) (bits h % (t.mask + 1)) (bits h) = some j ∧ Own t hs (owner.setIfInBounds j (some k)) (A ++ [(j, k)]) (k + 1) := by
  have la : A.length = k := by
    have := congrArg List.length o.sn
    simpa using this
  have tkA : ∀ a, Tk owner a ↔ a ∈ A.map (·.1) := fun a => ⟨fun ⟨i, z⟩ => List.mem_map.mpr ⟨(a, i), (o.iff a i).mp z, rfl⟩, fun z => by
    obtain ⟨x, hx, rfl⟩ := List.mem_map.mp z
    exact ⟨x.2, (o.iff x.1 x.2).mpr hx⟩⟩
  obtain ⟨s, hs1, hs2⟩ := free_there (l := A.map (·.1)) (mask := t.mask) (by rw [List.length_map]; omega)
  obtain ⟨m, hm, em⟩ := hits g h hs1
  obtain ⟨l, pre, j, post, h1, h2, h3, h4⟩ := free_run t owner o.sz (12 + t.mask) (turns t.mask) (bits h % (t.mask + 1)) (bits h) (by show 12 + t.mask < t.mask + 15; omega) (by have := Nat.mod_lt (bits h) (show 0 < t.mask + 1 by omega); omega)
    ⟨m, hm, by rw [rn_ri, em, tkA]; exact hs2, by rw [rn_ri, em]; exact hs1⟩
  have hj : j < owner.size := (Array.getElem?_eq_some_iff.mp h4).1
  have nj : j ∉ A.map (·.1) := fun z => by
    obtain ⟨i, e⟩ := (tkA j).mpr z
    rw [h4] at e
    cases e
  refine ⟨j, h1, ⟨by rw [Array.size_setIfInBounds]; exact o.sz, fun a i => ?_, ?_, ?_, fun x hx => ?_⟩⟩
  · rw [Array.getElem?_setIfInBounds]
    by_cases ea : j = a
    · subst ea
      rw [if_pos rfl, if_pos hj]
      constructor
      · intro e
        cases e
        exact List.mem_append_right _ List.mem_cons_self
      · intro e
        rcases List.mem_append.mp e with z | z
        · exact absurd (List.mem_map.mpr ⟨_, z, rfl⟩) nj
        · cases List.mem_singleton.mp z
          rfl
    · rw [if_neg ea, o.iff]
      constructor
      · exact fun z => List.mem_append_left _ z
      · intro e
        rcases List.mem_append.mp e with z | z
        · exact z
        · cases List.mem_singleton.mp z
          exact absurd rfl ea
  · rw [List.map_append, o.sn, List.range_succ]
    rfl
  · rw [List.map_append]
    refine List.nodup_append.mpr ⟨o.nd, by simp, fun a ha b hb e => ?_⟩
    have : b = j := by simpa using hb
    rw [e, this] at ha
    exact nj ha
  · have up : ∀ a ∈ A.map (·.1), a ∈ (A ++ [(j, k)]).map (·.1) := fun a ha => by rw [List.map_append]; exact List.mem_append_left _ ha
    rcases List.mem_append.mp hx with z | z
    · obtain ⟨h', e1, e2⟩ := o.rc x z
      exact ⟨h', e1, e2.mono rfl up⟩
    · cases List.mem_singleton.mp z
      exact ⟨h, hh, l, pre, post, by rw [start_run]; exact h2, fun a ha => up a ((tkA a).mp (h3 a ha))⟩
theorem own_fold {t : SetTable} {hs : List Int} (g : Good t.mask) (hl : hs.length ≤ t.mask + 1) : ∀ (r : List Int) (owner : Array (Option Nat)) (A : List (Nat × Nat)) (k : Nat), hs.drop k = r → Own t hs owner A k →
    ∃ owner' A', r.foldl (fun acc h => do
      let (owner, k) ← acc
      let j ← layClean.free t.mask owner (turns t.mask) (bits h % (t.mask + 1)) (bits h)
      pure (owner.setIfInBounds j (some k), k + 1)) (some (owner, k)) = some (owner', k + r.length) ∧ Own t hs owner' A' (k + r.length)
  | [], owner, A, k, _, o => ⟨owner, A, rfl, o⟩
  | h :: r, owner, A, k, hd, o => by
    have hh : hs[k]? = some h := by
      have : (hs.drop k)[0]? = some h := by rw [hd]; rfl
      rw [List.getElem?_drop] at this
      simpa using this
    have hk : k < hs.length := (List.getElem?_eq_some_iff.mp hh).1
    obtain ⟨j, e1, o1⟩ := own_step g o hh (by omega)
    have hd1 : hs.drop (k + 1) = r := by rw [← List.drop_drop, hd]; rfl
    obtain ⟨owner', A', e2, o2⟩ := own_fold g hl r _ _ (k + 1) hd1 o1
    refine ⟨owner', A', ?_, by rw [List.length_cons, show k + (r.length + 1) = k + 1 + r.length by omega]; exact o2⟩
    rw [List.foldl_cons]
    show List.foldl _ ((layClean.free t.mask owner (turns t.mask) (bits h % (t.mask + 1)) (bits h)).bind fun j => some (owner.setIfInBounds j (some k), k + 1)) r = _
    rw [e1]
    show List.foldl _ (some (owner.setIfInBounds j (some k), k + 1)) r = _
    rw [e2, List.length_cons, show k + (r.length + 1) = k + 1 + r.length by omega]
end Tb
namespace Tb
open PySem PySem.SetTable
theorem laid_ok {mask f m : Nat} {led plain : Bool} {hashes : Array Int} {es : List (Int × Value)} (g : Good mask) (hh : hashes.toList = es.map (·.1)) (hl : es.length ≤ mask) :
    ∃ t order, laid mask f m led plain hashes = some (t, order) ∧ t.mask = mask ∧ t.led = led ∧ t.plain = plain ∧ order.toList.Perm (List.range es.length) ∧ TOk t (order.toList.filterMap (es[·]?)) := by
  let t0 : SetTable := { mask := mask, place := #[], dummies := #[], finger := f, led := led, moves := m, plain := plain }
  have hn : hashes.toList.length = es.length := by rw [hh, List.length_map]
  obtain ⟨owner, A, e, o⟩ := own_fold (t := t0) (hs := hashes.toList) g (by rw [hn]; show es.length ≤ mask + 1; omega) hashes.toList _ [] 0 rfl (own_nil t0 hashes.toList)
  rw [Nat.zero_add, hn] at e o
  have ec : layClean mask hashes = some owner := by
    unfold layClean
    rw [← Array.foldl_toList]
    have e' := congrArg (Option.map (·.1)) e
    exact e'
  let Lv : List (Nat × Nat) := (List.range (mask + 1)).filterMap fun j => (owner.getD j none).map (j, ·)
  have mem : ∀ x, x ∈ Lv ↔ x ∈ A := fun x => by
    obtain ⟨j, i⟩ := x
    rw [← o.iff]
    constructor
    · intro hx
      obtain ⟨a, ha, ea⟩ := List.mem_filterMap.mp hx
      obtain ⟨b, eb, ex⟩ := Option.map_eq_some_iff.mp ea
      cases ex
      by_cases hj : j < owner.size
      · have : owner.getD j none = owner[j] := by simp [Array.getD, hj]
        rw [this] at eb
        rw [Array.getElem?_eq_getElem hj, eb]
      · have : owner.getD j none = none := by simp [Array.getD, hj]
        rw [this] at eb
        cases eb
    · intro hx
      obtain ⟨hj, eb⟩ := Array.getElem?_eq_some_iff.mp hx
      refine List.mem_filterMap.mpr ⟨j, List.mem_range.mpr (by have := o.sz; show j < t0.mask + 1; omega), ?_⟩
      have : owner.getD j none = owner[j] := by simp [Array.getD, hj]
      rw [this, eb]
      rfl
  have rs : (Lv.map (·.1)).Pairwise (· < ·) := by
    rw [List.pairwise_map, List.pairwise_filterMap]
    refine List.pairwise_lt_range.imp ?_
    intro a b hab x hx y hy
    obtain ⟨_, _, rfl⟩ := Option.map_eq_some_iff.mp hx
    obtain ⟨_, _, rfl⟩ := Option.map_eq_some_iff.mp hy
    exact hab
  have ndL : Lv.Nodup := (List.pairwise_map.mp rs).imp fun h e => by rw [e] at h; exact Nat.lt_irrefl _ h
  have ndA : A.Nodup := (List.pairwise_map.mp (show (A.map (·.1)).Pairwise (· ≠ ·) from o.nd)).imp fun h e => h (by rw [e])
  have perm : Lv.Perm A := (List.perm_ext_iff_of_nodup ndL ndA).mpr mem
  have p2 : (Lv.map (·.2)).Perm (List.range es.length) := by rw [← o.sn]; exact perm.map _
  have inr : ∀ x ∈ Lv, x.2 < es.length := fun x hx => List.mem_range.mp (p2.mem_iff.mp (List.mem_map.mpr ⟨x, hx, rfl⟩))
  refine ⟨{ mask := mask, place := (Lv.map (·.1)).toArray, dummies := #[], finger := f, led := led, moves := m, plain := plain }, (Lv.map (·.2)).toArray, ?_, rfl, rfl, rfl, by simpa using p2, ?_⟩
  · unfold laid
    rw [ec]
    rfl
  · have es' : ((Lv.map (·.2)).toArray.toList.filterMap (es[·]?)) = Lv.map fun x => (es[x.2]?).getD (0, .none) := by
      show (Lv.map (·.2)).filterMap (es[·]?) = _
      rw [List.filterMap_map]
      clear perm mem ndL p2 rs
      generalize Lv = L at inr
      induction L with
      | nil => rfl
      | cons x r ih =>
        have hx := inr x List.mem_cons_self
        have ex : es[x.2]? = some es[x.2] := List.getElem?_eq_getElem hx
        rw [List.filterMap_cons_some (f := (fun x => es[x]?) ∘ fun x : Nat × Nat => x.2) (a := x) (b := es[x.2]) ex, ih fun y hy => inr y (List.mem_cons_of_mem _ hy), List.map_cons, ex]
        rfl
    rw [es']
    have pl : (Lv.map (·.1)).toArray.toList = Lv.map (·.1) := rfl
    have ll : Lv.length = es.length := by
      have := p2.length_eq
      simpa using this
    refine ⟨g, rs, rfl, by rw [pl, List.length_map, List.length_map], by rw [List.length_map, ll]; exact hl, fun y hy => ?_⟩
    have hy' : y ∈ (Lv.map (·.1)).zip (Lv.map fun x => (es[x.2]?).getD (0, .none)) := hy
    rw [List.zip_map'] at hy'
    obtain ⟨x, hx, rfl⟩ := List.mem_map.mp hy'
    obtain ⟨h, e1, e2⟩ := o.rc x ((mem x).mp hx)
    have e3 : ((es[x.2]?).getD (0, .none)).1 = h := by
      rw [hh, List.getElem?_map] at e1
      obtain ⟨z, ez, rfl⟩ := Option.map_eq_some_iff.mp e1
      rw [ez]
      rfl
    show Rch _ _ ((es[x.2]?).getD (0, .none)).1 x.1
    rw [e3]
    exact Rch.mono (t := t0) rfl (fun a ha => (perm.map (·.1)).mem_iff.mpr ha) e2
structure SOk (t : SetTable) (es : List (Int × Value)) : Prop where
  ok : TOk t es
  nf : es.length * 5 < t.mask * 3
theorem sok_fresh (f m : Nat) (led : Bool) : SOk (.fresh f m led) [] := ⟨tok_fresh f m led, by show 0 * 5 < 7 * 3; decide⟩
theorem SOk.room {t : SetTable} {es : List (Int × Value)} (k : SOk t es) : es.length + 1 ≤ t.mask := by
  have := k.nf
  rcases k.ok.gd with h | h | h <;> omega
theorem full_iff {t : SetTable} {es : List (Int × Value)} (k : TOk t es) : t.tooFull = decide (t.mask * 3 ≤ es.length * 5) := by
  unfold tooFull fill
  have h1 := k.sz
  rw [Array.length_toList] at h1
  rw [k.du, h1]
  rfl
theorem grown_ok {mask n : Nat} (g : Good mask) (hf : mask * 3 ≤ n * 5) (hp : (n - 1) * 5 < mask * 3) (hn : n ≤ 76) : Good (sizeAbove (grown n) - 1) ∧ n * 5 < (sizeAbove (grown n) - 1) * 3 ∧ n ≤ sizeAbove (grown n) - 1 ∧ sizeAbove (grown n) ≤ 128 := by
  rcases g with h | h | h
  · have : n = 5 := by omega
    subst this
    exact ⟨.inr (.inl (by decide +kernel)), by decide +kernel, by decide +kernel, by decide +kernel⟩
  · have : n = 19 := by omega
    subst this
    exact ⟨.inr (.inr (by decide +kernel)), by decide +kernel, by decide +kernel, by decide +kernel⟩
  · omega
theorem relaid_ok {t : SetTable} {ea : Array (Int × Value)} (k : TOk t ea.toList) (hf : t.mask * 3 ≤ ea.size * 5) (hp : (ea.size - 1) * 5 < t.mask * 3) (hn : ea.size ≤ 76) :
    ∃ t' order, t.relaid (ea.map (·.1)) (grown ea.size) = some (t', order) ∧ t'.led = t.led ∧ t'.plain = t.plain ∧ order.toList.Perm (List.range ea.size) ∧ SOk t' (order.filterMap (ea[·]?)).toList := by
  obtain ⟨g1, g2, g3, _⟩ := grown_ok k.gd hf hp hn
  obtain ⟨t', order, e1, e2, e3, e4, e5, e6⟩ := laid_ok (f := t.finger) (m := t.movedTo (sizeAbove (grown ea.size) - 1)) (led := t.led) (plain := t.plain) (hashes := ea.map (·.1)) (es := ea.toList) g1 (by simp) (by rw [Array.length_toList]; exact g3)
  rw [Array.length_toList] at e5
  have e7 : (order.filterMap (ea[·]?)).toList = order.toList.filterMap (ea.toList[·]?) := by
    rw [Array.toList_filterMap]
    congr 1
    funext i
    exact (Array.getElem?_toList ..).symm
  refine ⟨t', order, e1, e3, e4, e5, ?_⟩
  rw [e7]
  refine ⟨e6, ?_⟩
  have hlen : (order.toList.filterMap (ea.toList[·]?)).length = ea.size := by
    have := (e5.filterMap (ea.toList[·]?)).length_eq
    rw [this]
    have := filterMap_getElem?_range ea
    have e8 : (fun i : Nat => ea.toList[i]?) = fun i : Nat => ea[i]? := by funext i; exact Array.getElem?_toList ..
    rw [e8, this, Array.length_toList]
  rw [hlen, e2]
  exact g2
end Tb
namespace Tb
open PySem PySem.SetTable
section
variable {prog : Program} {w : World} {K : Type} [DecidableEq K] (knd : KeyKind prog w K)
variable {knd} {A : Around} {E : Value → Shared → Prop} {s : Shared}
end
end Tb
namespace Tb
open PySem PySem.SetTable
section
variable {prog : Program} {w : World} {K : Type} [DecidableEq K] {knd : KeyKind prog w K} {A : Around} {E : Value → Shared → Prop} {s : Shared}
theorem put_plain {t : SetTable} {es : List (Int × Value)} (k : TOk t es) (e : Nat) : (t.put e).1.plain = t.plain ∧ (t.put e).1.led = t.led ∧ (t.put e).1.mask = t.mask := by
  rw [put_eq k]
  exact ⟨rfl, rfl, rfl⟩
end
end Tb
namespace Tb
open PySem PySem.SetTable
theorem slot_sin : Slot "set_iterator" "__next__" "set_iterator.__next__" :=
  .of (owner := "set_iterator") (n := "__next__") (by rw [typeLookup_type, builtinLookup_eq_fast]; kernel_rfl) (by decide +kernel) (by decide +kernel) (by decide +kernel) (.inl (by decide +kernel)) (by rw [isSubtype_type]; kernel_rfl)
theorem slot_sii : Slot "set_iterator" "__iter__" "set_iterator.__iter__" :=
  .of (owner := "set_iterator") (n := "__iter__") (by rw [typeLookup_type, builtinLookup_eq_fast]; kernel_rfl) (by decide +kernel) (by decide +kernel) (by decide +kernel) (.inl (by decide +kernel)) (by rw [isSubtype_type]; kernel_rfl)
theorem entry_sin : entryFor table "set_iterator.__next__" = some Builtin.«set_iterator.__next__» := entryFor_of_tree (by kernel_rfl)
theorem entry_sii : entryFor table "set_iterator.__iter__" = some Builtin.«dict_keyiterator.__iter__» :=
  entryFor_alias (id' := "dict_keyiterator.__iter__") (by kernel_rfl) rfl (by decide +kernel) (by kernel_rfl)
theorem entry_siter : entryFor table "set.__iter__" = some Builtin.«frozenset.__iter__» :=
  entryFor_alias (id' := "frozenset.__iter__") (by kernel_rfl) rfl (by decide +kernel) (by kernel_rfl)
theorem owner_si : Manifest.owners.lookup (String.ofList ("set_iterator".toList.reverse).reverse) = some Manifest.sig_set_iterator := by kernel_rfl
theorem args_sin (a : Value) : argsOk "set_iterator.__next__" ⟨[a], []⟩ := by
  unfold argsOk; rw [signature?_of (id := "set_iterator.__next__") (n := "__next__".toList.reverse) (o := "set_iterator".toList.reverse) (by kernel_rfl) owner_si]; kernel_rfl
theorem args_sii (a : Value) : argsOk "set_iterator.__iter__" ⟨[a], []⟩ := by
  unfold argsOk; rw [signature?_of (id := "set_iterator.__iter__") (n := "__iter__".toList.reverse) (o := "set_iterator".toList.reverse) (by kernel_rfl) owner_si]; kernel_rfl
theorem erase_perm {α : Type} : ∀ (l : List α) (i : Nat) (h : i < l.length), (l[i] :: l.eraseIdx i).Perm l
  | _ :: _, 0, _ => List.Perm.refl _
  | a :: l, i + 1, h => (List.Perm.swap a _ _).trans ((erase_perm l i (Nat.lt_of_succ_lt_succ h)).cons a)
theorem pick_go {α : Type} (next : Nat → Nat) : ∀ (fuel k : Nat) (left : List α) (out : Array α), left.length = fuel → (pickOrder.go next fuel k left out).toList.Perm (out.toList ++ left)
  | 0, k, left, out, h => by
    rw [List.length_eq_zero_iff.mp h, List.append_nil]
    exact List.Perm.refl _
  | fuel + 1, k, left, out, h => by
    have hi : next k % left.length < left.length := Nat.mod_lt _ (by omega)
    have e : left[next k % left.length]? = some left[next k % left.length] := List.getElem?_eq_getElem hi
    unfold pickOrder.go
    rw [e]
    dsimp only
    refine (pick_go next fuel (k + 1) _ _ (by rw [List.length_eraseIdx_of_lt hi]; omega)).trans ?_
    rw [Array.toList_push, List.append_assoc]
    exact List.Perm.append_left _ (erase_perm left _ hi)
theorem pick_perm {α : Type} (next : Nat → Nat) (xs : Array α) : (pickOrder next xs).toList.Perm xs.toList := by
  have := pick_go next xs.size 0 xs.toList #[] (Array.length_toList ..)
  simpa [pickOrder] using this
def RawS (h : Heap) (a : Addr) (es : Array (Int × Value)) (ep : Nat) (t : SetTable) : Prop := ∃ o, h.get? a = some o ∧ o.ExactSet ∧ o.data = .set es ep t
def walkO (P : Params) (a ep : Nat) (es : Array (Int × Value)) : Array (Int × Value) := if P.followText "set-order" = true then pickOrder (P.setOrder a ep) es else es
theorem walk_perm (P : Params) (a ep : Nat) (es : Array (Int × Value)) : (walkO P a ep es).toList.Perm es.toList := by
  unfold walkO
  split
  · exact pick_perm _ _
  · exact List.Perm.refl _
theorem walk_size (P : Params) (a ep : Nat) (es : Array (Int × Value)) : (walkO P a ep es).size = es.size := by
  have := (walk_perm P a ep es).length_eq
  rw [Array.length_toList, Array.length_toList] at this
  exact this
def SetIt (P : Params) (h : Heap) (it a : Addr) (t : SetTable) (i n ep : Nat) : Prop := ∃ slot : Nat, h.get? it = some { cls := .type "set_iterator", dict := none, data := .fields #[.int (slot : Int) 0, .int (i : Int) 0, .ref a, .int (n : Int) 0, .int (ep : Int) 0], slots := #[] } ∧ (P.followText "set-order" = false → below t.place slot = i)
section
variable {prog : Program} {w : World} {A : Around} {E : Value → Shared → Prop} {s : Shared} {a it : Addr} {es : Array (Int × Value)} {ep i : Nat} {t : SetTable}
theorem by_text {Q : Bool → Shared → Prop} (h : Q (w.params.followText "set-order") s) : wpAny (model prog w) A setsByText Q E s := by
  unfold setsByText
  exact wpAny_bind (wpAny_askSetting (wpAny_pure h))
theorem set_next {Q : Option (Value × Nat) → Shared → Prop} {slot : Nat} (hS : RawS s.heap a es ep t) (hk : SOk t es.toList) (hl : t.led = !w.params.followText "set-order") (hp : t.plain = true) (hb : w.params.followText "set-order" = false → below t.place slot = i)
    (q : ∀ nx : Nat, (w.params.followText "set-order" = false → i < es.size → below t.place nx = i + 1) → Q (((walkO w.params a ep es)[i]?).map fun e => (e.2, nx)) s) : wpAny (model prog w) A (setNext a slot i ep) Q E s := by
  obtain ⟨o, ho, hx, hd⟩ := hS
  have hf := hk.ok.fits (n := es.size) (Array.length_toList ..)
  unfold setNext
  refine wpAny_bind (wpAny_setState_of ho hd hf (wpAny_bind (by_text ?_)))
  dsimp only
  cases hT : w.params.followText "set-order" with
  | true =>
    rw [if_pos rfl, bne_self_eq_false, if_neg (by decide)]
    unfold setWalk
    refine wpAny_bind (wpAny_bind (wpAny_setState_of ho hd hf (wpAny_bind (by_text ?_))))
    rw [hT, if_pos rfl]
    refine wpAny_bind (wpAny_askSetting (wpAny_pure (wpAny_pure ?_)))
    have := q slot (fun z => by rw [hT] at z; cases z)
    unfold walkO at this
    rw [hT, if_pos rfl] at this
    exact this
  | false =>
    rw [if_neg (by decide)]
    have hl1 : t.led = true := by rw [hl, hT]; rfl
    split
    · rename_i z
      have z1 : (!t.plain && decide (es.size > 1)) = true := z
      rw [hp] at z1
      cases z1
    · refine wpAny_bind (show wpAny _ _ (if (!t.led && !es.isEmpty) = true then unsupported "set:maker-not-led" else pure ()) _ _ _ from ?_)
      rw [hl1, if_neg (by simp)]
      refine wpAny_pure (wpAny_pure ?_)
      rw [hb hT]
      have ew : walkO w.params a ep es = es := by unfold walkO; rw [hT, if_neg (by decide)]
      rw [ew] at q
      by_cases hi : i < es.size
      · have h1 := hk.ok.sz
        rw [Array.length_toList, Array.length_toList] at h1
        have hj : i < t.place.size := by omega
        have e1 : es[i]? = some es[i] := Array.getElem?_eq_getElem hi
        have e2 : t.place[i]? = some t.place[i] := Array.getElem?_eq_getElem hj
        have := q (t.place[i] + 1) (fun _ _ => below_next hk.ok.rs e2)
        rw [e1] at this ⊢
        rw [e2]
        exact this
      · have e1 : es[i]? = none := Array.getElem?_eq_none (by omega)
        have := q 0 (fun _ z => absurd z hi)
        rw [e1] at this ⊢
        exact this
end
end Tb
namespace Tb
open PySem PySem.SetTable
section
variable {prog : Program} {w : World} {A : Around} {E : Value → Shared → Prop} {s : Shared} {a it : Addr} {es : Array (Int × Value)} {ep i : Nat} {t : SetTable}
theorem si_ty {P : Params} {n : Nat} (h : SetIt P s.heap it a t i n ep) : s.TypeIs (.ref it) "set_iterator" := let ⟨_, e, _⟩ := h; ⟨_, e, rfl⟩
structure WOk (P : Params) (h : Heap) (a : Addr) (es : Array (Int × Value)) (ep : Nat) (t : SetTable) : Prop where
  raw : RawS h a es ep t
  sok : SOk t es.toList
  led : t.led = !P.followText "set-order"
  pl : t.plain = true
theorem WOk.at {P : Params} {h h' : Heap} (x : WOk P h a es ep t) (k : ∀ o, h.get? a = some o → h'.get? a = some o) : WOk P h' a es ep t := ⟨let ⟨o, e, r⟩ := x.raw; ⟨o, k o e, r⟩, x.sok, x.led, x.pl⟩
theorem SetIt.at {P : Params} {h h' : Heap} {n : Nat} (x : SetIt P h it a t i n ep) (k : ∀ o, h.get? it = some o → h'.get? it = some o) : SetIt P h' it a t i n ep := let ⟨sl, e, r⟩ := x; ⟨sl, k _ e, r⟩
theorem si_next {e : Int × Value} {Q : Option Value → Shared → Prop} (hit : SetIt w.params s.heap it a t i es.size ep) (hw : WOk w.params s.heap a es ep t) (hx : (walkO w.params a ep es)[i]? = some e)
    (hQ : ∀ h', SetIt w.params h' it a t (i + 1) es.size ep → Heap.SameBut it s.heap h' → Q (some e.2) { s with heap := h' }) : wpAny (model prog w) A (pyNext (.ref it)) Q E s := by
  have ty := si_ty hit
  obtain ⟨slot, h1, hb⟩ := hit
  obtain ⟨o, ho, hex, hd⟩ := id hw.raw
  have hf := hw.sok.ok.fits (n := es.size) (Array.length_toList ..)
  have hi : i < es.size := by rw [← walk_size w.params a ep es]; exact (Array.getElem?_eq_some_iff.mp hx).1
  unfold pyNext
  refine wpAny_bind (wpAny_attempt (wpAny_callSpecial?_slot (name := Str.ofString "__next__") ty slot_sin (wpAny_call_entry slot_sin ty entry_sin ?_ (args_sin _))))
  unfold Builtin.«set_iterator.__next__»
  refine wpAny_bind (wpAny_pure ?_)
  try dsimp only
  refine wpAny_bind (wpAny_fieldsOf h1 rfl ?_)
  try dsimp only
  refine wpAny_bind (wpAny_setEntries_of ho hd hf ?_)
  rw [if_neg (by simp)]
  try dsimp only
  rw [Int.toNat_natCast, Int.toNat_natCast, Int.toNat_natCast]
  refine wpAny_bind (set_next (i := i) hw.raw hw.sok hw.led hw.pl hb fun nx hnx => ?_)
  rw [hx]
  dsimp only [Option.map]
  refine wpAny_bind (wpAny_setField_rec h1 (by simp) fun h2 e2 s2 => wpAny_bind (wpAny_setField_rec e2 (by simp) fun h3 e3 s3 => ?_))
  refine wpAny_pure ⟨_, rfl, wpAny_pure (hQ h3 ⟨nx, ?_, fun z => hnx z hi⟩ (s2.trans s3))⟩
  have z : ((i + 1 : Nat) : Int) = (i : Int) + 1 := by omega
  rw [z]
  simpa [rawInt] using e3
theorem si_end {Q : Option Value → Shared → Prop} (hh : A.handled = none) (hit : SetIt w.params s.heap it a t i es.size ep) (hw : WOk w.params s.heap a es ep t) (hx : (walkO w.params a ep es)[i]? = none)
    (hQ : ∀ h', Heap.ExtBut it s.heap h' → Q none { s with heap := h' }) : wpAny (model prog w) A (pyNext (.ref it)) Q E s := by
  have ty := si_ty hit
  obtain ⟨slot, h1, hb⟩ := hit
  obtain ⟨o, ho, hex, hd⟩ := id hw.raw
  have hf := hw.sok.ok.fits (n := es.size) (Array.length_toList ..)
  unfold pyNext
  refine wpAny_bind (wpAny_attempt (wpAny_callSpecial?_slot (name := Str.ofString "__next__") ty slot_sin (wpAny_call_entry slot_sin ty entry_sin ?_ (args_sin _))))
  unfold Builtin.«set_iterator.__next__»
  refine wpAny_bind (wpAny_pure ?_)
  try dsimp only
  refine wpAny_bind (wpAny_fieldsOf h1 rfl ?_)
  try dsimp only
  refine wpAny_bind (wpAny_setEntries_of ho hd hf ?_)
  rw [if_neg (by simp)]
  try dsimp only
  rw [Int.toNat_natCast, Int.toNat_natCast, Int.toNat_natCast]
  refine wpAny_bind (set_next (i := i) hw.raw hw.sok hw.led hw.pl hb fun nx hnx => ?_)
  rw [hx]
  dsimp only [Option.map]
  refine wpAny_bind (wpAny_setField h1 rfl (by simp) ?_)
  show wpAny _ _ (newExc (.type "StopIteration") [] >>= fun _ => _) _ _ _
  refine wpAny_bind ?_
  simp only [newExc, newTuple]
  refine wpAny_bind (wpAny_newObj_type (wpAny_bind (m := firstArgMember _ _) (wpAny_of_eq (a := Value.none) (by first | rfl | (simp only [firstArgMember]; rfl)) (wpAny_newObj_type ?_ (by size_fits)))) (by size_fits))
  simp only [raiseNew]
  refine wpAny_bind (wpAny_handled ?_)
  rw [show A.in1.handled = none from hh]
  refine wpAny_bind (wpAny_pure (wpAny_throw ?_)); refine wpAny_bind (wpAny_isInstance (T := "StopIteration") (b := true) ⟨_, Heap.get?_push_size _ rfl, rfl⟩ isSubtype_stop ?_)
  exact wpAny_pure (hQ _ (((Heap.SameBut.update ..).extBut.push _).push _))
theorem si_self {n : Nat} {P : Params} {Q : Value → Shared → Prop} (hit : SetIt P s.heap it a t i n ep) (h : Q (.ref it) s) : wpAny (model prog w) A (pyIter (.ref it)) Q E s := by
  have ty := si_ty hit
  refine wpAny_pyIter_slot ty slot_sii (wpAny_call_entry slot_sii ty entry_sii ?_ (args_sii _))
  exact wpAny_pure ⟨_, rfl, "set_iterator", _, ty, slot_sin.lookup, h⟩
theorem si_make {Q : Value → Shared → Prop} (hw : WOk w.params s.heap a es ep t) (hQ : ∀ h', h' = s.heap.push { cls := .type "set_iterator", dict := none, data := .fields #[.int ((0 : Nat) : Int) 0, .int ((0 : Nat) : Int) 0, .ref a, .int (es.size : Int) 0, .int (ep : Int) 0], slots := #[] } → SetIt w.params h' s.heap.objs.size a t 0 es.size ep → Q (.ref s.heap.objs.size) { s with heap := h' }) :
    wpAny (model prog w) A (pyIter (.ref a)) Q E s := by
  obtain ⟨o, ho, hex, hd⟩ := id hw.raw
  have ty : s.TypeIs (.ref a) "set" := ⟨o, ho, hex.1⟩
  have hf := hw.sok.ok.fits (n := es.size) (Array.length_toList ..)
  refine wpAny_pyIter_slot ty F.slot_set_iter (wpAny_call_entry F.slot_set_iter ty entry_siter ?_ (F.args_set_iter_1 _))
  unfold Builtin.«frozenset.__iter__» Builtin.Frozenset.slot0 slotArgs
  simp only [List.isEmpty_nil, Bool.not_true, Bool.false_eq_true, ↓reduceIte, bind_assoc, List.length_nil, bne_self_eq_false]
  unfold Builtin.Frozenset.addrOf Builtin.Frozenset.sizeOf
  refine wpAny_bind (wpAny_pure (wpAny_bind (wpAny_pure (wpAny_bind (wpAny_bind (wpAny_setEntries_of ho hd hf (wpAny_pure ?_)))))))
  unfold setDrawn
  refine wpAny_bind (wpAny_bind (wpAny_setState_of ho hd hf (wpAny_bind (by_text (wpAny_pure ?_)))))
  rw [if_neg (show ¬ _ from fun z => by
    have z1 : (!w.params.followText "set-order" && (!t.plain && decide (es.size > 1))) = true := z
    rw [hw.pl] at z1
    simp at z1)]
  refine wpAny_bind (wpAny_pure (wpAny_bind (wpAny_setEpoch_of ho hd hf (wpAny_bind ?_))))
  refine wpAny_newObj_type (wpAny_pure ⟨_, rfl, "set_iterator", _, ⟨_, Heap.get?_push_size _ rfl, rfl⟩, slot_sin.lookup, hQ _ rfl ⟨0, Heap.get?_push_size _ rfl, fun _ => below_zero hw.sok.ok.rs⟩⟩)
theorem si_walks (hh : A.handled = none) (hne : a ≠ it) : Walks prog w A it [it, a] [it] es.size (fun i v => ∃ e, (walkO w.params a ep es)[i]? = some e ∧ v = e.2) (fun i h => SetIt w.params h it a t i es.size ep ∧ WOk w.params h a es ep t) where
  sub := fun b hb => by simp at hb; simp [hb]
  frame := fun _ _ _ st hk => ⟨st.1.at fun o e => hk it (by simp) o e, st.2.at fun o e => hk a (by simp) o e⟩
  item := fun i s Q E hi st hQ => by
    have hz := walk_size w.params a ep es
    have hx : (walkO w.params a ep es)[i]? = some (walkO w.params a ep es)[i] := Array.getElem?_eq_getElem (by omega)
    refine si_next st.1 st.2 hx fun h' hit' hs' => ?_
    exact hQ _ h' s.toks ⟨_, hx, rfl⟩ ⟨hit', st.2.at fun o e => (hs'.2 a hne).trans e⟩ fun b o hb e => hs'.extBut b o (fun h => hb (by simp [h])) e
  done := fun s Q E st hQ => si_end hh st.1 st.2 (Array.getElem?_eq_none (by rw [walk_size]; exact Nat.le_refl _)) fun h' he' => hQ h' s.toks fun b o hb e => he' b o (fun h => hb (by simp [h])) e
  self := fun _ _ _ _ st hQ => si_self st.1 hQ
end
end Tb
namespace Tb
open PySem PySem.SetTable
theorem ite_sp {M : Model} {A : Around} {α : Type} {c : Prop} [Decidable c] {x y : Sem α} {Q : α → Shared → Prop} {E : Value → Shared → Prop} {s : Shared} (h1 : c → wpAny M A x Q E s) (h2 : ¬ c → wpAny M A y Q E s) : wpAny M A (if c then x else y) Q E s := by
  by_cases h : c
  · rw [if_pos h]; exact h1 h
  · rw [if_neg h]; exact h2 h
section
variable {prog : Program} {w : World} {A : Around} {E : Value → Shared → Prop} {s : Shared} {a : Addr} {es : Array (Int × Value)} {ep : Nat} {t : SetTable}
theorem set_hint {Q : Bool → Shared → Prop} (ty : s.TypeIs (.ref a) "set") (h : Q false s) : wpAny (model prog w) A (Builtin.List.listLengthHint (.ref a)) Q E s := by
  unfold Builtin.List.listLengthHint
  refine wpAny_bind (wpAny_specialOf ty PySem.F.slot_set_len.lookup ?_)
  generalize hid : ("set.__len__" : String) = id0
  wp_delta
  rw [show splitId id0 = some ("set", "__len__") from by subst hid; decide +kernel]
  subst hid
  refine wpAny_bind (wpAny_isInstance (T := "set") (b := true) ty (by rw [isSubtype_type]; kernel_rfl) ?_)
  refine ite_sp (fun z => absurd z (by decide)) (fun _ => ite_sp (fun _ => ?_) (fun z => absurd (by decide +kernel) z))
  exact wpAny_bind (wpAny_typeOf ty (wpAny_pure h))
theorem set_collect {R : List Value → Shared → Prop} (hh : A.handled = none) (hw : WOk w.params s.heap a es ep t) (hn : es.size ≤ sizeLine)
    (hR : ∀ (h' : Heap) (tk : Nat), (∀ b o, s.heap.get? b = some o → h'.get? b = some o) → R ((walkO w.params a ep es).toList.map (·.2)) { s with heap := h', toks := tk }) : wpAny (model prog w) A (collect (.ref a)) R E s := by
  obtain ⟨o, ho, hex, hd⟩ := id hw.raw
  have la : a < s.heap.objs.size := Heap.lt_size ho
  unfold collect
  refine wpAny_bind (wpAny_runValue (codeAny_builtin PySem.F.entry_proto_collect ?_))
  rw [Around.under_plainId PySem.F.plain_proto_collect _]
  show wpAny _ A.in1 (newList [] >>= fun l => again (.builtin "list.__iadd__" (Args.mk [l, .ref a] []))) _ _ s
  refine wpAny_bind (wpAny_newObj_type (wpAny_pure ⟨plainId_quiet PySem.F.plain_list_iadd _, codeAny_builtin PySem.F.entry_list_iadd ?_⟩))
  rw [Around.under_plainId PySem.F.plain_list_iadd _]
  show wpAny _ A.in1 (Builtin.List.listExtendWith (.ref s.heap.objs.size) (.ref a) (.ref s.heap.objs.size)) _ _ _
  have hw1 : WOk w.params (s.heap.push { cls := .type "list", data := .seq ([] : List Value).toArray }) a es ep t := hw.at fun o e => Heap.get?_push_of_some _ e
  have ty1 : Shared.TypeIs { s with heap := s.heap.push { cls := .type "list", data := .seq ([] : List Value).toArray } } (.ref a) "set" := ⟨o, Heap.get?_push_of_some _ ho, hex.1⟩
  unfold Builtin.List.listExtendWith
  refine wpAny_bind (wpAny_typeOf (T := "set") ty1 ?_)
  have b1 : Builtin.List.listSameRef (.ref s.heap.objs.size) (.ref a) = false := by simp only [Builtin.List.listSameRef, beq_eq_false_iff_ne]; exact Nat.ne_of_gt la
  rw [b1, if_neg (by decide)]
  refine wpAny_bind (si_make (s := { s with heap := s.heap.push { cls := .type "list", data := .seq ([] : List Value).toArray } }) hw1 fun h2 e2 it2 => ?_)
  have k2 : ∀ b o, (s.heap.push { cls := .type "list", data := .seq ([] : List Value).toArray }).get? b = some o → h2.get? b = some o := fun b o e => by rw [e2]; exact Heap.get?_push_of_some _ e
  have hw2 : WOk w.params h2 a es ep t := hw1.at fun o e => k2 _ _ e
  have eI : (s.heap.push { cls := .type "list", data := .seq ([] : List Value).toArray }).objs.size = s.heap.objs.size + 1 := Heap.size_push ..
  refine wpAny_bind (wpAny_holding (set_hint (s := { s with heap := h2 }) ⟨o, k2 _ _ (Heap.get?_push_of_some _ ho), hex.1⟩ ?_))
  refine ite_sp (fun _ => ?_) (fun z => absurd (by decide +kernel) z)
  refine wpAny_bind (wpAny_rule (wpAny_bind ?_))
  have eS : h2.get? s.heap.objs.size = some { cls := .type "list", data := .seq ([] : List Value).toArray } := k2 _ _ (Heap.get?_push_size _ rfl)
  show wpAny _ _ (updateSeq s.heap.objs.size (·.push .none) >>= fun _ => updateSeq s.heap.objs.size (·.pop)) _ _ _
  have eS2 := Heap.get?_update_self (Obj.mapSeq (·.push Value.none)) eS rfl
  have eS3 := Heap.get?_update_self (Obj.mapSeq (·.pop)) eS2 rfl
  have up : ∀ b o, b ≠ s.heap.objs.size → h2.get? b = some o → ((h2.update s.heap.objs.size (Obj.mapSeq (·.push Value.none))).update s.heap.objs.size (Obj.mapSeq (·.pop))).get? b = some o := fun b o nb e => (Heap.get?_update_other _ _ (Ne.symm nb)).trans ((Heap.get?_update_other _ _ (Ne.symm nb)).trans e)
  have W := (si_walks (prog := prog) (w := w) (A := A.in1) (a := a) (it := (s.heap.push { cls := .type "list", data := .seq ([] : List Value).toArray }).objs.size) (es := es) (ep := ep) (t := t) hh (by rw [eI]; exact Nat.ne_of_lt (Nat.lt_succ_of_lt la))).toS
  refine wpAny_bind (wpAny_updateSeq eS rfl (wpAny_updateSeq (hz := by seq_fits) eS2 rfl (wpAny_pure ⟨plainId_quiet PySem.F.plain_extend_loop _, ?_⟩)))
  refine codeAny_extend_loopS W hn s.heap.objs.size (by rw [eI]; simp only [List.mem_cons, List.not_mem_nil, or_false, not_or]; exact ⟨Nat.ne_of_lt (Nat.lt_succ_self _), Nat.ne_of_gt la⟩) _ es.size 0 _ _ _ (Nat.sub_zero _) (Nat.zero_le _) ⟨it2.at fun o e => up _ _ (by rw [eI]; exact Nat.ne_of_gt (Nat.lt_succ_self _)) e, hw2.at fun o e => up _ _ (Nat.ne_of_lt la) e⟩ eS3 (ItemsOf.nil _) fun s' acc c hm hS ia => ?_
  obtain ⟨h', g', d', tk', os'⟩ := s'
  obtain rfl : g' = s.gens := hm.gens
  obtain rfl : d' = s.drawn := hm.drawn
  obtain rfl : os' = s.os := hm.os
  show wpAny _ A (load s.heap.objs.size >>= fun _ => _) _ _ _
  refine wpAny_bind (wpAny_load hS (wpAny_pure ?_))
  have ea : acc.toList = (walkO w.params a ep es).toList.map (·.2) := by
    apply List.ext_getElem?
    intro j
    rw [List.getElem?_map, Array.getElem?_toList, Array.getElem?_toList]
    cases hj : acc[j]? with
    | some v =>
      obtain ⟨e, e1, rfl⟩ := ia.2 j v hj
      rw [e1]
      rfl
    | none =>
      have h1 := Array.getElem?_eq_none_iff.mp hj
      rw [ia.1] at h1
      rw [Array.getElem?_eq_none (by rw [walk_size]; exact h1)]
      rfl
  show R acc.toList _
  rw [ea]
  refine hR h' tk' fun b o e => hm.heap b o ?_ (up b o (Nat.ne_of_lt (Heap.lt_size e)) (k2 b o (Heap.get?_push_of_some _ e)))
  have lb := Heap.lt_size e
  rw [eI]
  simp only [List.mem_cons, List.not_mem_nil, or_false, not_or]
  exact ⟨Nat.ne_of_lt lb, Nat.ne_of_lt (Nat.lt_succ_of_lt lb)⟩
end
end Tb
namespace Tb
open PySem PySem.SetTable
section
variable {prog : Program} {w : World} {K : Type} [DecidableEq K] {knd : KeyKind prog w K} {A : Around} {E : Value → Shared → Prop} {s : Shared}
end
end Tb
namespace Tb
open PySem PySem.SetTable
abbrev freshO (P : Params) : Obj := { cls := .type "set", dict := none, data := .set #[] 0 (.fresh 0 0 (!P.followText "set-order")) }
section
variable {prog : Program} {w : World} {K : Type} [DecidableEq K] {knd : KeyKind prog w K} {A : Around} {E : Value → Shared → Prop} {s : Shared}
theorem set_new (x : Value) {Q : Value → Shared → Prop} (q : Q (.ref s.heap.objs.size) { s with heap := s.heap.push (freshO w.params) }) :
    codeAny (model prog w) A (.call (.builtin "set.__new__") ⟨[.type "set", x], []⟩) (wants Q E) s := by
  refine codeAny_of_tree (show wpAny _ A.in1 (do checkBuiltinCall "set.__new__" ⟨[.type "set", x], []⟩; again (.builtin "set.__new__" ⟨[.type "set", x], []⟩)) _ _ s from ?_)
  refine wpAny_bind (wpAny_of_eq (PySem.F.newCall_set_1 x) (wpAny_pure ⟨plainId_quiet PySem.F.plain_set_new _, codeAny_builtin PySem.F.entry_set_new ?_⟩))
  rw [Around.under_plainId PySem.F.plain_set_new _]
  unfold Builtin.«set.__new__» Builtin.Frozenset.newClass
  have hsub := sub_set_self
  obtain ⟨hp, g, d, tk, os⟩ := s
  dsimp only
  wp_walk
  refine wpAny_askSetting (wpAny_pure ?_)
  dsimp only
  simp only [newObj]
  exact wpAny_bind (wpAny_alloc (wpAny_pure (wpAny_pure q)))
end
end Tb
namespace Tb
open PySem PySem.SetTable
theorem lay_ok {t : SetTable} {ea : Array (Int × Value)} (k : SOk t ea.toList) (h : Int) (x : Value) :
    ∃ e, e ∉ t.place.toList ∧ Rch t t.place.toList h e ∧ TOk (t.put e).1 (insertAt ea (t.put e).2 (h, x)).toList ∧ layNew t ea h x = (insertAt ea (t.put e).2 (h, x), (t.put e).1, false, false) := by
  obtain ⟨e, e1, e2, e3⟩ := k.ok.freeSlot h
  have k1 : TOk (t.put e).1 (insertAt ea (t.put e).2 (h, x)).toList := k.ok.put e2 e3 k.room rfl
  have hf := k1.fits (n := (insertAt ea (t.put e).2 (h, x)).size) (Array.length_toList ..)
  refine ⟨e, e2, e3, k1, ?_⟩
  unfold layNew
  rw [e1]
  dsimp only
  unfold SetTable.orStandIn
  rw [if_pos hf, hf]
  rfl
theorem relay_ok {t : SetTable} {ea : Array (Int × Value)} (k : TOk t ea.toList) (hf : t.mask * 3 ≤ ea.size * 5) (hp : (ea.size - 1) * 5 < t.mask * 3) (hn : ea.size ≤ 76) :
    ∃ t' es', relayAll t ea (grown ea.size) = (es', t', false) ∧ t'.led = t.led ∧ t'.plain = t.plain ∧ es'.toList.Perm ea.toList ∧ SOk t' es'.toList := by
  obtain ⟨t', order, r1, r2, r3, r4, r5⟩ := relaid_ok k hf hp hn
  have r6 : (order.filterMap (ea[·]?)).toList.Perm ea.toList := by
    rw [Array.toList_filterMap]
    exact (r4.filterMap _).trans (by rw [filterMap_getElem?_range])
  refine ⟨t', _, ?_, r2, r3, r6, r5⟩
  unfold relayAll
  rw [r1]
  dsimp only
  have c1 : coversAll order ea.size = true := by
    unfold coversAll
    exact List.isPerm_iff.mpr r4
  rw [c1, r5.ok.fits (n := (order.filterMap (ea[·]?)).size) (Array.length_toList ..)]
  rfl
section
variable {prog : Program} {w : World} {K : Type} [DecidableEq K] {knd : KeyKind prog w K} {A : Around} {E : Value → Shared → Prop} {s : Shared}
def VSet (knd : KeyKind prog w K) (h : Heap) (a : Addr) (led : Bool) (vs : List (K × Value)) : Prop :=
  ∃ o es ep t, h.get? a = some o ∧ o.ExactSet ∧ o.data = .set es ep t ∧ SOk t es.toList ∧ t.led = led ∧ t.plain = true ∧ es.toList.Perm (vs.map fun x => (knd.hash x.1, x.2)) ∧ (vs.map (·.1)).Nodup ∧ ∀ x ∈ vs, knd.is x.1 x.2 = true ∧ x.2.scannable = true ∧ plainKind x.2 = true
def addV (vs : List (K × Value)) (k : K) (x : Value) : List (K × Value) := if k ∈ vs.map (·.1) then vs else vs ++ [(k, x)]
theorem vset_add {a : Addr} {x : Value} {led : Bool} {k : K} {vs : List (K × Value)} {Q : Bool → Shared → Prop} (hS : VSet knd s.heap a led vs) (hkey : knd.is k x = true) (hsc : x.scannable = true) (hpk : plainKind x = true) (hn : vs.length ≤ 60)
    (q : ∀ b h', Heap.SameBut a s.heap h' → VSet knd h' a led (addV vs k x) → Q b { s with heap := h' }) : wpAny (model prog w) A (setAddHashed a x (knd.hash k)) Q E s := by
  have hS0 := hS
  obtain ⟨o, es, ep, t, ho, hex, hd, hk, hl, hpl, hp, hnd, hx⟩ := hS
  have hsz : es.size = vs.length := by have := hp.length_eq; rw [Array.length_toList, List.length_map] at this; exact this
  have hf := hk.ok.fits (n := es.size) (Array.length_toList ..)
  have hel : ElemsOf knd es.toList := fun e he => by
    obtain ⟨y, hy, rfl⟩ := List.mem_map.mp (hp.mem_iff.mp he)
    exact ⟨⟨y.1, (hx y hy).1, rfl⟩, (hx y hy).2.1⟩
  have sb : (64 : Nat) ≤ scanBound := by decide
  have hb : es.size < scanBound := by omega
  unfold setAddHashed setAddHashedIn
  refine wpAny_holding (wpAny_bind (wpAny_setState_of ho hd hf ?_))
  dsimp only
  rw [byScan_of hsc hb hel]
  simp only [↓reduceIte]
  unfold setAddByScan
  refine wpAny_bind ?_
  refine wpAny_bind (wpAny_rule ?_)
  refine wpAny_bind (wpAny_setScan_of hkey ho hd hf hel ?_)
  cases hr : List.findIdx? (fun e => knd.is k e.2) es.toList with
  | some j =>
    dsimp only
    obtain ⟨hj, hpj, _⟩ := List.findIdx?_eq_some_iff_getElem.mp hr
    obtain ⟨y, hy, ey⟩ := List.mem_map.mp (hp.mem_iff.mp (List.getElem_mem hj))
    have hin : k ∈ vs.map (·.1) := by
      have h2 : knd.is k y.2 = true := by rw [← ey] at hpj; exact hpj
      exact List.mem_map.mpr ⟨y, hy, (knd.inj y.2 k y.1 h2 (hx y hy).1).symm⟩
    refine wpAny_pure (wpAny_pure ?_)
    have e1 : s = { s with heap := s.heap } := by cases s; rfl
    rw [e1]
    refine q _ s.heap (Heap.SameBut.refl a s.heap) ?_
    unfold addV
    rw [if_pos hin]
    exact hS0
  | none =>
    dsimp only
    have hni : k ∉ vs.map (·.1) := fun hin => by
      obtain ⟨y, hy, ey⟩ := List.mem_map.mp hin
      have := List.findIdx?_eq_none_iff.mp hr (knd.hash y.1, y.2) (hp.mem_iff.mpr (List.mem_map.mpr ⟨y, hy, rfl⟩))
      rw [← ey, (hx y hy).1] at this
      cases this
    obtain ⟨e, he, hrc, k1, el⟩ := lay_ok hk (knd.hash k) x
    rw [el]
    dsimp only
    obtain ⟨p1, p2, p3⟩ := put_plain hk.ok e
    refine wpAny_bind (wpAny_pure ?_)
    rw [p1, hpl, if_pos rfl]
    refine wpAny_bind ?_
    rw [hashByValue_scannable 8 hsc, hpk]
    refine wpAny_pure ?_
    rw [if_pos rfl]
    have hp1 : (insertAt es (t.put e).2 (knd.hash k, x)).toList.Perm ((vs ++ [(k, x)]).map fun x => (knd.hash x.1, x.2)) := by
      refine (insertAt_perm ..).trans ?_
      rw [Array.toList_push, List.map_append]
      exact hp.append_right _
    generalize hE : insertAt es (t.put e).2 (knd.hash k, x) = es1 at k1 hp1 ⊢
    have hsz1 : es1.size = vs.length + 1 := by have := hp1.length_eq; rw [Array.length_toList, List.length_map, List.length_append] at this; exact this
    have sl : es1.size ≤ sizeLine := by rw [sizeLine_eq]; omega
    refine wpAny_bind (wpAny_storeSet_of ho hd ?_ sl)
    have g1 : (s.heap.update a (Obj.putSet es1 (t.put e).1)).get? a = some { o with data := .set es1 (ep + 1) (t.put e).1 } := by
      have := Heap.get?_update_self (Obj.putSet es1 (t.put e).1) ho (by rw [putSet_of es1 (t.put e).1 hd]; rfl)
      rw [putSet_of es1 (t.put e).1 hd] at this; exact this
    have sb1 := Heap.SameBut.update s.heap a (Obj.putSet es1 (t.put e).1)
    have ax : addV vs k x = vs ++ [(k, x)] := if_neg hni
    have nd1 : ((vs ++ [(k, x)]).map (·.1)).Nodup := by
      rw [List.map_append]
      refine List.nodup_append.mpr ⟨hnd, by simp, fun u hu1 v hv e5 => ?_⟩
      have : v = k := by simpa using hv
      exact hni (by rw [← this, ← e5]; exact hu1)
    have keys : ∀ y ∈ vs ++ [(k, x)], knd.is y.1 y.2 = true ∧ y.2.scannable = true ∧ plainKind y.2 = true := fun y hy => by
      rcases List.mem_append.mp hy with z | z
      · exact hx y z
      · cases List.mem_singleton.mp z
        exact ⟨hkey, hsc, hpk⟩
    have full := full_iff k1
    rw [Array.length_toList, hsz1, p3] at full
    rw [Bool.not_false, Bool.true_and, full]
    have nf := hk.nf
    rw [Array.length_toList, hsz] at nf
    by_cases hfull : t.mask * 3 ≤ (vs.length + 1) * 5
    · rw [decide_eq_true hfull, if_pos rfl]
      obtain ⟨t', es2, r1, r2, r3, r4, r5⟩ := relay_ok (t := (t.put e).1) (ea := es1) k1 (by rw [p3, hsz1]; exact hfull) (by rw [p3, hsz1]; omega) (by omega)
      rw [r1]
      dsimp only
      have r7 : es2.size = es1.size := by have := r4.length_eq; rw [Array.length_toList, Array.length_toList] at this; exact this
      refine wpAny_bind (wpAny_pure ?_)
      refine wpAny_bind (wpAny_storeSet_of g1 rfl ?_ (by rw [r7]; exact sl))
      have g2 : ((s.heap.update a (Obj.putSet es1 (t.put e).1)).update a (Obj.putSet es2 t')).get? a = some { o with data := .set es2 (ep + 1 + 1) t' } := by
        have := Heap.get?_update_self (Obj.putSet es2 t') g1 (by rw [putSet_of es2 t' rfl]; rfl)
        rw [putSet_of es2 t' rfl] at this; exact this
      have sb2 := sb1.trans (Heap.SameBut.update (s.heap.update a (Obj.putSet es1 (t.put e).1)) a (Obj.putSet es2 t'))
      refine wpAny_pure (wpAny_pure (q _ _ sb2 ?_))
      rw [ax]
      exact ⟨_, es2, ep + 1 + 1, t', g2, hex, rfl, r5, by rw [r2, p2]; exact hl, by rw [r3, p1]; exact hpl, r4.trans hp1, nd1, keys⟩
    · rw [decide_eq_false hfull, if_neg (by decide)]
      refine wpAny_pure (wpAny_pure (q _ _ sb1 ?_))
      rw [ax]
      exact ⟨_, es1, ep + 1, (t.put e).1, g1, hex, rfl, ⟨k1, by rw [Array.length_toList, hsz1, p3]; omega⟩, by rw [p2]; exact hl, by rw [p1]; exact hpl, hp1, nd1, keys⟩
end
end Tb
namespace Tb
open PySem PySem.SetTable
section
variable {prog : Program} {w : World} {K : Type} [DecidableEq K] {knd : KeyKind prog w K} {A : Around} {E : Value → Shared → Prop} {s : Shared}
def metV (l : List (K × Value)) : List (K × Value) := l.foldl (fun vs x => addV vs x.1 x.2) []
theorem metV_snoc (l : List (K × Value)) (x : K × Value) : metV (l ++ [x]) = addV (metV l) x.1 x.2 := by
  unfold metV
  rw [List.foldl_append]
  rfl
theorem metV_len : ∀ (n : Nat) (l : List (K × Value)), l.length = n → (metV l).length ≤ n
  | 0, l, h => by rw [List.length_eq_zero_iff.mp h]; exact Nat.le_refl _
  | n + 1, l, h => by
    obtain ⟨r, x, rfl⟩ : ∃ r x, l = r ++ [x] := ⟨l.dropLast, l.getLast (by intro z; rw [z] at h; cases h), (List.dropLast_concat_getLast _).symm⟩
    have h2 := metV_len n r (by rw [List.length_append] at h; exact Nat.succ.inj h)
    rw [metV_snoc]
    unfold addV
    split
    · omega
    · rw [List.length_append]; exact Nat.succ_le_succ h2
theorem metV_mem : ∀ (n : Nat) (l : List (K × Value)), l.length = n → ∀ k, k ∈ (metV l).map (·.1) ↔ k ∈ l.map (·.1)
  | 0, l, h => by rw [List.length_eq_zero_iff.mp h]; exact fun k => Iff.rfl
  | n + 1, l, h => by
    obtain ⟨r, x, rfl⟩ : ∃ r x, l = r ++ [x] := ⟨l.dropLast, l.getLast (by intro z; rw [z] at h; cases h), (List.dropLast_concat_getLast _).symm⟩
    have ih := metV_mem n r (by rw [List.length_append] at h; exact Nat.succ.inj h)
    intro k
    rw [metV_snoc, List.map_append, List.mem_append]
    unfold addV
    split
    · rename_i hin
      rw [ih]
      refine ⟨.inl, fun z => z.elim id fun z => ?_⟩
      rw [show k = x.1 by simpa using z]
      exact (ih x.1).mp hin
    · rw [List.map_append, List.mem_append, ih]
theorem VSet.at {h h' : Heap} {a : Addr} {led : Bool} {vs : List (K × Value)} (S : VSet knd h a led vs) (k : ∀ o, h.get? a = some o → h'.get? a = some o) : VSet knd h' a led vs := by
  obtain ⟨o, es, ep, t, ho, r⟩ := S
  exact ⟨o, es, ep, t, k o ho, r⟩
def ComeV (knd : KeyKind prog w K) (items : List (K × Value)) : Prop := ∀ x ∈ items, knd.is x.1 x.2 = true ∧ x.2.scannable = true ∧ plainKind x.2 = true
theorem vset_loop {R : Result → Shared → Prop} {I : Addr} {fp wr : List Addr} {G : Array GenState → Array GenState → Prop} {P : Nat → Value → Prop} {St : Nat → Shared → Prop} {items : List (K × Value)} (W : WalksS prog w A.in1 I fp wr G items.length P St) (S : Addr) (hSf : S ∉ fp) (led : Bool)
    (hval : ∀ i v, P i v → ∃ x, items[i]? = some x ∧ v = x.2) (hb : items.length ≤ 60) (hc : ComeV knd items) :
    ∀ (k i : Nat) (s : Shared), items.length - i = k → i ≤ items.length → St i s → VSet knd s.heap S led (metV (items.take i)) →
      (∀ s', Moved (S :: wr) G s s' → VSet knd s'.heap S led (metV items) → R (.ok (.ret .none)) s') →
      codeAny (model prog w) A (.builtin "set.update.loop" (Args.mk [.ref S, .ref I] [])) R s := by
  have nw : S ∉ wr := fun h => hSf (W.sub _ h)
  have up : ∀ b ∈ wr, b ∈ S :: wr := fun b hb => List.mem_cons_of_mem _ hb
  intro k
  induction k with
  | zero =>
    intro i s hk hi hst hS hR
    obtain rfl : i = items.length := by omega
    refine codeAny_builtin PyProof.Rows.F.entry_set_update_loop ?_
    rw [Around.under_plainId PyProof.Rows.F.plain_set_update_loop _]
    show wpAny _ A.in1 (pyNext (.ref I) >>= fun _ => _) _ _ s
    refine wpAny_bind (W.done s _ _ hst fun s' hm => ?_)
    rw [List.take_length] at hS
    exact wpAny_pure (hR s' (hm.mono up) (hS.at fun o e => hm.heap S _ nw e))
  | succ k ih =>
    intro i s hk hi hst hS hR
    have hlt : i < items.length := by omega
    refine codeAny_builtin PyProof.Rows.F.entry_set_update_loop ?_
    rw [Around.under_plainId PyProof.Rows.F.plain_set_update_loop _]
    show wpAny _ A.in1 (pyNext (.ref I) >>= fun _ => _) _ _ s
    refine wpAny_bind (W.item i s _ _ hlt hst fun v s' hP hst' hm => ?_)
    obtain ⟨x, hx, rfl⟩ := hval i v hP
    obtain ⟨c1, c2, c3⟩ := hc x (List.mem_of_getElem? hx)
    have hS' : VSet knd s'.heap S led (metV (items.take i)) := hS.at fun o e => hm.heap S _ nw e
    show wpAny _ A.in1 (holding [x.2] (setAdd S x.2) >>= fun _ => _) _ _ s'
    refine wpAny_bind (wpAny_holding ?_)
    unfold setAdd
    refine wpAny_holding (wpAny_bind (knd.pyHash c1 ?_))
    have ml := metV_len _ (items.take i) rfl
    rw [List.length_take] at ml
    refine vset_add (s := { s' with toks := s'.toks + 1 }) hS' c1 c2 c3 (by omega) fun b h' hsb hS2 => ?_
    have et : items.take (i + 1) = items.take i ++ [x] := by rw [List.take_add_one, hx]; rfl
    have hS3 : VSet knd h' S led (metV (items.take (i + 1))) := by rw [et, metV_snoc]; exact hS2
    have kp : ∀ c o, c ≠ S → s'.heap.get? c = some o → h'.get? c = some o := fun c o nc e => (hsb.2 c nc).trans e
    refine wpAny_pure ⟨plainId_quiet PyProof.Rows.F.plain_set_update_loop _, ih (i + 1) _ (by omega) hlt (W.frame _ s' _ _ hst' (Nat.le_add_right _ _) fun c hc0 o e => kp c o (fun z => hSf (z ▸ hc0)) e) hS3 fun s'' hm'' hS'' => ?_⟩
    exact hR s'' (Moved.trans W.gtrans ((hm.mono up).then_heap (Nat.le_add_right _ _) fun c o hc0 e => kp c o (fun z => hc0 (by rw [z]; exact List.mem_cons_self)) e) hm'') hS''
theorem vset_fresh {h : Heap} {a : Addr} (P : Params) (e : h.get? a = some (freshO P)) : VSet knd h a (!P.followText "set-order") [] :=
  ⟨_, #[], 0, _, e, ⟨rfl, rfl, rfl⟩, rfl, sok_fresh 0 0 _, rfl, rfl, List.Perm.refl _, .nil, fun _ hx => nomatch hx⟩
set_option maxHeartbeats 3200000 in
theorem call_set_vals {l : Addr} {vs : Array Value} {items : List (K × Value)} {Q : Value → Shared → Prop} (hh : A.handled = none) (hl : s.heap.IsList l vs) (hi : vs.toList = items.map fun x => x.2) (hb : items.length ≤ 60) (hc : ComeV knd items)
    (q : ∀ (h' : Heap) (tk : Nat), VSet knd h' s.heap.objs.size (!w.params.followText "set-order") (metV items) → (∀ b o, b < s.heap.objs.size → s.heap.get? b = some o → h'.get? b = some o) → Q (.ref s.heap.objs.size) { s with heap := h', toks := tk }) :
    wpAny (model prog w) A (call (.type "set") [.ref l]) Q E s := by
  obtain ⟨c, tl, hmro⟩ := PySem.F.called_set.mro
  have hmade := PySem.F.called_set.made
  have hsub := PySem.F.called_set.sub
  refine wpAny_call (codeAny_of_tree (show wpAny _ _ (callAny (.type "set") _) _ _ _ from ?_))
  refine wpAny_pure ⟨Code.quiet_builtin _ (by decide +kernel), codeAny_builtin PySem.F.entry_type_call ?_⟩
  rw [Around.under_plain (weight_type_call_type "set" [.ref l] []) rfl]
  have h1 := PySem.F.called_set.notType
  have h2 := PySem.F.called_set.canCreate
  have hct := PySem.F.typeCall_set_1 (.ref l)
  repeat (any_goals (first | assumption | wp_step))
  refine codeAny_mono (set_new (.ref l) (E := E) (Q := fun obj s₁ => obj = .ref s.heap.objs.size ∧ s₁ = { s with heap := s.heap.push (freshO w.params) }) ⟨rfl, rfl⟩) fun r s₁ hr => ?_
  cases r with
  | error e => exact hr
  | ok fl =>
    cases fl with
    | ret obj =>
      obtain ⟨rfl, rfl⟩ := hr
      have eS : (s.heap.push (freshO w.params)).get? s.heap.objs.size = some (freshO w.params) := Heap.get?_push_size _ rfl
      have hT : Shared.TypeIs { s with heap := s.heap.push (freshO w.params) } (.ref s.heap.objs.size) "set" := ⟨_, eS, rfl⟩
      have hli := PySem.F.called_set.init.lookup
      have hbi := PySem.F.called_set.init.bind (.ref s.heap.objs.size)
      repeat (any_goals (first | assumption | wp_step))
      refine codeAny_mono (codeAny_call_builtin (R := wants (fun r s₂ => r = .none ∧ ∃ h' tk, s₂ = { s with heap := h', toks := tk } ∧ VSet knd h' s.heap.objs.size (!w.params.followText "set-order") (metV items) ∧
          (∀ b o, b < s.heap.objs.size → s.heap.get? b = some o → h'.get? b = some o)) E) PySem.F.called_set.init.plain PySem.F.entry_set_init (check_set_init_1 hT ?_)) fun r₂ s₂ hr₂ => ?_
      · obtain ⟨ol, e0, hcl, nl, hdl⟩ := hl
        obtain ⟨ocls, odict, odata, oslots⟩ := ol
        simp only at hcl hdl
        subst hcl; subst hdl
        have e1 : (s.heap.push (freshO w.params)).get? l = some { cls := .type "list", dict := odict, data := .seq vs nl, slots := oslots } := Heap.get?_push_of_some _ e0
        have hsls := PySem.F.sub_list_set
        have hslf := PySem.F.sub_list_frozenset
        have nd : (Value.type "list" == Value.type "dict") = false := by decide
        have l1 : (s.heap.push (freshO w.params)).IsList l vs := ⟨_, e1, rfl, nl, rfl⟩
        unfold Builtin.«set.__init__» noKeywords Builtin.Frozenset.updateFrom
        generalize hJ : pyIter = J0
        wp_walk
        subst hJ
        refine wpAny_pyIter_list l1 (wpAny_bind (wpAny_runValue ?_))
        have lS : l < s.heap.objs.size := Heap.lt_size e0
        have h3 : A.in1.in1.in1.handled = none := by simp [hh]
        have eI : (s.heap.push (freshO w.params)).objs.size = s.heap.objs.size + 1 := Heap.size_push ..
        have nI : l ≠ (s.heap.push (freshO w.params)).objs.size := by rw [eI]; exact Nat.ne_of_lt (Nat.lt_succ_of_lt lS)
        have nS : s.heap.objs.size ∉ [(s.heap.push (freshO w.params)).objs.size, l] := by
          rw [eI]
          simp only [List.mem_cons, List.not_mem_nil, or_false, not_or]
          exact ⟨Nat.ne_of_lt (Nat.lt_succ_self _), Nat.ne_of_gt lS⟩
        have sz : vs.size = items.length := by rw [← Array.length_toList, hi, List.length_map]
        have W := (Walks.list (prog := prog) (w := w) h3 _ l nI vs).toS
        rw [sz] at W
        refine vset_loop (knd := knd) (items := items) W s.heap.objs.size nS (!w.params.followText "set-order") (fun i v hv => ?_) hb hc items.length 0 _ (Nat.sub_zero _) (Nat.zero_le _)
          ⟨⟨_, Heap.get?_push_size _ rfl, rfl, rfl⟩, l1.push _⟩ (vset_fresh w.params (Heap.get?_push_of_some _ eS)) fun s' hm hS' => ?_
        · have hv' : vs.toList[i]? = some v := by rw [Array.getElem?_toList]; exact hv
          rw [hi, List.getElem?_map] at hv'
          obtain ⟨x, ex, rfl⟩ := Option.map_eq_some_iff.mp hv'
          exact ⟨x, ex, rfl⟩
        · obtain ⟨h', g', d', tk', os'⟩ := s'
          obtain rfl : g' = s.gens := hm.gens
          obtain rfl : d' = s.drawn := hm.drawn
          obtain rfl : os' = s.os := hm.os
          show wpAny _ _ _ _ _ _
          refine wpAny_pure (show wpAny _ _ (ret Value.none) _ _ _ from wpAny_pure ⟨rfl, h', tk', rfl, hS', fun b o hb0 e => ?_⟩)
          refine hm.heap b o ?_ (Heap.get?_push_of_some _ (Heap.get?_push_of_some _ e))
          rw [eI]
          simp only [List.mem_cons, List.not_mem_nil, or_false, not_or]
          exact ⟨Nat.ne_of_lt hb0, Nat.ne_of_lt (Nat.lt_succ_of_lt hb0)⟩
      · cases r₂ with
        | error e => exact hr₂
        | ok fl₂ =>
          cases fl₂ with
          | ret r =>
            obtain ⟨rfl, h', tk, rfl, hS', hk'⟩ := hr₂
            repeat (any_goals (first | assumption | wp_step))
            exact q _ _ hS' hk'
          | _ => exact hr₂.elim
    | _ => exact hr.elim
end
end Tb
set_option maxHeartbeats 1000000
namespace L2
open PySem PySem.Spec PyProof.Rows PySem.W Tb
section
variable {X : Cx} {pins : List (Addr × Obj)} {σ : St} {H : Hp} {s : Shared}
def SrtOf (ns ns' : List Int) : Prop := ns'.Perm ns ∧ ns'.Pairwise (· ≤ ·)
theorem sorted_restI {vs : List Value} {ns : List Int} {Q : VK} {E : Value → Shared → Prop} (I : Inv X pins σ H s) (hI : IntsAre vs ns) (h64 : vs.length < 64)
    (q : ∀ l ns', H l = none → SrtOf ns ns' → Q (.ref l) (upd H l (.lst (ns'.map V.int)))) :
    wpAny (model X.prog X.w) X.A.in1 (newList vs >>= fun l => holding [l] (call (.builtin "list.sort") [l] []) >>= fun _ => ret l) (fun fin s' => ∃ v, fin = .done (.ret v) ∧ EP X pins σ Q v s') E s := by
  have zl : vs.length ≤ sizeLine := by rw [sizeLine_eq]; omega
  refine wpAny_bind (wpAny_newList ?_ zl)
  have oL : (s.heap.push (seqObj "list" vs.toArray 0)).get? s.heap.objs.size = some (seqObj "list" vs.toArray 0) := Heap.get?_push_size _ rfl
  have hnone : H s.heap.objs.size = none := I.hok.fresh (Nat.le_refl _)
  refine wpAny_bind (wpAny_holding (wpAny_call_entry slot_list_sort ⟨_, oL, rfl⟩ entry_list_sort (list_sort_tree (s := { s with heap := s.heap.push (seqObj "list" vs.toArray 0) }) oL hI h64 fun out ns' a1 a2 a3 => ⟨_, rfl, ?_⟩) (args_list_sort _)))
  refine wpAny_pure ⟨_, rfl, ?_⟩
  obtain ⟨e, he⟩ := sortedHeap_at (out := out) oL
  have lv : vs.length = ns.length := by have := (vals_ints hI).length; rw [List.length_map] at this; exact this.symm
  refine ⟨.ref s.heap.objs.size, _, I.laid (a := s.heap.objs.size) (o := .lst (ns'.map V.int)) (t' := s.toks) (fun b o eb => ?_) (Nat.le_refl _) ?_, rfl, q _ ns' hnone ⟨a2, a3⟩⟩
  · have lt := Heap.lt_size eb
    rw [sortedHeap_old (Nat.ne_of_lt lt) (by rw [Heap.size_push]; exact Nat.lt_succ_of_lt lt)]
    exact Heap.get?_push_of_some _ eb
  · exact ⟨by rw [List.length_map, a2.length_eq, sizeLine_eq]; omega, out.toList, e, vals_ints a1, he⟩
end
theorem call_sortedI {X : Cx} : CallR X (.builtin "sorted") (fun xs H Q => ∃ (p : Addr) (ns : List Int), xs = [.ref p] ∧ SqL X.K H p (ns.map V.int) ∧ ns.length < 64 ∧ ∀ l ns', H l = none → SrtOf ns ns' → Q (.ref l) (upd H l (.lst (ns'.map V.int)))) := by
  intro pins s σ H xs us Q I r h
  obtain ⟨p, ns, rfl, hq, h64, q⟩ := h
  obtain ⟨u, rfl, rx⟩ := vals1 r
  cases (show u = Value.ref p from rx)
  obtain ⟨its, rv, pl, hz⟩ := I.list hq
  have l1 := rv.length
  rw [List.length_map] at l1
  refine Calls.call_function_entry kind_sorted plain_sorted entry_sorted (args_sorted1 _) ?_
  unfold Builtin.«sorted»
  refine wpAny_bind (m := checkCount "sorted" 1 1 _) (wpAny_pure (wpAny_bind (collect_list pl.isList ?_ (by rw [sizeLine_eq]; omega))))
  refine sorted_restI (I.kept (t' := s.toks) (h' := (s.heap.push (seqObj "list" #[] 0)).update s.heap.objs.size (Obj.mapSeq (· ++ its.toArray))) fun b o e => ?_) (intsAre_of rv) (by omega) q
  exact (Heap.get?_update_other _ _ (Nat.ne_of_gt (Heap.lt_size e))).trans (Heap.get?_push_of_some _ e)
def Fq (a : Addr) (o : Obj) : HO := .ext fun h => h.get? a = some o
def SetI (P : Program) (w : World) (o : Obj) (xs : List (Int × Value)) : Prop :=
  ∃ es ep t, o.ExactSet ∧ o.data = .set es ep t ∧ SOk t es.toList ∧ t.led = !w.params.followText "set-order" ∧ t.plain = true ∧ es.toList.Perm (xs.map fun x => ((intKind P w).hash x.1, x.2)) ∧ (xs.map (·.1)).Nodup ∧ ∀ x ∈ xs, ∃ t, x.2 = Value.int x.1 t
section
variable {X : Cx}
theorem call_setI (hc : X.calm = true) : CallR X (.type "set") (fun xs H Q => ∃ (p : Addr) (ns : List Int), xs = [.ref p] ∧ SqL X.K H p (ns.map V.int) ∧ ns.length ≤ 60 ∧
    ∀ a o ys, H a = none → SetI X.prog X.w o ys → (∀ n, n ∈ ys.map (·.1) ↔ n ∈ ns) → Q (.ref a) (upd H a (Fq a o))) := by
  intro pins s σ H xs us Q I r h
  obtain ⟨p, ns, rfl, hq, h60, q⟩ := h
  obtain ⟨u, rfl, rx⟩ := vals1 r
  cases (show u = Value.ref p from rx)
  obtain ⟨its, rv, pl, hz⟩ := I.list hq
  obtain ⟨items, ei, en, hi⟩ : ∃ items : List (Int × Value), its = items.map (·.2) ∧ ns = items.map (·.1) ∧ ∀ x ∈ items, ∃ t, x.2 = Value.int x.1 t := by
    clear pl hz hq q h60 r
    induction ns generalizing its with
    | nil => cases rv; exact ⟨[], rfl, rfl, fun x hx => nomatch hx⟩
    | cons n ns ih =>
      cases rv with
      | cons r1 r2 =>
        obtain ⟨t, rfl⟩ := r1
        obtain ⟨items, e1, e2, h3⟩ := ih _ r2
        exact ⟨(n, .int n t) :: items, by rw [e1]; rfl, by rw [e2]; rfl, fun x hx => (List.mem_cons.mp hx).elim (fun z => ⟨t, by rw [z]⟩) (h3 x)⟩
  have hcm : ComeV (intKind X.prog X.w) items := fun x hx => by
    obtain ⟨t, e⟩ := hi x hx
    rw [e]
    exact ⟨intKind_is _ _ _ _, rfl, rfl⟩
  refine call_set_vals (knd := intKind X.prog X.w) (items := items) (I.ok.hd hc) pl.isList ei (by rw [en, List.length_map] at h60; exact h60) hcm fun h' tk hS hk => ?_
  obtain ⟨o, es, ep, t, ho, hex, hd, hk1, hl, hp, h1, h2, h3⟩ := hS
  have hn : H s.heap.objs.size = none := I.hok.fresh (Nat.le_refl _)
  refine ⟨.ref s.heap.objs.size, _, I.laid (a := s.heap.objs.size) (o := Fq s.heap.objs.size o) (t' := tk) (fun b ob e => hk b ob (Heap.lt_size e) e) (Nat.le_refl _) ⟨ho, ⟨_, ho⟩, fun g1 g2 p k => k _ p⟩, rfl, q _ o (metV items) hn ⟨es, ep, t, hex, hd, hk1, hl, hp, h1, h2, fun x hx => ?_⟩ fun n => ?_⟩
  · exact Value.isInt_shape (h3 x hx).1
  · rw [en]
    exact metV_mem _ items rfl n
theorem perm_inv {α β : Type} (f : α → β) : ∀ {xs : List α} {l : List β}, l.Perm (xs.map f) → ∃ ys : List α, ys.Perm xs ∧ l = ys.map f
  | [], l, h => ⟨[], List.Perm.refl _, List.Perm.eq_nil h⟩
  | x :: xs, l, h => by
    have hm : f x ∈ l := h.symm.mem_iff.mp List.mem_cons_self
    obtain ⟨s, t, rfl⟩ := List.append_of_mem hm
    have h2 : (s ++ t).Perm (xs.map f) := List.Perm.cons_inv (List.perm_middle.symm.trans h)
    obtain ⟨ys, p, e⟩ := perm_inv f h2
    have e1 : (ys.take s.length).map f = s := by rw [List.map_take, ← e, List.take_left]
    have e2 : (ys.drop s.length).map f = t := by rw [List.map_drop, ← e, List.drop_left]
    refine ⟨ys.take s.length ++ x :: ys.drop s.length, ?_, by rw [List.map_append, List.map_cons, e1, e2]⟩
    refine List.perm_middle.trans (List.Perm.cons x ?_)
    rw [List.take_append_drop]
    exact p
theorem call_sortedSI (hc : X.calm = true) : CallR X (.builtin "sorted") (fun xs H Q => ∃ a o items, xs = [.ref a] ∧ H a = some (Fq a o) ∧ SetI X.prog X.w o items ∧ items.length < 64 ∧ ∀ l ns', H l = none → SrtOf (items.map (·.1)) ns' → Q (.ref l) (upd H l (.lst (ns'.map V.int)))) := by
  intro pins s σ H xs us Q I r h
  obtain ⟨a, o, items, rfl, ha, ⟨es, ep, t, hex, hd, hk, hl, hp, pm, ndp, hv⟩, h64, q⟩ := h
  obtain ⟨u, rfl, rx⟩ := vals1 r
  cases (show u = Value.ref a from rx)
  obtain ⟨ho, _⟩ := (show ObjOk X.prog X.w H s.heap a (Fq a o) from I.hok a _ ha)
  have hsz : es.size = items.length := by have := pm.length_eq; rw [Array.length_toList, List.length_map] at this; exact this
  refine Calls.call_function_entry kind_sorted plain_sorted entry_sorted (args_sorted1 _) ?_
  unfold Builtin.«sorted»
  refine wpAny_bind (m := checkCount "sorted" 1 1 _) (wpAny_pure (wpAny_bind (set_collect (A := X.A.in1) (I.ok.hd hc) ⟨⟨o, ho, hex, hd⟩, hk, hl, hp⟩ (by rw [hsz, sizeLine_eq]; omega) fun h' tk k' => ?_)))
  obtain ⟨ys, p1, e1⟩ := perm_inv (fun x : Int × Value => ((intKind X.prog X.w).hash x.1, x.2)) ((walk_perm X.w.params a ep es).trans pm)
  have e2 : (walkO X.w.params a ep es).toList.map (·.2) = ys.map (·.2) := by rw [e1, List.map_map]; rfl
  rw [e2]
  have rv : Vals ((ys.map (·.1)).map V.int) (ys.map (·.2)) := by
    have hy : ∀ x ∈ ys, ∃ t, x.2 = Value.int x.1 t := fun x hx => hv x (p1.mem_iff.mp hx)
    clear e1 e2 p1
    induction ys with
    | nil => exact .nil
    | cons y r ih => exact .cons (hy y List.mem_cons_self) (ih fun x hx => hy x (List.mem_cons_of_mem _ hx))
  refine sorted_restI (I.kept (t' := tk) k') (intsAre_of rv) (by rw [List.length_map, p1.length_eq]; exact h64) fun l ns' hl2 hs => q l ns' hl2 ⟨hs.1.trans (p1.map _), hs.2⟩
end
end L2
set_option maxHeartbeats 1000000
namespace St
open PySem PySem.Spec PyProof.Rows L2 Lo Km PySem.NumText
def tEx {ι : Type} (t : ι → TE) : TE := fun σ H Q => ∃ i, t i σ H Q
theorem pe_ex {X : Cx} {e : Expr} {ι : Type} {t : ι → TE} (h : ∀ i, PE X e (t i)) : PE X e (tEx t) := fun pins s σ H Q I q => by
  obtain ⟨i, q⟩ := q
  exact h i pins s σ H Q I q
abbrev Stp := Wd × List Int
def StsP (CW : Wd → Addr) (H : Hp) (xs : List Stp) (us : List V) : Prop := Paired (fun (x : Stp) v => StO CW H x.1 x.2 v) xs us
theorem StsP.keep {CW : Wd → Addr} {H H' : Hp} {xs : List Stp} {us : List V} (e : Same H H') (h : StsP CW H xs us) : StsP CW H' xs us := Paired.mapP h fun _ _ z => z.keep e
def ArS (xs : List Stp) : Prop := ∀ x ∈ xs, Ar x.1 x.2
def sx (x : Stp) : Str := txt x.1 x.2
def pf (m : Str) (sl tp : Addr) : List (Str × V) := putF "parts" (.ref tp) (putF "steps" (.ref sl) (putF "manner" (.str m) []))
theorem pf_p (m : Str) (sl tp : Addr) : (pf m sl tp).lookup ("parts" : Str) = some (.ref tp) := lk_hit
theorem pf_s (m : Str) (sl tp : Addr) : (pf m sl tp).lookup ("steps" : Str) = some (.ref sl) := by
  unfold pf
  rw [lk_miss (by decide +kernel), lk_hit]
theorem pf_m (m : Str) (sl tp : Addr) : (pf m sl tp).lookup ("manner" : Str) = some (.str m) := by
  unfold pf
  rw [lk_miss (by decide +kernel), lk_miss (by decide +kernel), lk_hit]
theorem pf_no {m : Str} {sl tp : Addr} {f : Str} (h1 : ¬ f = "parts") (h2 : ¬ f = "steps") (h3 : ¬ f = "manner") : (pf m sl tp).lookup f = none := by
  unfold pf
  rw [lk_miss h1, lk_miss h2, lk_miss h3]
  rfl
structure PaU (CP : Addr) (CW : Wd → Addr) (H : Hp) (m : Str) (xs : List Stp) (a dx sl tp : Addr) (us : List V) : Prop where
  ins : H a = some (.ins CP dx (pf m sl tp))
  sl : H sl = some (.lst us)
  tp : H tp = some (.tup us)
  st : StsP CW H xs us
theorem PaU.keep {CP : Addr} {CW : Wd → Addr} {H H' : Hp} {m : Str} {xs : List Stp} {a dx sl tp : Addr} {us : List V} (e : Same H H') (h : PaU CP CW H m xs a dx sl tp us) : PaU CP CW H' m xs a dx sl tp us := ⟨e _ _ h.ins, e _ _ h.sl, e _ _ h.tp, h.st.keep e⟩
def PaO (CP : Addr) (CW : Wd → Addr) (H : Hp) (m : Str) (xs : List Stp) (v : V) : Prop := ∃ a dx sl tp us, v = .ref a ∧ PaU CP CW H m xs a dx sl tp us
structure TxP (K : PySem.W.Frag) (CP : Addr) : Prop where
  cl : Cls K CP
  nm : NoAttr K CP "manner"
  ns : NoAttr K CP "steps"
  np : NoAttr K CP "parts"
def ptx (m : Str) (xs : List Stp) : Str := m ++ Str.ofString " " ++ Str.join (Str.ofString "; ") (xs.map sx)
theorem txt_short {x : Stp} (h : Ar x.1 x.2) : (sx x).length ≤ 1000 := by
  obtain ⟨wd, ns⟩ := x
  have e2 : (txt wd ns).cps.toList = joinC 32 ((wS wd :: ns.map iS).map fun y => y.cps.toList) := by
    unfold txt
    rw [sep_eq]
    exact join_one_cs 32 _
  have e3 : (txt wd ns).length = (txt wd ns).cps.toList.length := by simp [Str.length]
  have h1 := joinC_len 32 ((wS wd :: ns.map iS).map fun y => y.cps.toList)
  have h2 := words_sum (w := wd) (ns := ns) h
  have e4 : ((wS wd :: ns.map iS).map fun y => y.cps.toList).map (·.length) = (wS wd :: ns.map iS).map (·.length) := by
    rw [List.map_map]
    refine List.map_congr_left fun y _ => ?_
    simp [Str.length]
  have e5 : (Str.ofString " ").length = 1 := by decide +kernel
  rw [e4, List.length_map] at h1
  rw [e5, Nat.mul_one] at h2
  show (txt wd ns).length ≤ 1000
  rw [e3, e2]
  omega
theorem join_len (y : Str) : ∀ ys : List Str, (Str.join y ys).length ≤ (ys.map (·.length)).sum + ys.length * y.length
  | [] => Nat.zero_le _
  | [x] => by simp [Str.join]
  | a :: u :: ys => by
    have ih := join_len y (u :: ys)
    rw [join_cons_cons]
    have e : (a ++ y ++ Str.join y (u :: ys)).length = a.length + y.length + (Str.join y (u :: ys)).length := by
      show ((a.cps ++ y.cps) ++ (Str.join y (u :: ys)).cps).size = _
      rw [Array.size_append, Array.size_append]
      rfl
    rw [e, List.map_cons, List.sum_cons, List.length_cons (a := a), Nat.succ_mul]
    omega
theorem sep2 : Str.ofString "; " = ⟨#[59, 32]⟩ := by decide +kernel
theorem sx_sum {xs : List Stp} (h : ArS xs) : ((xs.map sx).map (·.length)).sum ≤ xs.length * 1000 := by
  have := sum_le (ys := xs.map sx) (k := 1000) fun y hy => by
    obtain ⟨x, hx, rfl⟩ := List.mem_map.mp hy
    exact txt_short (h x hx)
  rw [List.length_map] at this
  exact this
theorem join_short {xs : List Stp} (h : ArS xs) (hl : xs.length ≤ 20) : (Str.join (Str.ofString "; ") (xs.map sx)).length ≤ 30000 := by
  have h1 := join_len (Str.ofString "; ") (xs.map sx)
  have h2 := sx_sum h
  have e : (Str.ofString "; ").length = 2 := by decide +kernel
  rw [e, List.length_map] at h1
  omega
theorem sx_59 (x : Stp) : 59 ∉ (sx x).cps.toList := by
  obtain ⟨wd, ns⟩ := x
  have e2 : (txt wd ns).cps.toList = joinC 32 ((wS wd :: ns.map iS).map fun y => y.cps.toList) := by
    unfold txt
    rw [sep_eq]
    exact join_one_cs 32 _
  show 59 ∉ (txt wd ns).cps.toList
  rw [e2]
  have key : ∀ ls : List (List Nat), (∀ l ∈ ls, 59 ∉ l) → 59 ∉ joinC 32 ls := by
    intro ls
    induction ls with
    | nil => intro _ h; cases h
    | cons a r ih =>
      intro h hm
      cases r with
      | nil => exact h a List.mem_cons_self hm
      | cons b r =>
        rcases List.mem_append.mp (show 59 ∈ a ++ 32 :: joinC 32 (b :: r) from hm) with z | z
        · exact h a List.mem_cons_self z
        · rcases List.mem_cons.mp z with z | z
          · cases z
          · exact ih (fun l hl => h l (List.mem_cons_of_mem _ hl)) z
  refine key _ fun l hl => ?_
  obtain ⟨y, hy, rfl⟩ := List.mem_map.mp hl
  rcases List.mem_cons.mp hy with rfl | hy
  · cases wd <;> decide +kernel
  · obtain ⟨i, _, rfl⟩ := List.mem_map.mp hy
    rw [iS_cs]
    intro z
    rcases num_in z with z | z <;> omega
theorem split_ptx {xs : List Stp} (h0 : xs ≠ []) : Txt.split (Str.join (Str.ofString "; ") (xs.map sx)) (Str.ofString "; ") = xs.map sx := by
  rw [sep2]
  rw [split_two (c := 59) (d := 32) (ps := (xs.map sx).map fun y => y.cps.toList) (by decide) (by decide) (by decide) (join_two_cs 59 32 _) (by simp [h0]) fun p hp => by
    obtain ⟨y, hy, rfl⟩ := List.mem_map.mp hp
    obtain ⟨x, _, rfl⟩ := List.mem_map.mp hy
    exact sx_59 x]
  rw [List.map_map]
  have e3 : ((fun p : List Nat => (⟨p.toArray⟩ : Str)) ∘ fun y : Str => y.cps.toList) = id := by
    funext y
    obtain ⟨a⟩ := y
    simp
  rw [e3, List.map_id]
def mS (b : Bool) : Str := if b then "walked" else "held"
theorem mS_32 (b : Bool) : 32 ∉ (mS b).cps.toList := by cases b <;> decide +kernel
theorem mS_len (b : Bool) : (mS b).length ≤ 6 := by cases b <;> decide +kernel
theorem part_ptx (b : Bool) (xs : List Stp) : Txt.partition (ptx (mS b) xs) (Str.ofString " ") = (mS b, Str.ofString " ", Str.join (Str.ofString "; ") (xs.map sx)) := by
  rw [sep_eq]
  have e : (ptx (mS b) xs).cps.toList = (mS b).cps.toList ++ 32 :: (Str.join (Str.ofString "; ") (xs.map sx)).cps.toList := by
    unfold ptx
    rw [sep_eq]
    show (((mS b).cps ++ #[32]) ++ (Str.join (Str.ofString "; ") (xs.map sx)).cps).toList = _
    rw [Array.toList_append, Array.toList_append]
    simp
  rw [part_at e (mS_32 b)]
section
variable (CP : Addr) (CW : Wd → Addr)
def spPInit : Sp := fun vs H Q _ => ∃ l dx m q us, vs = [.ref l, .str m, .ref q] ∧ H l = some (.ins CP dx []) ∧ H q = some (.lst us) ∧ ∀ sl tp H', H' l = some (.ins CP dx (pf m sl tp)) → H' sl = some (.lst us) → H' tp = some (.tup us) → H sl = none → H tp = none → Kp l H H' → Q .non H'
def spPSp : Sp := fun vs H Q _ => ∃ v b xs, vs = [v] ∧ PaO CP CW H (mS b) xs v ∧ ArS xs ∧ xs.length ≤ 20 ∧ ∀ H', Same H H' → Q (.str (ptx (mS b) xs)) H'
def spRPart : Sp := fun vs H Q _ => ∃ x k, vs = [.str (sx x), .int k] ∧ Ar x.1 x.2 ∧ ∀ v H', Same H H' → StO CW H' x.1 x.2 v → Q v H'
def spRPact : Sp := fun vs H Q _ => ∃ b xs, vs = [.str (ptx (mS b) xs)] ∧ ArS xs ∧ xs ≠ [] ∧ xs.length ≤ 12 ∧ ∀ a dx sl tp us H', Same H H' → H sl = none → PaU CP CW H' (mS b) xs a dx sl tp us → Q (.ref a) H'
def hvI : V → Option Int
  | .int i => some i
  | _ => none
def hsOf (xs : List Stp) : List Int := xs.filterMap fun x => hvI (houseV x.1 x.2)
def HsIs (xs : List Stp) (ns : List Int) : Prop := ns.Nodup ∧ ns.Pairwise (· ≤ ·) ∧ ∀ n, n ∈ ns ↔ n ∈ hsOf xs
theorem HsIs.one {xs : List Stp} {a b : List Int} (ha : HsIs xs a) (hb : HsIs xs b) : a = b :=
  (((List.perm_ext_iff_of_nodup ha.1 hb.1).mpr fun n => (ha.2.2 n).trans (hb.2.2 n).symm).eq_of_pairwise (fun _ _ _ _ h1 h2 => Int.le_antisymm h1 h2) ha.2.1 hb.2.1)
def spHouses : Sp := fun vs H Q _ => ∃ v b xs, vs = [v] ∧ PaO CP CW H (mS b) xs v ∧ ArS xs ∧ xs.length ≤ 20 ∧ ∀ t ns H', Same H H' → H' t = some (.tup (ns.map V.int)) → HsIs xs ns → Q (.ref t) H'
def turnOf (xs : List Stp) : Nat := xs.findIdx fun x => decide (x.1 = .give)
def spTurn : Sp := fun vs H Q _ => ∃ v b xs, vs = [v] ∧ PaO CP CW H (mS b) xs v ∧ xs.length ≤ 20 ∧ Q (.int (turnOf xs : Nat)) H
end
end St
namespace L2
open PySem PySem.Spec PyProof.Rows
set_option maxHeartbeats 1600000 in
theorem ps_lcset {X : Cx} {iy : Nat} {y : Str} {py spos : Pos} {elt iter : Expr} {x : Str} {px : Pos} {ifs : List Expr} {scope : Scope} {pos : Pos} {N' : List Str} {fv : List Nat} {wi : TI} {tt : TT} {te : TE}
    (S : BlkScope X.N X.env.scope scope x N' fv) (hc : X.calm = true) (hi : PI X (.Name x px) iter wi)
    (ht : ∀ C fp s H, PTs (X.blk N' scope C fp s H) ifs tt) (he : ∀ C fp s H, PE (X.blk N' scope C fp s H) elt te)
    (hN : X.N.Nodup) (hiy : X.N[iy]? = some y) (hxl : Loc X.env.scope y) (hsw : swapsWith (.ListComp elt [⟨.Name x px, iter, ifs, 0⟩] scope pos) (some (.Name y py)) spos.line X.env = pure true := by rfl)
    (hs : ∀ x, foldedSetIterable iter X.env x = pure x := by intro _; rfl) (hf : X.fn y = true ∨ X.env.scope.names.lookup y = some .local := by first | exact .inl rfl | exact .inr rfl | assumption) :
    PS X (.Assign [.Name y py] (.ListComp elt [⟨.Name x px, iter, ifs, 0⟩] scope pos) spos) (tAsg (tLC wi fv tt te) (gName iy)) := by
  intro pins s σ H DE I h
  rw [exec_Assign_Name_used _ _ _ _ hsw]
  refine wpAny_bind (wpAny_standAt (wpAny_bind ?_))
  show wpAny _ X.A (do let _ ← comprehension (.ListComp elt [⟨.Name x px, iter, ifs, 0⟩] scope pos) scope X.env _ (newList []) false (eval iter X.env) (some (assign (.Name y py) X.env))) _ _ s
  refine wpAny_bind (wpAny_mono (wpAny_comprehension_free (use := some (assign (.Name y py) X.env)) (Q := fun _ s' => SP X pins DE .next s') rfl hs (closureFor_free fun y hy hk => I.ok.has y.1 (S.free y hy hk)) S.kind S.names
    (wpAny_mono (hi pins s σ H _ I h) (fun xv s1 h1 => wpAny_mono h1 (fun itv s2 h2 => ?_) fun _ _ e => e) fun _ _ e => e)) (fun _ s' hq => wpAny_pure (wpAny_pure hq)) fun _ _ e => e)
  obtain ⟨it, fp, tn, J, H2, rfl, I2, T, st2, f2, W, n, w0, hn, turn⟩ := h2
  refine wpAny_newObj_type (wpAny_newFunctionEnv S.nocell (by intro y hy; simp at hy) (fun h1 hns hsb => ?_) S.kind)
  dsimp only at hns hsb ⊢
  generalize hH : s2.heap.push { cls := .type "list", dict := none, data := .seq ([] : List Value).toArray } = G at hns hsb ⊢
  have hG : G.objs.size = s2.heap.objs.size + 1 := by rw [← hH, Heap.size_push]
  have kpG : ∀ b o, s2.heap.get? b = some o → G.get? b = some o := fun b o e => hH ▸ Heap.get?_push_of_some _ e
  have kp1 : ∀ b o, b < G.objs.size → G.get? b = some o → h1.get? b = some o := fun b o lt e => hsb.extBut b o (Nat.ne_of_lt lt) (Heap.get?_push_of_some _ e)
  have kp : ∀ b o, s2.heap.get? b = some o → h1.get? b = some o := fun b o e => kp1 b o (by rw [hG]; exact Nat.lt_succ_of_lt (Heap.lt_size e)) (kpG b o e)
  have hD : h1.PlainList s2.heap.objs.size #[] := ⟨_, kp1 _ _ (by rw [hG]; exact Nat.lt_succ_self _) (hH ▸ Heap.get?_push_size _ rfl)⟩
  have hDC : s2.heap.objs.size ≠ G.objs.size := by rw [hG]; exact Nat.ne_of_lt (Nat.lt_succ_self _)
  have hC : s2.heap.objs.size ≤ G.objs.size := by rw [hG]; exact Nat.le_succ _
  have hfo : ∀ b ∈ fp, b < s2.heap.objs.size := fun b hb => by obtain ⟨o, e, _⟩ := T.obj 0 _ st2 b hb; exact Heap.lt_size e
  have stat : ∀ {H' : Hp} {pl : List (Addr × Obj)}, (∀ b ∈ fp, H' b = none) → (∀ p ∈ pl, p.1 ∉ fp) → ∀ b ∈ fp, FpOk (X.blk N' scope G.objs.size fp s2 H2) pl H' b := fun {H' pl} hn hpl b hb => by
    obtain ⟨_, g1, g2, g3, g4, g5⟩ := f2 b hb
    refine ⟨hn b hb, Nat.ne_of_lt (Nat.lt_of_lt_of_le (hfo b hb) hC), fun z => ?_, .inl hb, fun y c e => g4 y c (cloOf_lookup_sub e), fun p hp e => ?_⟩
    · rcases List.mem_cons.mp (I2.stkSub b z) with q | q
      · exact g1 q
      · exact g2 q
    · exact hpl p hp (e ▸ hb)
  have hDf : s2.heap.objs.size ∉ fp := fun z => absurd (hfo _ z) (Nat.lt_irrefl _)
  have hlc : (X.blk N' scope G.objs.size fp s2 H2).env.scope.names.lookup x = some .local := lookup_relabel_local S.loc
  have hcl : ∀ y c, (X.blk N' scope G.objs.size fp s2 H2).env.cells.lookup y = some c → c ≠ s2.heap.objs.size := fun y c e z => by
    obtain ⟨v, q⟩ := I2.cell y c (cloOf_lookup_sub e)
    exact absurd q.lt (by rw [z]; exact Nat.lt_irrefl _)
  have pin1 : ∀ {s' : Shared} {H' : Hp} {ob : Obj} {i : Nat} {ys : List V}, Inv (X.blk N' scope G.objs.size fp s2 H2) [] (none :: blkVals fv σ) H' s' → s'.heap.get? s2.heap.objs.size = some ob → (∀ v, ob.data ≠ .cell v) → H' s2.heap.objs.size = none →
      Inv (X.blk N' scope G.objs.size fp s2 H2) [(s2.heap.objs.size, ob)] (none :: blkVals fv σ) H' s' := fun {s' H' ob i ys} J1 e d f => J1.pins_of fun p hp => by
    have z : p = (s2.heap.objs.size, ob) := by simpa using hp
    subst z
    refine ⟨e, f, hDC, fun z => ?_, d⟩
    rcases List.mem_cons.mp (I2.stkSub _ z) with q | q
    · exact absurd I2.lt (by rw [← q]; exact Nat.lt_irrefl _)
    · exact I2.nofs (Nat.le_refl _) q
  have loop : ∀ s3 : Shared, s3 = { s2 with heap := h1, toks := s2.toks + ([] : List (Str × Value)).length } →
      codeAny (model X.prog X.w) X.A (.compLoop (.ListComp elt [⟨.Name x px, iter, ifs, 0⟩] scope pos) 0 (.ref it) (.ref s2.heap.objs.size) (X.blk N' scope G.objs.size fp s2 H2).env)
        (compPost (model X.prog X.w) X.A X.xe (some (assign (.Name y py) X.env)) (fun _ s' => SP X pins DE .next s') (.ref s2.heap.objs.size) G.objs.size) s3 := by
    rintro s3 rfl
    refine codeAny_compLoop_tests (fun k s' => ∃ i ys H' its, k = n + 1 - i ∧ i ≤ n ∧ ys.length ≤ i ∧ Vals ys its ∧ s'.heap.PlainList s2.heap.objs.size its.toArray ∧
      Inv (X.blk N' scope G.objs.size fp s2 H2) [] (none :: blkVals fv σ) H' s' ∧ H' s2.heap.objs.size = none ∧ tn i s'.heap ∧ (∀ b ∈ fp, H' b = none) ∧ W i ys H') ?_ (n + 1)
      ⟨0, [], H2, [], rfl, Nat.zero_le _, Nat.le_refl _, .nil, hD, blk_inv S I2 f2 hfo hC kp hns (fun p hp => nomatch hp), I2.hok.fresh (Nat.le_refl _), T.keep _ _ _ st2 fun b _ o e => kp b o e, fun b hb => (f2 b hb).1, w0⟩
    rintro k s4 ⟨i, ys, H4, its, rfl, hin, hyi, rv, pl4, I4, fD4, st4, ff4, w4⟩
    obtain ⟨cnt, eD⟩ := id pl4
    have I4p := pin1 (i := i) (ys := ys) I4 eD (fun v z => by cases z) fD4
    have np : ∀ p ∈ [(s2.heap.objs.size, ({ cls := .type "list", data := .seq its.toArray cnt } : Obj))], p.1 ∉ fp := fun p hp => by
      have z : p = (s2.heap.objs.size, ({ cls := .type "list", data := .seq its.toArray cnt } : Obj)) := by simpa using hp
      subst z; exact hDf
    rcases turn i ys H4 w4 with ⟨stop, fin⟩ | ⟨go, hi2, step⟩
    · refine wpAny_mono (T.done (X.blk N' scope G.objs.size fp s2 H2) rfl rfl rfl hc i _ s4 _ H4 _ I4p (stat ff4 np) st4 stop) (fun r s5 ⟨hr, I5⟩ => ?_) fun _ _ e => e
      subst hr
      obtain ⟨m5, hm5, _⟩ := I5.loc
      have eD5 : s5.heap.get? s2.heap.objs.size = some { cls := .type "list", data := .seq its.toArray cnt } := (I5.pin _ (List.mem_append_right _ List.mem_cons_self)).1
      have IF : Inv X pins σ (upd H4 s2.heap.objs.size (.lst ys)) s5 := by
        have sb : Heap.SameBut G.objs.size s5.heap s5.heap := ⟨rfl, fun _ _ => rfl⟩
        have ltC : ∀ {b : Addr} {o : Obj}, s2.heap.get? b = some o → b ≠ G.objs.size := fun {b o} e => Nat.ne_of_lt (Nat.lt_of_lt_of_le (Heap.lt_size e) hC)
        have fD2 : H2 s2.heap.objs.size = none := I2.hok.fresh (Nat.le_refl _)
        have ltD : ∀ {b : Addr} {o : Obj}, s2.heap.get? b = some o → b ≠ s2.heap.objs.size := fun {b o} e => Nat.ne_of_lt (Heap.lt_size e)
        have B := I5.base
        refine I2.call' (s' := s5) (ch := fp) I5.os ⟨fun b o e nb hb hx => ?_, fun b o e nb hb hx => ?_, fun b o e nb hx => ?_, fun b o e hx => ?_, fun b xs e => ?_, fun b o u e => ?_, fun b ps e => ?_⟩ ?_ I5.bare fun b hb => ?_
        · exact sb.extBut b o (ltC e) (B.keep b o e nb hb hx)
        · obtain ⟨sl, q⟩ := B.slot b o e nb hb hx
          exact ⟨sl, sb.extBut b _ (ltC e) q⟩
        · rw [upd_ne (ltD e)]; exact B.free b o e nb hx
        · obtain ⟨o', q⟩ := B.there b o e hx
          exact ⟨o', sb.extBut b o' (ltC e) q⟩
        · have e' : H2 b = some (.tup xs) := e
          rw [upd_ne (ne_of_none e' fD2)]; exact B.tups b xs e
        · have e' : H2 b = some (.frz o u) := e
          rw [upd_ne (ne_of_none e' fD2)]; exact B.frzs b o u e
        · have e' : H2 b = some (.tbl ps) := e
          rw [upd_ne (ne_of_none e' fD2)]; exact B.tbls b ps e
        · intro b u e
          by_cases hb : b = s2.heap.objs.size
          · subst hb
            rw [upd_same] at e
            cases e
            exact ⟨Nat.le_trans hyi (Nat.le_trans hin hn), its, cnt, rv, sb.extBut _ _ hDC eD5⟩
          · rw [upd_ne hb] at e
            have fC : H4 G.objs.size = none := I5.free
            refine (I5.hok b u e).stay (fun c v hc' q => sb.extBut c v ?_ q) (fun c q => by rw [upd_ne (ne_of_none q fD4)]; exact q) fun c xs q => by rw [upd_ne (ne_of_none q fD4)]; exact q
            rcases hc' with z | z
            · subst z; exact ne_of_none e fC
            · exact ne_of_none z fC
        · obtain ⟨_, g1, g2, g3, g4, g5⟩ := f2 b hb
          exact ⟨g3, g1, g4, g5⟩
      obtain ⟨f0, f1, f2', f3, f4, f5⟩ := I2.fpOk (H' := H2) hC (I2.hok.fresh hC)
      show wpAny _ _ (assign (.Name y py) X.env (.ref s2.heap.objs.size)) _ _ s5
      refine wpAny_assign_Name (store_ok2 IF hN hiy hxl (v := .ref s2.heap.objs.size) rfl (fun s6 I6 ⟨a6, sb6, ha6⟩ => ?_) hf)
      have nC : G.objs.size ≠ a6 := fun z => by
        rcases ha6 with e | e
        · exact f1 (z.trans e)
        · exact f4 _ _ e z.symm
      have fC : (upd H4 s2.heap.objs.size (.lst ys)) G.objs.size = none := by
        rw [upd_ne (Ne.symm hDC)]
        exact I5.free
      exact ⟨m5, hm5.sameBut sb6 nC, fun h' sb' => ⟨_, _, I6.turned (t' := s6.toks) (it := G.objs.size) (fun b o hb e => (sb'.2 b hb).trans e) fC f1 f3 f4 f5, fin _ fD4⟩⟩
    · refine wpAny_mono (T.item (X.blk N' scope G.objs.size fp s2 H2) rfl rfl rfl hc i _ s4 _ H4 _ I4p (stat ff4 np) st4 go) (fun r s5 ⟨u, hr, h5⟩ => ?_) fun _ _ e => e
      subst hr
      show wpAny _ _ (letOwnedTupleGo (.Name x px) (.ref it) u >>= fun _ => assign (.Name x px) (X.blk N' scope G.objs.size fp s2 H2).env u) _ _ s5
      refine wpAny_bind (wpAny_mono h5 (fun _ s6 ⟨xv, H6, I6, r6, y6, st6, ff6⟩ => ?_) fun _ _ e => e)
      have I6' := I6.pinned (stat ff6 np) (T.obj _ _ st6)
      have out : ∀ {σ' : St} {H' : Hp} {s' : Shared}, Inv (X.blk N' scope G.objs.size fp s2 H2) ([(s2.heap.objs.size, ({ cls := .type "list", data := .seq its.toArray cnt } : Obj))] ++ pinsAt fp s6.heap) σ' H' s' →
          s'.heap.PlainList s2.heap.objs.size its.toArray ∧ H' s2.heap.objs.size = none ∧ (∀ b ∈ fp, H' b = none) ∧ (∀ b ∈ fp, ∀ o, s6.heap.get? b = some o → s'.heap.get? b = some o) := fun {σ' H' s'} J1 => by
        have q := J1.pin (s2.heap.objs.size, ({ cls := .type "list", data := .seq its.toArray cnt } : Obj)) (List.mem_append_right _ (List.mem_append_left _ List.mem_cons_self))
        refine ⟨⟨cnt, q.1⟩, q.2.1, fun b hb => ?_, fun b hb o e => (J1.pin (b, o) (List.mem_append_right _ (List.mem_append_right _ (mem_pinsAt hb e)))).1⟩
        obtain ⟨o, e, d⟩ := T.obj _ _ st6 b hb
        exact (J1.pin (b, o) (List.mem_append_right _ (List.mem_append_right _ (mem_pinsAt hb e)))).2.1
      refine nox ((pg_name (X := X.blk N' scope G.objs.size fp s2 H2) (i := 0) S.nd S.hd (.inl hlc) (.inr hlc)) _ s6 _ H6 xv u (fun σ' H' => σ' = some xv :: blkVals fv σ ∧ H' = H6) I6' r6 ⟨rfl, rfl⟩) fun _ s7 ⟨σ7, H7, I7, e7, e7'⟩ => ?_
      subst e7 e7'
      refine nox (ht _ _ _ _ _ s7 _ H7 _ I7 (step xv H7 y6)) fun ok s8 ⟨H8, I8, q8⟩ => ?_
      cases ok with
      | false =>
        obtain ⟨o1, o2, o3, o4⟩ := out I8
        exact ⟨n + 1 - (i + 1), by omega, i + 1, ys, H8, its, rfl, hi2, Nat.le_succ_of_le hyi, rv, o1, (I8.pins_of (pins' := []) fun p hp => nomatch hp).weak (σ' := none :: blkVals fv σ) rfl (fun j v e => by
          cases j with
          | zero => cases (show (none : Option V) = some v from Option.some.inj e)
          | succ j => exact e), o2, T.keep _ _ _ st6 o4, o3, q8⟩
      | true =>
        refine nox (he _ _ _ _ _ s8 _ H8 _ I8 q8) fun yv s9 ⟨y, H9, I9, r9, q9⟩ => ?_
        obtain ⟨o1, o2, o3, o4⟩ := out I9
        have hlen := rv.length
        refine wpAny_list_append_plain (hsz := by rw [List.size_toArray, ← hlen]; exact Nat.le_trans hyi (Nat.le_trans hin hn)) o1 fun h' pl' sb' => ?_
        have I9' : Inv (X.blk N' scope G.objs.size fp s2 H2) [] (some xv :: blkVals fv σ) H9 { s9 with heap := h' } :=
          (I9.pins_of (pins' := []) fun p hp => nomatch hp).turned (t' := s9.toks) (it := s2.heap.objs.size) (fun b o hb e => sb'.extBut b o hb e) o2 hDC (.inr (Nat.le_refl _)) hcl (fun p hp => nomatch hp)
        refine ⟨n + 1 - (i + 1), by omega, i + 1, ys ++ [y], H9, its ++ [yv], rfl, hi2, by rw [List.length_append]; exact Nat.succ_le_succ hyi, rv.append (.cons r9 .nil), ?_, I9'.weak (σ' := none :: blkVals fv σ) rfl (fun j v e => by
          cases j with
          | zero => cases (show (none : Option V) = some v from Option.some.inj e)
          | succ j => exact e), o2, T.keep _ _ _ st6 fun b hb o e => sb'.extBut b o (fun z => hDf (z ▸ hb)) (o4 b hb o e), o3, q9⟩
        have e9 : (its ++ [yv]).toArray = its.toArray.push yv := by simp
        rw [e9]
        exact pl'
  exact codeAny_compStart_list (loop _ rfl) (T.self _ 0 _ _ _ (T.keep _ _ _ st2 fun b _ o e => kp b o e) (loop _ rfl))
end L2
set_option maxHeartbeats 4000000
namespace K24
open PySem L2 Lo
def top (i : Nat) : Stmt := PySem.Challenge.pw_pactroom_k24_pacts_there_and_back.main.body.getD i (.Pass ⟨0, 0, 0, 0⟩)
abbrev s_is_whole : Stmt := top 14
abbrev s_shown : Stmt := top 15
abbrev s_read_thing : Stmt := top 16
abbrev s_is_sign : Stmt := top 17
abbrev m_Reader_init : Stmt := inClass (top 18) 0
abbrev m_Reader_passes : Stmt := inClass (top 18) 1
abbrev m_Reader_read_any : Stmt := inClass (top 18) 2
abbrev m_Reader_read_below : Stmt := inClass (top 18) 4
abbrev m_Reader_read_number : Stmt := inClass (top 18) 5
abbrev m_Reader_read_signs : Stmt := inClass (top 18) 6
abbrev m_Step_house : Stmt := inClass (top 22) 0
abbrev m_Step_sure : Stmt := inClass (top 22) 4
abbrev m_CellStep_init : Stmt := inClass (top 23) 0
abbrev m_CellStep_house : Stmt := inClass (top 23) 1
abbrev m_TakeStep_spelled : Stmt := inClass (top 24) 2
abbrev m_MeanStep_spelled : Stmt := inClass (top 25) 2
abbrev m_SumStep_init : Stmt := inClass (top 26) 0
abbrev m_SumStep_house : Stmt := inClass (top 26) 1
abbrev m_SumStep_spelled : Stmt := inClass (top 26) 4
abbrev m_GiveStep_sure : Stmt := inClass (top 27) 2
abbrev m_GiveStep_spelled : Stmt := inClass (top 27) 3
abbrev m_AddStep_init : Stmt := inClass (top 28) 0
abbrev m_AddStep_spelled : Stmt := inClass (top 28) 4
abbrev m_PlusStep_init : Stmt := inClass (top 29) 0
abbrev m_PlusStep_spelled : Stmt := inClass (top 29) 2
abbrev m_NeedStep_init : Stmt := inClass (top 30) 0
abbrev m_NeedStep_spelled : Stmt := inClass (top 30) 2
abbrev s_spell : Stmt := top 31
abbrev s_read_step : Stmt := top 32
abbrev s_read_number : Stmt := top 33
abbrev s_made_step : Stmt := top 34
abbrev s_made_sum : Stmt := top 35
abbrev m_Pact_init : Stmt := inClass (top 39) 0
abbrev m_Pact_spelled : Stmt := inClass (top 39) 1
abbrev s_read_pact : Stmt := top 40
abbrev s_read_part : Stmt := top 41
abbrev s_houses_of : Stmt := top 42
abbrev s_turning : Stmt := top 43
abbrev s__law_cell : Stmt := top 45
abbrev s__law_whole : Stmt := top 46
abbrev s__law_mixed : Stmt := top 47
abbrev s__law_number : Stmt := top 48
abbrev s__law_either : Stmt := top 49
abbrev s__law_step : Stmt := top 50
abbrev s__law_text : Stmt := top 51
abbrev s__law_houses : Stmt := top 52
abbrev s__law_turning : Stmt := top 53
abbrev s__law_right : Stmt := top 54
abbrev s_law : Stmt := top 55
theorem sc_Step_house : FnScope ["self"] ["self"] (defScope m_Step_house) := ⟨rfl, rfl, rfl, by decide +kernel, rfl, by decide +kernel, by decide +kernel⟩
theorem sc_Step_sure : FnScope ["self"] ["self"] (defScope m_Step_sure) := ⟨rfl, rfl, rfl, by decide +kernel, rfl, by decide +kernel, by decide +kernel⟩
theorem sc_CellStep_init : FnScope ["self", "where", "cell"] ["self", "where", "cell"] (defScope m_CellStep_init) := ⟨rfl, rfl, rfl, by decide +kernel, rfl, by decide +kernel, by decide +kernel⟩
theorem sc_CellStep_house : FnScope ["self"] ["self"] (defScope m_CellStep_house) := ⟨rfl, rfl, rfl, by decide +kernel, rfl, by decide +kernel, by decide +kernel⟩
theorem sc_TakeStep_spelled : FnScope ["self"] ["self"] (defScope m_TakeStep_spelled) := ⟨rfl, rfl, rfl, by decide +kernel, rfl, by decide +kernel, by decide +kernel⟩
theorem sc_MeanStep_spelled : FnScope ["self"] ["self"] (defScope m_MeanStep_spelled) := ⟨rfl, rfl, rfl, by decide +kernel, rfl, by decide +kernel, by decide +kernel⟩
theorem sc_SumStep_init : FnScope ["self", "where", "low", "high"] ["self", "where", "low", "high"] (defScope m_SumStep_init) := ⟨rfl, rfl, rfl, by decide +kernel, rfl, by decide +kernel, by decide +kernel⟩
theorem sc_SumStep_house : FnScope ["self"] ["self"] (defScope m_SumStep_house) := ⟨rfl, rfl, rfl, by decide +kernel, rfl, by decide +kernel, by decide +kernel⟩
theorem sc_SumStep_spelled : FnScope ["self"] ["self"] (defScope m_SumStep_spelled) := ⟨rfl, rfl, rfl, by decide +kernel, rfl, by decide +kernel, by decide +kernel⟩
theorem sc_GiveStep_sure : FnScope ["self"] ["self"] (defScope m_GiveStep_sure) := ⟨rfl, rfl, rfl, by decide +kernel, rfl, by decide +kernel, by decide +kernel⟩
theorem sc_GiveStep_spelled : FnScope ["self"] ["self"] (defScope m_GiveStep_spelled) := ⟨rfl, rfl, rfl, by decide +kernel, rfl, by decide +kernel, by decide +kernel⟩
theorem sc_AddStep_init : FnScope ["self", "where", "cell", "amount"] ["self", "where", "cell", "amount"] (defScope m_AddStep_init) := ⟨rfl, rfl, rfl, by decide +kernel, rfl, by decide +kernel, by decide +kernel⟩
theorem sc_AddStep_spelled : FnScope ["self"] ["self"] (defScope m_AddStep_spelled) := ⟨rfl, rfl, rfl, by decide +kernel, rfl, by decide +kernel, by decide +kernel⟩
theorem sc_PlusStep_init : FnScope ["self", "amount"] ["self", "amount"] (defScope m_PlusStep_init) := ⟨rfl, rfl, rfl, by decide +kernel, rfl, by decide +kernel, by decide +kernel⟩
theorem sc_PlusStep_spelled : FnScope ["self"] ["self"] (defScope m_PlusStep_spelled) := ⟨rfl, rfl, rfl, by decide +kernel, rfl, by decide +kernel, by decide +kernel⟩
theorem sc_NeedStep_init : FnScope ["self", "amount"] ["self", "amount"] (defScope m_NeedStep_init) := ⟨rfl, rfl, rfl, by decide +kernel, rfl, by decide +kernel, by decide +kernel⟩
theorem sc_NeedStep_spelled : FnScope ["self"] ["self"] (defScope m_NeedStep_spelled) := ⟨rfl, rfl, rfl, by decide +kernel, rfl, by decide +kernel, by decide +kernel⟩
theorem sc_spell : FnScope ["word", "numbers"] ["word", "numbers"] (defScope s_spell) := ⟨rfl, rfl, rfl, by decide +kernel, rfl, by decide +kernel, by decide +kernel⟩
def cm_spell_0 : Scope := match defBody s_spell with
  | .Return (some (.Call _ [(.BinOp _ _ (.ListComp _ _ sc _) _)] _ _)) _ :: _ => sc
  | _ => default
theorem sb_spell_0 : BlkScope ["word", "numbers"] (defScope s_spell) cm_spell_0 "number" ["number"] [] := ⟨by decide +kernel, rfl, by decide +kernel, rfl, by decide +kernel, by decide +kernel, rfl, rfl, fun j h => absurd h (Nat.not_lt_zero j)⟩
theorem sc_read_step : FnScope ["text", "words", "shape"] ["text"] (defScope s_read_step) := ⟨rfl, rfl, rfl, by decide +kernel, rfl, by decide +kernel, by decide +kernel⟩
def cm_read_step_0 : Scope := match defBody s_read_step with
  | _ :: _ :: _ :: .Return (some (.Call _ [_, .ListComp _ _ sc _] _ _)) _ :: _ => sc
  | _ => default
theorem sb_read_step_0 : BlkScope ["text", "words", "shape"] (defScope s_read_step) cm_read_step_0 "k" ["k", "words", "shape"] [1, 2] := ⟨by decide +kernel, rfl, by decide +kernel, rfl, by decide +kernel, by decide +kernel, rfl, rfl, by decide +kernel⟩
theorem sc_read_number : FnScope ["word", "letter", "number"] ["word", "letter"] (defScope s_read_number) := ⟨rfl, rfl, rfl, by decide +kernel, rfl, by decide +kernel, by decide +kernel⟩
theorem sc_made_step : FnScope ["word", "numbers"] ["word", "numbers"] (defScope s_made_step) := ⟨rfl, rfl, rfl, by decide +kernel, rfl, by decide +kernel, by decide +kernel⟩
theorem sc_made_sum : FnScope ["where", "low", "high"] ["where", "low", "high"] (defScope s_made_sum) := ⟨rfl, rfl, rfl, by decide +kernel, rfl, by decide +kernel, by decide +kernel⟩
theorem sc_Pact_init : FnScope ["self", "manner", "steps"] ["self", "manner", "steps"] (defScope m_Pact_init) := ⟨rfl, rfl, rfl, by decide +kernel, rfl, by decide +kernel, by decide +kernel⟩
theorem sc_Pact_spelled : FnScope ["self"] ["self"] (defScope m_Pact_spelled) := ⟨rfl, rfl, rfl, by decide +kernel, rfl, by decide +kernel, by decide +kernel⟩
def cm_Pact_spelled_0 : Scope := match defBody m_Pact_spelled with
  | .Return (some (.BinOp _ _ (.Call _ [.ListComp _ _ sc _] _ _) _)) _ :: _ => sc
  | _ => default
theorem sb_Pact_spelled_0 : BlkScope ["self"] (defScope m_Pact_spelled) cm_Pact_spelled_0 "step" ["step"] [] := ⟨by decide +kernel, rfl, by decide +kernel, rfl, by decide +kernel, by decide +kernel, rfl, rfl, fun j h => absurd h (Nat.not_lt_zero j)⟩
theorem sc_read_pact : FnScope ["text", "pieces", "texts"] ["text"] (defScope s_read_pact) := ⟨rfl, rfl, rfl, by decide +kernel, rfl, by decide +kernel, by decide +kernel⟩
def cm_read_pact_0 : Scope := match defBody s_read_pact with
  | _ :: _ :: _ :: _ :: .Return (some (.Call _ [_, .ListComp _ _ sc _] _ _)) _ :: _ => sc
  | _ => default
theorem sb_read_pact_0 : BlkScope ["text", "pieces", "texts"] (defScope s_read_pact) cm_read_pact_0 "k" ["k", "texts"] [2] := ⟨by decide +kernel, rfl, by decide +kernel, rfl, by decide +kernel, by decide +kernel, rfl, rfl, by decide +kernel⟩
theorem sc_read_part : FnScope ["text", "number"] ["text", "number"] (defScope s_read_part) := ⟨rfl, rfl, rfl, by decide +kernel, rfl, by decide +kernel, by decide +kernel⟩
theorem sc_houses_of : FnScope ["pact"] ["pact"] (defScope s_houses_of) := ⟨rfl, rfl, rfl, by decide +kernel, rfl, by decide +kernel, by decide +kernel⟩
def cm_houses_of_0 : Scope := match defBody s_houses_of with
  | .Return (some (.Call _ [(.Call _ [(.Call _ [.ListComp _ _ sc _] _ _)] _ _)] _ _)) _ :: _ => sc
  | _ => default
theorem sb_houses_of_0 : BlkScope ["pact"] (defScope s_houses_of) cm_houses_of_0 "step" ["step"] [] := ⟨by decide +kernel, rfl, by decide +kernel, rfl, by decide +kernel, by decide +kernel, rfl, rfl, fun j h => absurd h (Nat.not_lt_zero j)⟩
theorem sc_turning : FnScope ["pact", "k"] ["pact"] (defScope s_turning) := ⟨rfl, rfl, rfl, by decide +kernel, rfl, by decide +kernel, by decide +kernel⟩
theorem sc__law_cell : FnScope ["_law_script", "_law_k"] ["_law_script", "_law_k"] (defScope s__law_cell) := ⟨rfl, rfl, rfl, by decide +kernel, rfl, by decide +kernel, by decide +kernel⟩
theorem sc__law_whole : FnScope ["_law_found"] ["_law_found"] (defScope s__law_whole) := ⟨rfl, rfl, rfl, by decide +kernel, rfl, by decide +kernel, by decide +kernel⟩
theorem sc__law_mixed : FnScope ["_law_cell_here", "_law_k", "_law_number_here"] ["_law_cell_here", "_law_k"] (defScope s__law_mixed) := ⟨rfl, rfl, rfl, by decide +kernel, rfl, by decide +kernel, by decide +kernel⟩
theorem sc__law_number : FnScope ["_law_cell_here", "_law_k", "_law_number_here", "_law_j"] ["_law_cell_here", "_law_k"] (defScope s__law_number) := ⟨rfl, rfl, rfl, by decide +kernel, rfl, by decide +kernel, by decide +kernel⟩
theorem sc__law_either : FnScope ["_law_cell_here", "_law_k"] ["_law_cell_here", "_law_k"] (defScope s__law_either) := ⟨rfl, rfl, rfl, by decide +kernel, rfl, by decide +kernel, by decide +kernel⟩
theorem sc__law_step : FnScope ["_law_cell_here", "_law_word", "_law_where", "_law_one", "_law_other"] ["_law_cell_here"] (defScope s__law_step) := ⟨rfl, rfl, rfl, by decide +kernel, rfl, by decide +kernel, by decide +kernel⟩
theorem sc__law_text : FnScope ["_law_step_here"] ["_law_step_here"] (defScope s__law_text) := ⟨rfl, rfl, rfl, by decide +kernel, rfl, by decide +kernel, by decide +kernel⟩
def cm__law_text_0 : Scope := match defBody s__law_text with
  | .Return (some (.Call _ [(.BinOp _ _ (.ListComp _ _ sc _) _)] _ _)) _ :: _ => sc
  | _ => default
theorem sb__law_text_0 : BlkScope ["_law_step_here"] (defScope s__law_text) cm__law_text_0 "_law_number_here" ["_law_number_here"] [] := ⟨by decide +kernel, rfl, by decide +kernel, rfl, by decide +kernel, by decide +kernel, rfl, rfl, fun j h => absurd h (Nat.not_lt_zero j)⟩
theorem sc__law_houses : FnScope ["_law_steps", "_law_some", "_law_step_here"] ["_law_steps"] (defScope s__law_houses) := ⟨rfl, rfl, rfl, by decide +kernel, rfl, by decide +kernel, by decide +kernel⟩
theorem sc__law_turning : FnScope ["_law_steps", "_law_k"] ["_law_steps"] (defScope s__law_turning) := ⟨rfl, rfl, rfl, by decide +kernel, rfl, by decide +kernel, by decide +kernel⟩
theorem sc__law_right : FnScope ["_law_pact", "_law_manner", "_law_steps", "_law_houses_here", "_law_found"] ["_law_pact", "_law_manner", "_law_steps"] (defScope s__law_right) := ⟨rfl, rfl, rfl, by decide +kernel, rfl, by decide +kernel, by decide +kernel⟩
def cm__law_right_0 : Scope := match defBody s__law_right with
  | _ :: _ :: .If (.Compare (.ListComp _ _ sc _) _ _ _) _ _ _ :: _ => sc
  | _ => default
theorem sb__law_right_0 : BlkScope ["_law_pact", "_law_manner", "_law_steps", "_law_houses_here", "_law_found"] (defScope s__law_right) cm__law_right_0 "_law_step_here" ["_law_step_here"] [] := ⟨by decide +kernel, rfl, by decide +kernel, rfl, by decide +kernel, by decide +kernel, rfl, rfl, fun j h => absurd h (Nat.not_lt_zero j)⟩
def cm__law_right_1 : Scope := match defBody s__law_right with
  | _ :: _ :: .If (.Compare _ _ [.ListComp _ _ sc _] _) _ _ _ :: _ => sc
  | _ => default
theorem sb__law_right_1 : BlkScope ["_law_pact", "_law_manner", "_law_steps", "_law_houses_here", "_law_found"] (defScope s__law_right) cm__law_right_1 "_law_step_here" ["_law_step_here"] [] := ⟨by decide +kernel, rfl, by decide +kernel, rfl, by decide +kernel, by decide +kernel, rfl, rfl, fun j h => absurd h (Nat.not_lt_zero j)⟩
def cm__law_right_2 : Scope := match defBody s__law_right with
  | _ :: _ :: _ :: _ :: .If (.BoolOp _ [_, (.UnaryOp _ (.Call _ [.ListComp _ _ sc _] _ _) _)] _) _ _ _ :: _ => sc
  | _ => default
theorem sb__law_right_2 : BlkScope ["_law_pact", "_law_manner", "_law_steps", "_law_houses_here", "_law_found"] (defScope s__law_right) cm__law_right_2 "_law_one" ["_law_one"] [] := ⟨by decide +kernel, rfl, by decide +kernel, rfl, by decide +kernel, by decide +kernel, rfl, rfl, fun j h => absurd h (Nat.not_lt_zero j)⟩
theorem sc_law : FnScope ["_law_script", "_law_manner", "_law_steps", "_law_text_here", "_law_pact", "_law_handed", "_law_made"] ["_law_script"] (defScope s_law) := ⟨rfl, rfl, rfl, by decide +kernel, rfl, by decide +kernel, by decide +kernel⟩
def cm_law_0 : Scope := match defBody s_law with
  | _ :: .Assign _ (.ListComp _ _ sc _) _ :: _ => sc
  | _ => default
theorem sb_law_0 : BlkScope ["_law_script", "_law_manner", "_law_steps", "_law_text_here", "_law_pact", "_law_handed", "_law_made"] (defScope s_law) cm_law_0 "_law_cell_here" ["_law_cell_here"] [] := ⟨by decide +kernel, rfl, by decide +kernel, rfl, by decide +kernel, by decide +kernel, rfl, rfl, fun j h => absurd h (Nat.not_lt_zero j)⟩
def cm_law_1 : Scope := match defBody s_law with
  | _ :: _ :: _ :: .Assign _ (.BinOp _ _ (.Call _ [.ListComp _ _ sc _] _ _) _) _ :: _ => sc
  | _ => default
theorem sb_law_1 : BlkScope ["_law_script", "_law_manner", "_law_steps", "_law_text_here", "_law_pact", "_law_handed", "_law_made"] (defScope s_law) cm_law_1 "_law_step_here" ["_law_step_here"] [] := ⟨by decide +kernel, rfl, by decide +kernel, rfl, by decide +kernel, by decide +kernel, rfl, rfl, fun j h => absurd h (Nat.not_lt_zero j)⟩
def cm_law_2 : Scope := match defBody s_law with
  | _ :: _ :: _ :: _ :: _ :: _ :: .Assign _ (.ListComp _ _ sc _) _ :: _ => sc
  | _ => default
theorem sb_law_2 : BlkScope ["_law_script", "_law_manner", "_law_steps", "_law_text_here", "_law_pact", "_law_handed", "_law_made"] (defScope s_law) cm_law_2 "_law_step_here" ["_law_step_here"] [] := ⟨by decide +kernel, rfl, by decide +kernel, rfl, by decide +kernel, by decide +kernel, rfl, rfl, fun j h => absurd h (Nat.not_lt_zero j)⟩
end K24
set_option maxHeartbeats 4000000
namespace K24T
open PySem L2 Km PySem.NumText
abbrev sWhole : Stmt := K24.s_is_whole
abbrev sShown : Stmt := K24.s_shown
abbrev sRead : Stmt := K24.s_read_thing
abbrev sSign : Stmt := K24.s_is_sign
abbrev sInit : Stmt := K24.m_Reader_init
abbrev sPass : Stmt := K24.m_Reader_passes
abbrev sAny : Stmt := K24.m_Reader_read_any
abbrev sBelow : Stmt := K24.m_Reader_read_below
abbrev sNum : Stmt := K24.m_Reader_read_number
abbrev sSigns : Stmt := K24.m_Reader_read_signs
theorem tp : ¬ (("text" : Str) = "place") := by decide +kernel
def rf (z : Str) (k : Int) : List (Str × V) := putF "place" (.int k) (putF "text" (.str z) [])
theorem rf_eq (z : Str) (k : Int) : rf z k = ([("text", V.str z), ("place", V.int k)] : List (Str × V)) := by
  show (if ("text" : Str) = "place" then [(("text" : Str), V.int k)] else (("text" : Str), V.str z) :: putF "place" (V.int k) []) = ([("text", V.str z), ("place", V.int k)] : List (Str × V))
  rw [if_neg tp]
  all_goals rfl
theorem rf_text (z : Str) (k : Int) : (rf z k).lookup ("text" : Str) = some (.str z) := by
  unfold rf
  rw [lookup_putF, if_neg tp, lookup_putF, if_pos rfl]
theorem rf_place (z : Str) (k : Int) : (rf z k).lookup ("place" : Str) = some (.int k) := by
  unfold rf
  rw [lookup_putF, if_pos rfl]
theorem rf_no (z : Str) (k : Int) {m : Str} (h1 : ¬ m = "place") (h2 : ¬ m = "text") : (rf z k).lookup m = none := by
  unfold rf
  rw [lookup_putF, if_neg h1, lookup_putF, if_neg h2]
  all_goals rfl
theorem rf_put (z : Str) (k j : Int) : putF "place" (.int j) (rf z k) = rf z j := by
  rw [rf_eq, rf_eq]
  show (if ("text" : Str) = "place" then _ else (("text" : Str), V.str z) :: (if ("place" : Str) = "place" then [(("place" : Str), V.int j)] else _)) = ([("text", V.str z), ("place", V.int j)] : List (Str × V))
  rw [if_neg tp, if_pos rfl]
theorem rf_len (z : Str) (k : Int) : (rf z k).length = 2 := by rw [rf_eq]; rfl
structure Tx (K : PySem.W.Frag) (mg : Str → Option Value) (C : Addr) : Prop where
  cl : Cls K C
  nT : NoAttr K C "text"
  nP : NoAttr K C "place"
  mgC : mg "Reader" = some (.ref C)
  isi : mg "isinstance" = none
  int : mg "int" = none
  bool : mg "bool" = none
  str : mg "str" = none
  len : mg "len" = none
  ord : mg "ord" = none
  all : mg "all" = none
  range : mg "range" = none
  cFig : ∃ t, mg "MOST_FIGURES_things" = some (.int 400 t)
  cSig : ∃ t, mg "MOST_SIGNS" = some (.int 2000 t)
  cDeep : ∃ t, mg "MOST_DEEP" = some (.int 8 t)
  cLong : ∃ t, mg "LONGEST" = some (.int 100000 t)
  cBl : ∃ t, mg "BLANK" = some (.int 32 t)
  cPc : ∃ t, mg "PERCENT" = some (.int 37 t)
  cTi : ∃ t, mg "TILDE" = some (.int 126 t)
theorem gint {X : Cx} {x : Str} {i : Int} {pos : Pos} (hm : ∃ t, X.mg x = some (.int i t)) (hg : Gl X x) (hd : (x == ("__debug__" : Str)) = false := by decide) : PE X (.Name x pos) (tC (.int i)) := by
  obtain ⟨t, e⟩ := hm
  exact pe_glob hg e ⟨t, rfl⟩ hd
section
variable {K : PySem.W.Frag}
theorem kit_ii : PySem.W.kitOne K (.type "int") (.type "int") = some true := rfl
theorem kit_ss : PySem.W.kitOne K (.type "str") (.type "str") = some true := rfl
theorem kit_bb : PySem.W.kitOne K (.type "bool") (.type "bool") = some true := rfl
theorem kit_ib : PySem.W.kitOne K (.type "int") (.type "bool") = some false := by kernel_rfl
theorem kit_si : PySem.W.kitOne K (.type "str") (.type "int") = some false := by kernel_rfl
theorem kit_bi : PySem.W.kitOne K (.type "bool") (.type "int") = some true := by kernel_rfl
theorem kit_ni : PySem.W.kitOne K (.type "NoneType") (.type "int") = some false := by kernel_rfl
theorem kit_ti : PySem.W.kitOne K (.type "tuple") (.type "int") = some false := by kernel_rfl
end
section
variable {P : Program} {w : World} {K : PySem.W.Frag} {mg : Str → Option Value} {base : Heap} {f C : Addr} {fd : FuncData}
def wholeV (H : Hp) : V → Option Bool
  | .int _ => some true
  | .str _ => some false
  | .bl _ => some false
  | .non => some false
  | .ref a => match H a with
    | some (.tup _) => some false
    | _ => none
  | _ => none
def spWhole : Sp := fun vs H Q _ => ∃ x b, vs = [x] ∧ wholeV H x = some b ∧ Q (.bl b) H
theorem scWhole : FnScope ["thing"] ["thing"] (defScope sWhole) := ⟨rfl, rfl, rfl, by decide +kernel, rfl, by decide +kernel, by decide +kernel⟩
theorem ok_whole (F : Fun K "is_whole" "is_whole" sWhole f fd) (T : Tx K mg C) : FnOk P w K mg base CX0 1 f fd ["thing"] spWhole := by
  refine F.ok scWhole (fun vs H Q E h => ?_) (fun cdv A outer s H vs Q E hr h => ?_)
  · obtain ⟨x, b, rfl, _⟩ := h
    rfl
  obtain ⟨x, b, rfl, hb, q⟩ := h
  refine ⟨_, pss_one (ps_ret (pe_and (pe_callB call_isinst rfl T.isi PyProof.Rows.boot_isinstance (pa_cons (pv 0) (pa_cons (pe_bltn (v := .ty "int") rfl T.int PyProof.Rows.boot_int rfl) pa_nil)))
    (pe_one (pe_not (pe_callB call_isinst rfl T.isi PyProof.Rows.boot_isinstance (pa_cons (pv 0) (pa_cons (pe_bltn (v := .ty "bool") rfl T.bool PyProof.Rows.boot_bool rfl) pa_nil))))))), ?_⟩
  cases x with
  | int i =>
    cases (Option.some.inj hb)
    refine ⟨_, rfl, _, _, _, _, rfl, TyOf.int i, kit_ii, _, rfl, iteT ?_⟩
    exact ⟨_, rfl, _, _, _, _, rfl, TyOf.int i, kit_ib, _, rfl, q⟩
  | str z =>
    cases (Option.some.inj hb)
    exact ⟨_, rfl, _, _, _, _, rfl, TyOf.str z, kit_si, _, rfl, iteF q⟩
  | bl c =>
    cases (Option.some.inj hb)
    refine ⟨_, rfl, _, _, _, _, rfl, TyOf.bl c, kit_bi, _, rfl, iteT ?_⟩
    exact ⟨_, rfl, _, _, _, _, rfl, TyOf.bl c, kit_bb, _, rfl, q⟩
  | non =>
    cases (Option.some.inj hb)
    exact ⟨_, rfl, _, _, _, _, rfl, TyOf.non, kit_ni, _, rfl, iteF q⟩
  | ref a =>
    have hb' : (match H a with | some (.tup _) => some false | _ => none) = some b := hb
    cases e : H a with
    | none => rw [e] at hb'; cases hb'
    | some o =>
      rw [e] at hb'
      cases o with
      | tup xs =>
        cases (Option.some.inj hb')
        exact ⟨_, rfl, _, _, _, _, rfl, TyOf.tup e, kit_ti, _, rfl, iteF q⟩
      | _ => cases hb'
  | _ => cases hb
def shS (z : Str) : Str := Str.ofString (toString ((z.length : Nat) : Int)) ++ Str.ofString ":" ++ z
def spShown : Sp := fun vs H Q _ => (∃ i, vs = [.int i] ∧ i.natAbs.log2 < 1920 ∧ Q (.str (Str.ofString (toString i))) H) ∨ (∃ z, vs = [.str z] ∧ z.length ≤ 100000 ∧ Q (.str (shS z)) H)
theorem scShown : FnScope ["thing"] ["thing"] (defScope sShown) := ⟨rfl, rfl, rfl, by decide +kernel, rfl, by decide +kernel, by decide +kernel⟩
theorem len_len {n : Nat} (h : n ≤ 100000) : (Str.ofString (toString ((n : Nat) : Int))).length ≤ 20 := by
  have e : (Str.ofString (toString ((n : Nat) : Int))).cps.toList.length ≤ 6 := by
    rw [str_num]
    unfold numCs
    rw [if_neg (by omega)]
    exact digs_len (by decide) (by omega)
  have e2 : (Str.ofString (toString ((n : Nat) : Int))).length = (Str.ofString (toString ((n : Nat) : Int))).cps.toList.length := by simp [Str.length]
  omega
theorem e_cat {x y : Str} : (x ++ y).length = x.length + y.length := by
  show (x.cps ++ y.cps).size = _
  rw [Array.size_append]
  rfl
theorem line_big : 1000000 ≤ sizeLine := by decide
theorem ok_shown {fW : Addr} {dW : FuncData} (F : Fun K "shown" "shown" sShown f fd) (T : Tx K mg C) (GW : FnOk P w K mg base CX0 1 fW dW ["thing"] spWhole) (bW : Binds K dW ["thing"] []) (kW : PySem.W.keepIn K (.ref fW) = true) (mW : mg "is_whole" = some (.ref fW)) :
    FnOk P w K mg base CX0 2 f fd ["thing"] spShown := by
  refine F.ok scShown (fun vs H Q E h => ?_) (fun cdv A outer s H vs Q E hr h => ?_)
  · rcases h with ⟨i, rfl, _⟩ | ⟨z, rfl, _⟩ <;> rfl
  refine ⟨_, pss_cons (ps_if (pt_val (pe_call GW hr rfl mW kW bW .nil pass0 (pa_cons (pv 0) pa_nil))) (pss_one (ps_ret (pe_callTy call_str_int rfl T.str PyProof.Rows.boot_str (pa_cons (pv 0) pa_nil)))) pss_nil)
    (pss_cons (ps_if (pt_val (pe_callB call_isinst rfl T.isi PyProof.Rows.boot_isinstance (pa_cons (pv 0) (pa_cons (pe_bltn (v := .ty "str") rfl T.str PyProof.Rows.boot_str rfl) pa_nil))))
      (pss_one (ps_ret (pe_op op_add_str (pe_op op_add_str (pe_callTy call_str_int rfl T.str PyProof.Rows.boot_str (pa_cons (pe_callB call_len_str rfl T.len PySem.boot_len (pa_cons (pv 0) pa_nil)) pa_nil)) pe_str) (pv 0)))) pss_nil)
    pss_never), ?_⟩
  rcases h with ⟨i, rfl, hl, q⟩ | ⟨z, rfl, hl, q⟩
  · exact ⟨_, rfl, _, _, rfl, rfl, _, rfl, iteT ⟨_, rfl, _, rfl, hl, q⟩⟩
  · refine ⟨_, rfl, _, _, rfl, rfl, _, rfl, iteF ?_⟩
    refine ⟨_, rfl, _, _, _, _, rfl, TyOf.str z, kit_ss, _, rfl, iteT ?_⟩
    have h1 := len_len hl
    have h0 := line_big
    refine ⟨_, rfl, _, rfl, by omega, _, rfl, ?_, _, _, rfl, rfl, ?_, _, rfl, _, _, rfl, rfl, ?_, q⟩
    · exact log_ok (by
        exact Nat.lt_of_le_of_lt hl (by decide +kernel))
    · have : (Str.ofString ":").length = 1 := rfl
      omega
    · have : (Str.ofString ":").length = 1 := rfl
      have e : (Str.ofString (toString ((z.length : Nat) : Int)) ++ Str.ofString ":").length = (Str.ofString (toString ((z.length : Nat) : Int))).length + (Str.ofString ":").length := by rw [e_cat]
      omega
def spSign : Sp := fun vs H Q _ => ∃ c : Nat, vs = [.str ⟨#[c]⟩] ∧ Q (.bl (okSign c)) H
theorem scSign : FnScope ["sign", "number"] ["sign"] (defScope sSign) := ⟨rfl, rfl, rfl, by decide +kernel, rfl, by decide +kernel, by decide +kernel⟩
theorem ok_sign (F : Fun K "is_sign" "is_sign" sSign f fd) (T : Tx K mg C) : FnOk P w K mg base CX0 1 f fd ["sign"] spSign := by
  refine F.ok scSign (fun vs H Q E h => ?_) (fun cdv A outer s H vs Q E hr h => ?_)
  · obtain ⟨c, rfl, _⟩ := h
    rfl
  obtain ⟨c, rfl, q⟩ := h
  refine ⟨_, pss_cons (ps_set (i := 1) scSign.nd rfl (Or.inl rfl) (pe_callB call_ord rfl T.ord PyProof.Rows.boot_ord (pa_cons (pv 0) pa_nil)))
    (pss_one (ps_ret (pe_and (pe_chain op_le op_le (gint T.cBl rfl) (pv 1) (gint T.cTi rfl)) (pe_one (pe_cmpR op_ne (pv 1) (gint T.cPc rfl) (nomark _)))))), ?_⟩
  refine ⟨_, rfl, _, rfl, rfl, ?_⟩
  refine ⟨_, rfl, _, _, rfl, rfl, _, rfl, ?_⟩
  have e0 : ((({ cps := #[c] } : Str).cps.getD 0 0 : Nat) : Int) = (c : Int) := rfl
  unfold okSign at q
  by_cases h1 : 32 ≤ c
  · have d1 : decide ((32 : Int) ≤ (({ cps := #[c] } : Str).cps.getD 0 0 : Nat)) = true := decide_eq_true (by rw [e0]; omega)
    rw [d1]
    refine iteT ⟨_, _, rfl, rfl, _, rfl, ?_⟩
    by_cases h2 : c ≤ 126
    · have d2 : decide (((({ cps := #[c] } : Str).cps.getD 0 0 : Nat) : Int) ≤ 126) = true := decide_eq_true (by rw [e0]; omega)
      rw [d2]
      refine iteT ⟨_, rfl, rfl, ?_⟩
      have e3 : (!decide (V.int (({ cps := #[c] } : Str).cps.getD 0 0 : Nat) = V.int 37)) = (decide (32 ≤ c) && decide (c ≤ 126) && decide (c ≠ 37)) := by
        rw [decide_eq_true h1, decide_eq_true h2, dec_int, e0]
        by_cases h3 : c = 37
        · subst h3; rfl
        · have : ((c : Int) == 37) = false := beq_eq_false_iff_ne.mpr (by omega)
          rw [this, decide_eq_true h3]; rfl
      rw [e3]
      exact q
    · have d2 : decide (((({ cps := #[c] } : Str).cps.getD 0 0 : Nat) : Int) ≤ 126) = false := decide_eq_false (by rw [e0]; omega)
      rw [d2]
      refine iteF ?_
      rw [decide_eq_false h2, Bool.and_false, Bool.false_and] at q
      exact q
  · have d1 : decide ((32 : Int) ≤ (({ cps := #[c] } : Str).cps.getD 0 0 : Nat)) = false := decide_eq_false (by rw [e0]; omega)
    rw [d1]
    refine iteF ⟨_, rfl, iteF ?_⟩
    rw [decide_eq_false h1, Bool.false_and, Bool.false_and] at q
    exact q
def spInit (C : Addr) : Sp := fun vs H Q _ => ∃ p dx z, vs = [.ref p, .str z] ∧ H p = some (.ins C dx []) ∧ Q .non (upd (upd H p (.ins C dx (putF "text" (.str z) []))) p (.ins C dx (rf z 0)))
theorem scInit : FnScope ["self", "text"] ["self", "text"] (defScope sInit) := ⟨rfl, rfl, rfl, by decide +kernel, rfl, by decide +kernel, by decide +kernel⟩
theorem ok_init (F : Fun K "__init__" "Reader.__init__" sInit f fd) (T : Tx K mg C) : FnOk P w K mg base CX0 1 f fd ["self", "text"] (spInit C) := by
  refine F.ok scInit (fun vs H Q E h => ?_) (fun cdv A outer s H vs Q E hr h => ?_)
  · obtain ⟨p, dx, z, rfl, _⟩ := h
    rfl
  obtain ⟨p, dx, z, rfl, hp, q⟩ := h
  refine ⟨_, pss_cons (ps_fld (pv 0) (pv 1) rfl) (pss_one (ps_fld (pv 0) pe_int rfl)), ?_⟩
  exact ⟨_, rfl, _, rfl, p, C, dx, [], rfl, hp, T.cl, T.nT, (by show 0 < 1000; decide), _, rfl, p, C, dx, _, rfl, upd_same, T.cl, T.nP, (by show 1 < 1000; decide), q⟩
theorem starts_one (z : Str) (c k : Nat) : Txt.startswith3 z ⟨#[c]⟩ (k : Int) = decide (z.cps.toList[k]? = some c) := by
  have e1 : fromIndex z.length (k : Int) = k := by
    unfold fromIndex
    rw [if_neg (by omega)]
    omega
  unfold Txt.startswith3
  rw [e1]
  have e2 : (({ cps := #[c] } : Str)).length = 1 := rfl
  rw [e2]
  by_cases h : k < z.length
  · have h' : k < z.cps.size := h
    have e3 : Builtin.Str.subAt z ⟨#[c]⟩ k = (z.cps[k] == c) := by
      unfold Builtin.Str.subAt
      rw [e2]
      have e4 : z.cps.extract k (k + 1) = #[z.cps[k]] := by
        apply Array.ext
        · simp; omega
        · intro i h1 h2
          have : i = 0 := by simp at h2; omega
          subst this
          simp
      rw [e4]
      simp
    rw [e3]
    have e5 : decide (k + 1 ≤ z.length) = true := decide_eq_true h
    rw [e5, Bool.true_and]
    have e6 : z.cps.toList[k]? = some z.cps[k] := by rw [Array.getElem?_toList]; exact Array.getElem?_eq_getElem h'
    rw [e6]
    simp [Bool.beq_eq_decide_eq]
  · have e5 : decide (k + 1 ≤ z.length) = false := decide_eq_false (by omega)
    rw [e5, Bool.false_and]
    have e6 : z.cps.toList[k]? = none := by rw [Array.getElem?_toList]; exact Array.getElem?_eq_none (by show z.length ≤ k; omega)
    rw [e6]
    simp
def spPass (C : Addr) : Sp := fun vs H Q _ => ∃ p dx z c, ∃ k : Nat, vs = [.ref p, .str ⟨#[c]⟩] ∧ H p = some (.ins C dx (rf z k)) ∧ 
  (if z.cps.toList[k]? = some c then Q (.bl true) (upd H p (.ins C dx (rf z ((k + 1 : Nat) : Int)))) else Q (.bl false) H)
theorem scPass : FnScope ["self", "sign"] ["self", "sign"] (defScope sPass) := ⟨rfl, rfl, rfl, by decide +kernel, rfl, by decide +kernel, by decide +kernel⟩
theorem ok_pass (F : Fun K "passes" "Reader.passes" sPass f fd) (T : Tx K mg C) : FnOk P w K mg base CX0 1 f fd ["self", "sign"] (spPass C) := by
  refine F.ok scPass (fun vs H Q E h => ?_) (fun cdv A outer s H vs Q E hr h => ?_)
  · obtain ⟨p, dx, z, c, k, rfl, _⟩ := h
    rfl
  obtain ⟨p, dx, z, c, k, rfl, hp, q⟩ := h
  refine ⟨_, pss_cons (ps_if (pt_not (pt_val (pe_bm PySem.F.plainAttrs_str PySem.F.slot_str_startswith PySem.F.type_str_startswith mt_startswith3 (pe_fld (pv 0) rfl) (pa_cons (pv 1) (pa_cons (pe_fld (pv 0) rfl) pa_nil))))) (pss_one (ps_ret pe_bl)) pss_nil)
    (pss_cons (ps_fldaug (pv 0) pe_int in_add) (pss_one (ps_ret pe_bl))), ?_⟩
  refine ⟨_, rfl, p, C, dx, _, _, rfl, hp, T.cl, T.nT, rf_text _ _, rfl, _, rfl, _, rfl, p, C, dx, _, _, rfl, hp, T.cl, T.nP, rf_place _ _, _, _, _, rfl, rfl, _, rfl, ?_⟩
  rw [starts_one]
  by_cases hk : z.cps.toList[k]? = some c
  · rw [if_pos hk] at q
    rw [decide_eq_true hk]
    refine iteF ?_
    refine ⟨_, rfl, p, C, dx, _, _, rfl, hp, T.cl, T.nP, rf_place _ _, _, _, rfl, rfl, dx, _, hp, (by rw [rf_len]; decide), ?_⟩
    rw [rf_put]
    have e : ((k : Int) + 1) = ((k + 1 : Nat) : Int) := by omega
    rw [e]
    exact q
  · rw [if_neg hk] at q
    rw [decide_eq_false hk]
    exact iteT q
end
theorem str_ext {x y : Str} (h : x.cps.toList = y.cps.toList) : x = y := by
  obtain ⟨a⟩ := x
  obtain ⟨b⟩ := y
  have : a = b := Array.toList_inj.mp h
  rw [this]
theorem len_cps (z : Str) : z.length = z.cps.toList.length := by simp [Str.length]
theorem slice_mid {z : Str} {pre ds post : List Nat} (e : z.cps.toList = pre ++ ds ++ post) : Txt.slice z (some ((pre.length : Nat) : Int)) (some (((pre.length + ds.length : Nat)) : Int)) = ⟨ds.toArray⟩ := by
  have hl : z.cps.toList.length = pre.length + ds.length + post.length := by rw [e]; simp; omega
  have q := PyProof.Rows.slice_closes (x := z) (i := ((pre.length : Nat) : Int)) (j := ((pre.length + ds.length : Nat) : Int)) ⟨by omega, by omega, by omega⟩
  rw [eq_of_beq q]
  refine str_ext ?_
  have e1 : (((pre.length + ds.length : Nat) : Int) - ((pre.length : Nat) : Int)).toNat = ds.length := by omega
  have e2 : (((pre.length : Nat) : Int)).toNat = pre.length := by omega
  rw [e1, e2, e, List.append_assoc, List.drop_left, List.take_left]
theorem slice_mid' {z : Str} {pre ds post : List Nat} {i j : Int} (e : z.cps.toList = pre ++ ds ++ post) (hi : i = ((pre.length : Nat) : Int)) (hj : j = ((pre.length + ds.length : Nat) : Int)) : Txt.slice z (some i) (some j) = ⟨ds.toArray⟩ := by
  subst hi hj
  exact slice_mid e
theorem uni_dig : ∀ c : Nat, c < 128 → Unicode.isDigit c = isDig c := by decide +kernel
theorem isdigit_one {c : Nat} (h : c < 128) : Txt.isdigit ⟨#[c]⟩ = isDig c := by
  rw [← uni_dig c h]
  unfold Txt.isdigit
  simp [Str.length]
def NumDs (ds : List Nat) : Prop := AllDigits ds ∧ ds ≠ [] ∧ ds.length ≤ 400 ∧ (ds = [48] ∨ ∀ c r, ds = c :: r → c ≠ 48)
def Stops (post : List Nat) : Prop := ∀ c r, post = c :: r → c < 128 ∧ isDig c = false
def But (p : Addr) (H H' : Hp) : Prop := ∀ b o, H b = some o → b ≠ p → H' b = some o
theorem But.refl (p : Addr) (H : Hp) : But p H H := fun _ _ e _ => e
theorem But.upd {p : Addr} {H H' : Hp} (h : But p H H') (o : HO) : But p H (L2.upd H' p o) := fun b u e n => by rw [upd_ne n]; exact h b u e n
theorem But.trans {p : Addr} {H H1 H2 : Hp} (a : But p H H1) (b : But p H1 H2) : But p H H2 := fun c o e n => b c o (a c o e n) n
theorem starts0 (x y : Str) : Txt.startswith x y = Txt.startswith3 x y ((0 : Nat) : Int) := by
  unfold Txt.startswith Txt.startswith3
  have e : fromIndex x.length ((0 : Nat) : Int) = 0 := by unfold fromIndex; simp
  rw [e]
section
variable {P : Program} {w : World} {K : PySem.W.Frag} {mg : Str → Option Value} {base : Heap} {f C : Addr} {fd : FuncData}
def spNum (C : Addr) : Sp := fun vs H Q _ => ∃ p dx z pre ds post, vs = [.ref p] ∧ z.cps.toList = pre ++ ds ++ post ∧ H p = some (.ins C dx (rf z (pre.length : Nat))) ∧ z.length ≤ 100000 ∧ NumDs ds ∧ Stops post ∧
  ∀ H', H' p = some (.ins C dx (rf z ((pre.length + ds.length : Nat) : Int))) → But p H H' → Q (.int (digitsVal ds : Nat)) H'
theorem scNum : FnScope ["self", "start", "figures"] ["self"] (defScope sNum) := ⟨rfl, rfl, rfl, by decide +kernel, rfl, by decide +kernel, by decide +kernel⟩
theorem e_empty : (Str.ofString "") = ⟨#[]⟩ := by decide +kernel
theorem e_zero : (Str.ofString "0") = ⟨#[48]⟩ := by decide +kernel
def tNumTest (K : PySem.W.Frag) : TT := tAnd (tTest (tOp (rI0 fun i j => .bl (decide (i < j))) (tFld K (tVar 0) "place") (tCB (fun xs H Q => ∃ z, xs = [.str z] ∧ z.length ≤ sizeLine ∧ Q (.int z.length) H) (tCons (tFld K (tVar 0) "text") tNil))))
  (tB (tBM0 K "str" (fun x vs H Q => ∃ z, x = .str z ∧ vs = [] ∧ Q (.bl (Txt.isdigit z)) H) (tOp rIxS (tFld K (tVar 0) "text") (tFld K (tVar 0) "place"))))
theorem num_test {p dx : Addr} {z : Str} {pre ds post : List Nat} {j : Nat} {σ : St} {H1 : Hp} {R : Bool → Hp → Prop} (T : Tx K mg C) (ez : z.cps.toList = pre ++ ds ++ post) (hz : z.length ≤ 100000) (d1 : AllDigits ds) (hpo : Stops post) (hj : j ≤ ds.length)
    (e0 : σ[0]? = some (some (.ref p))) (hp1 : H1 p = some (.ins C dx (rf z ((pre.length + j : Nat) : Int)))) (h : R (decide (j < ds.length)) H1) : tNumTest K σ H1 R := by
  have hu := line_big
  have lz : z.length = pre.length + ds.length + post.length := by rw [len_cps, ez]; simp; omega
  refine ⟨_, e0, p, C, dx, _, _, rfl, hp1, T.cl, T.nP, rf_place _ _, _, e0, p, C, dx, _, _, rfl, hp1, T.cl, T.nT, rf_text _ _, _, rfl, by omega, _, _, rfl, rfl, _, rfl, ?_⟩
  by_cases hlt : (pre.length + j : Nat) < z.length
  · rw [decide_eq_true (show (((pre.length + j : Nat)) : Int) < ((z.length : Nat) : Int) by omega)]
    have hlt' : pre.length + j < z.cps.toList.length := by rw [← len_cps]; exact hlt
    obtain ⟨c, hc⟩ : ∃ c, z.cps.toList[pre.length + j]? = some c := ⟨_, List.getElem?_eq_getElem hlt'⟩
    refine iteT ⟨_, e0, p, C, dx, _, _, rfl, hp1, T.cl, T.nT, rf_text _ _, _, e0, p, C, dx, _, _, rfl, hp1, T.cl, T.nP, rf_place _ _, z, _, c, rfl, rfl, by omega, atI_nat hc, rfl, _, rfl, rfl, _, rfl, ?_⟩
    by_cases hjd : j < ds.length
    · have ec : ds[j]? = some c := by
        rw [ez, List.append_assoc, List.getElem?_append_right (by omega), List.getElem?_append_left (by omega)] at hc
        rw [← hc]; congr 1; omega
      have dc : 48 ≤ c ∧ c ≤ 57 := d1 c (List.mem_of_getElem? ec)
      have e1 : Txt.isdigit ⟨#[c]⟩ = true := by rw [isdigit_one (by omega)]; unfold isDig; rw [decide_eq_true dc.1, decide_eq_true dc.2]; rfl
      rw [decide_eq_true hjd] at h
      rw [e1]
      exact h
    · have hjd' : j = ds.length := by omega
      have ec : post[0]? = some c := by
        rw [ez, List.getElem?_append_right (by rw [List.length_append]; omega)] at hc
        rw [← hc]; congr 1; rw [List.length_append]; omega
      have hp2 : c < 128 ∧ isDig c = false := by
        cases post with
        | nil => cases ec
        | cons a r => exact hpo c r (by rw [show a = c by simpa using ec])
      have e1 : Txt.isdigit ⟨#[c]⟩ = false := by rw [isdigit_one hp2.1]; exact hp2.2
      rw [decide_eq_false hjd] at h
      rw [e1]
      exact h
  · rw [decide_eq_false (show ¬ (((pre.length + j : Nat)) : Int) < ((z.length : Nat) : Int) by omega)]
    rw [decide_eq_false (show ¬ j < ds.length by omega)] at h
    exact iteF h
theorem ok_num (F : Fun K "read_number" "Reader.read_number" sNum f fd) (T : Tx K mg C) : FnOk P w K mg base CX0 1 f fd ["self"] (spNum C) := by
  refine F.ok scNum (fun vs H Q E h => ?_) (fun cdv A outer s H vs Q E hr h => ?_)
  · obtain ⟨p, dx, z, pre, ds, post, rfl, _⟩ := h
    rfl
  obtain ⟨p, dx, z, pre, ds, post, rfl, ez, hp, hz, hds, hpo, q⟩ := h
  obtain ⟨d1, d2, d3, d4⟩ := hds
  have hu := line_big
  have lz : z.length = pre.length + ds.length + post.length := by rw [len_cps, ez]; simp; omega
  refine ⟨_, pss_cons (ps_set (i := 1) scNum.nd rfl (Or.inl rfl) (pe_fld (pv 0) rfl))
    (pss_cons (ps_while (tc := tNumTest K) PassesOwn.never (PW.pt (pw_and (pt_cmpR op_lt (pe_fld (pv 0) rfl) (pe_callB call_len_str rfl T.len PySem.boot_len (pa_cons (pe_fld (pv 0) rfl) pa_nil)) (nomark _))
        (pw_and1 (pt_val (pe_bm0 PySem.F.plainAttrs_str PySem.F.slot_str_isdigit PySem.F.type_str_isdigit mt_isdigit (pe_ix ix_str (pe_fld (pv 0) rfl) (pe_fld (pv 0) rfl) (fun _ _ => rfl)))))))
      (pss_one (ps_fldaug (pv 0) pe_int in_add)))
    (pss_cons (ps_set (i := 2) scNum.nd rfl (Or.inl rfl) (pe_slice sl_str (pe_fld (pv 0) rfl) (po_some (pv 1)) (po_some (pe_fld (pv 0) rfl))))
    (pss_cons (ps_if (pt_cmpR op_eq (pv 2) pe_str (nomark _)) pss_never pss_nil)
    (pss_cons (ps_if (pt_cmpR op_gt (pe_callB call_len_str rfl T.len PySem.boot_len (pa_cons (pv 2) pa_nil)) (gint T.cFig rfl) (nomark _)) pss_never pss_nil)
    (pss_cons (ps_if (PW.pt (pw_and (pt_val (pe_bm PySem.F.plainAttrs_str PySem.F.slot_str_startswith PySem.F.type_str_startswith mt_startswith (pv 2) (pa_cons pe_str pa_nil))) (pw_and1 (pt_cmpR op_ne (pv 2) pe_str (nomark _))))) pss_never pss_nil)
    (pss_one (ps_ret (pe_callTy call_int_text rfl T.int PyProof.Rows.boot_int (pa_cons (pv 2) pa_nil))))))))), ?_⟩
  refine ⟨_, rfl, p, C, dx, _, _, rfl, hp, T.cl, T.nP, rf_place _ _, ?_⟩
  refine ⟨fun m σ H1 => ∃ j, m = ds.length - j ∧ j ≤ ds.length ∧ σ = [some (.ref p), some (.int (pre.length : Nat)), none] ∧ H1 p = some (.ins C dx (rf z ((pre.length + j : Nat) : Int))) ∧ But p H H1,
    ⟨ds.length, 0, rfl, Nat.zero_le _, rfl, hp, But.refl p H⟩, ?_⟩
  rintro m σ H1 ⟨j, rfl, hj, rfl, hp1, bt⟩
  refine num_test T ez hz d1 hpo hj rfl hp1 ?_
  by_cases hjd : j < ds.length
  · rw [decide_eq_true hjd]
    refine iteT ⟨_, fun σ' H' h => h, ?_⟩
    refine ⟨_, rfl, p, C, dx, _, _, rfl, hp1, T.cl, T.nP, rf_place _ _, _, _, rfl, rfl, dx, _, hp1, (by rw [rf_len]; decide), ?_⟩
    refine ⟨ds.length - (j + 1), by omega, j + 1, rfl, hjd, rfl, ?_, bt.upd _⟩
    rw [upd_same, rf_put]
    have e : (((pre.length + j : Nat)) : Int) + 1 = ((pre.length + (j + 1) : Nat) : Int) := by omega
    rw [e]
  · rw [decide_eq_false hjd]
    obtain rfl : j = ds.length := by omega
    refine iteF ?_
    refine ⟨_, rfl, p, C, dx, _, _, rfl, hp1, T.cl, T.nT, rf_text _ _, _, rfl, _, rfl, _, rfl, p, C, dx, _, _, rfl, hp1, T.cl, T.nP, rf_place _ _, _, rfl, z, rfl, by omega, ?_⟩
    rw [slice_mid ez]
    have dl : (({ cps := ds.toArray } : Str)).length = ds.length := by simp [Str.length]
    refine ⟨_, rfl, rfl, _, rfl, ?_⟩
    have n1 : ¬ (V.str ({ cps := ds.toArray } : Str) = V.str (Str.ofString "")) := by
      intro e
      have e' : (({ cps := ds.toArray } : Str)) = Str.ofString "" := by injection e
      rw [e_empty] at e'
      have e2 := congrArg (fun s : Str => s.cps.toList) e'
      exact d2 (by simpa using e2)
    rw [decide_eq_false n1]
    refine iteF ?_
    refine ⟨_, rfl, _, rfl, by omega, _, _, rfl, rfl, _, rfl, ?_⟩
    rw [decide_eq_false (show ¬ ((400 : Int) < ((({ cps := ds.toArray } : Str)).length : Nat)) by rw [dl]; omega)]
    refine iteF ?_
    have it : PySem.intText? ({ cps := ds.toArray } : Str) = some ((digitsVal ds : Nat) : Int) := by
      have := intText_digits (x := ({ cps := ds.toArray } : Str)) (by simpa using d1) (by simpa using d2) (by rw [dl]; omega)
      simpa using this
    refine ⟨_, rfl, rfl, _, _, rfl, rfl, _, rfl, ?_⟩
    have hs : Txt.startswith ({ cps := ds.toArray } : Str) (Str.ofString "0") = decide (ds[0]? = some 48) := by
      rw [e_zero, starts0, starts_one]
    rw [hs]
    rcases d4 with e4 | h4
    · subst e4
      refine iteT ⟨_, rfl, rfl, _, rfl, ?_⟩
      have n3 : V.str ({ cps := ([48] : List Nat).toArray } : Str) = V.str (Str.ofString "0") := by rw [e_zero]
      rw [decide_eq_true n3]
      exact iteF ⟨_, rfl, _, _, rfl, it, by rw [dl]; omega, q H1 hp1 bt⟩
    · have n4 : ¬ ds[0]? = some 48 := by
        cases ds with
        | nil => exact absurd rfl d2
        | cons c r => intro e; exact h4 c r rfl (by simpa using e)
      rw [decide_eq_false n4]
      exact iteF (iteF ⟨_, rfl, _, _, rfl, it, by rw [dl]; omega, q H1 hp1 bt⟩)
def spSigns (C : Addr) : Sp := fun vs H Q _ => ∃ p dx z pre ws post, vs = [.ref p, .int ((ws : List Nat).length : Nat)] ∧ z.cps.toList = pre ++ ws ++ post ∧ H p = some (.ins C dx (rf z (pre.length : Nat))) ∧ z.length ≤ 100000 ∧ ws.length ≤ 2000 ∧
  ∀ H', H' p = some (.ins C dx (rf z ((pre.length + ws.length : Nat) : Int))) → But p H H' → Q (.str ⟨ws.toArray⟩) H'
theorem scSigns : FnScope ["self", "many", "behind", "signs"] ["self", "many"] (defScope sSigns) := ⟨rfl, rfl, rfl, by decide +kernel, rfl, by decide +kernel, by decide +kernel⟩
theorem ok_signs (F : Fun K "read_signs" "Reader.read_signs" sSigns f fd) (T : Tx K mg C) : FnOk P w K mg base CX0 1 f fd ["self", "many"] (spSigns C) := by
  refine F.ok scSigns (fun vs H Q E h => ?_) (fun cdv A outer s H vs Q E hr h => ?_)
  · obtain ⟨p, dx, z, pre, ws, post, rfl, _⟩ := h
    rfl
  obtain ⟨p, dx, z, pre, ws, post, rfl, ez, hp, hz, hw, q⟩ := h
  have hu := line_big
  have lz : z.length = pre.length + ws.length + post.length := by rw [len_cps, ez]; simp; omega
  refine ⟨_, pss_cons (ps_set (i := 2) scSigns.nd rfl (Or.inl rfl) (pe_op op_add (pe_fld (pv 0) rfl) (pv 1)))
    (pss_cons (ps_if (pt_cmpR op_gt (pv 1) (gint T.cSig rfl) (nomark _)) pss_never pss_nil)
    (pss_cons (ps_if (pt_cmpR op_gt (pv 2) (pe_callB call_len_str rfl T.len PySem.boot_len (pa_cons (pe_fld (pv 0) rfl) pa_nil)) (nomark _)) pss_never pss_nil)
    (pss_cons (ps_set (i := 3) scSigns.nd rfl (Or.inl rfl) (pe_slice sl_str (pe_fld (pv 0) rfl) (po_some (pe_fld (pv 0) rfl)) (po_some (pv 2))))
    (pss_cons (ps_fld (pv 0) (pv 2) rfl)
    (pss_one (ps_ret (pv 3))))))), ?_⟩
  refine ⟨_, rfl, p, C, dx, _, _, rfl, hp, T.cl, T.nP, rf_place _ _, _, rfl, _, _, rfl, rfl, ?_⟩
  refine ⟨_, rfl, _, _, rfl, rfl, _, rfl, ?_⟩
  rw [decide_eq_false (show ¬ ((2000 : Int) < ((ws.length : Nat) : Int)) by omega)]
  refine iteF ⟨_, rfl, _, rfl, p, C, dx, _, _, rfl, hp, T.cl, T.nT, rf_text _ _, z, rfl, by omega, _, _, rfl, rfl, _, rfl, ?_⟩
  have eb : ((pre.length : Nat) : Int) + ((ws.length : Nat) : Int) = ((pre.length + ws.length : Nat) : Int) := by omega
  rw [eb]
  rw [decide_eq_false (show ¬ (((z.length : Nat) : Int) < ((pre.length + ws.length : Nat) : Int)) by omega)]
  refine iteF ⟨_, rfl, p, C, dx, _, _, rfl, hp, T.cl, T.nT, rf_text _ _, _, rfl, p, C, dx, _, _, rfl, hp, T.cl, T.nP, rf_place _ _, _, rfl, _, rfl, _, rfl, z, rfl, by omega, ?_⟩
  rw [slice_mid' ez rfl eb]
  refine ⟨_, rfl, _, rfl, p, C, dx, _, rfl, hp, T.cl, T.nP, (by rw [rf_len]; decide), _, rfl, ?_⟩
  refine q _ ?_ ((But.refl p H).upd _)
  rw [upd_same, ← eb]
  exact congrArg (fun l => some (HO.ins C dx l)) (rf_put z _ _)
def spBelow (C : Addr) : Sp := fun vs H Q _ => ∃ p dx z pre ds post, vs = [.ref p] ∧ z.cps.toList = pre ++ ds ++ post ∧ H p = some (.ins C dx (rf z (pre.length : Nat))) ∧ z.length ≤ 100000 ∧ NumDs ds ∧ Stops post ∧ digitsVal ds ≠ 0 ∧
  ∀ H', H' p = some (.ins C dx (rf z ((pre.length + ds.length : Nat) : Int))) → But p H H' → Q (.int (-((digitsVal ds : Nat) : Int))) H'
theorem scBelow : FnScope ["self", "number"] ["self"] (defScope sBelow) := ⟨rfl, rfl, rfl, by decide +kernel, rfl, by decide +kernel, by decide +kernel⟩
theorem ok_below {fN : Addr} {dN : FuncData} (F : Fun K "read_below" "Reader.read_below" sBelow f fd) (T : Tx K mg C) (GN : FnOk P w K mg base CX0 1 fN dN ["self"] (spNum C)) (bN : Binds K dN ["self"] []) (mN : Meth K C "read_number" fN) :
    FnOk P w K mg base CX0 2 f fd ["self"] (spBelow C) := by
  refine F.ok scBelow (fun vs H Q E h => ?_) (fun cdv A outer s H vs Q E hr h => ?_)
  · obtain ⟨p, dx, z, pre, ds, post, rfl, _⟩ := h
    rfl
  obtain ⟨p, dx, z, pre, ds, post, rfl, ez, hp, hz, hds, hpo, hne, q⟩ := h
  refine ⟨_, pss_cons (ps_set (i := 1) scBelow.nd rfl (Or.inl rfl) (pe_meth0 (pv 0) T.cl mN GN hr bN .nil pass0))
    (pss_cons (ps_if (pt_cmpR op_eq (pv 1) pe_int (nomark _)) pss_never pss_nil)
    (pss_one (ps_ret (pe_un un_neg (pv 1))))), ?_⟩
  refine ⟨_, rfl, p, dx, _, rfl, hp, rf_no _ _ (by decide +kernel) (by decide +kernel), p, dx, z, pre, ds, post, rfl, ez, hp, hz, hds, hpo, fun H1 hp1 bt => ?_⟩
  refine ⟨_, rfl, rfl, _, rfl, ?_⟩
  have n1 : ¬ (V.int ((digitsVal ds : Nat) : Int) = V.int 0) := by intro e; injection e with e; omega
  rw [decide_eq_false n1]
  exact iteF ⟨_, rfl, _, rfl, q H1 hp1 bt⟩
end
inductive Item : List Nat → V → Prop where
  | num (n : Int) (h : n.natAbs < 10 ^ 400) : Item (numCs n) (.int n)
  | txt (ws : List Nat) (h : ws.length ≤ 2000) : Item (digs ws.length ++ 58 :: ws) (.str ⟨ws.toArray⟩)
def Ends (post : List Nat) : Prop := ∀ c r, post = c :: r → c = 32 ∨ c = 41
theorem digs_num (m : Nat) (h : m < 10 ^ 400) : NumDs (digs m) := by
  refine ⟨digs_all m, digs_ne m, digs_len (by decide) h, ?_⟩
  by_cases h0 : m = 0
  · subst h0; exact .inl digs_zero
  · exact .inr (digs_head m h0)
theorem Ends.stops {post : List Nat} (h : Ends post) : Stops post := fun c r e => by
  rcases h c r e with rfl | rfl <;> exact ⟨by decide, by decide⟩
theorem e_open : (Str.ofString "(") = ⟨#[40]⟩ := by decide +kernel
theorem e_minus : (Str.ofString "-") = ⟨#[45]⟩ := by decide +kernel
theorem e_colon : (Str.ofString ":") = ⟨#[58]⟩ := by decide +kernel
theorem at_pre {z : Str} {pre rest : List Nat} (e : z.cps.toList = pre ++ rest) : z.cps.toList[pre.length]? = rest[0]? := by
  rw [e, List.getElem?_append_right (Nat.le_refl _), Nat.sub_self]
theorem digs_cons (m : Nat) : ∃ c r, digs m = c :: r ∧ 48 ≤ c ∧ c ≤ 57 := by
  cases e : digs m with
  | nil => exact absurd e (digs_ne m)
  | cons c r =>
    have h := digs_all m
    rw [e] at h
    exact ⟨c, r, rfl, h.head⟩
section
variable {P : Program} {w : World} {K : PySem.W.Frag} {mg : Str → Option Value} {base : Heap} {f C : Addr} {fd : FuncData}
def spAny (C : Addr) : Sp := fun vs H Q _ => ∃ p dx z pre it post v d, vs = [.ref p, d] ∧ z.cps.toList = pre ++ it ++ post ∧ H p = some (.ins C dx (rf z ((pre : List Nat).length : Nat))) ∧ z.length ≤ 100000 ∧ Item it v ∧ Ends post ∧
  ∀ H', H' p = some (.ins C dx (rf z ((pre.length + it.length : Nat) : Int))) → But p H H' → Q v H'
theorem scAny : FnScope ["self", "deep", "number"] ["self", "deep"] (defScope sAny) := ⟨rfl, rfl, rfl, by decide +kernel, rfl, by decide +kernel, by decide +kernel⟩
theorem ok_any {fP fB fN fS : Addr} {dP dB dN dS : FuncData} (F : Fun K "read_any" "Reader.read_any" sAny f fd) (T : Tx K mg C)
    (GP : FnOk P w K mg base CX0 1 fP dP ["self", "sign"] (spPass C)) (bP : Binds K dP ["self", "sign"] []) (mP : Meth K C "passes" fP)
    (GB : FnOk P w K mg base CX0 2 fB dB ["self"] (spBelow C)) (bB : Binds K dB ["self"] []) (mB : Meth K C "read_below" fB)
    (GN : FnOk P w K mg base CX0 1 fN dN ["self"] (spNum C)) (bN : Binds K dN ["self"] []) (mN : Meth K C "read_number" fN)
    (GS : FnOk P w K mg base CX0 1 fS dS ["self", "many"] (spSigns C)) (bS : Binds K dS ["self", "many"] []) (mS : Meth K C "read_signs" fS) :
    FnOk P w K mg base CX0 3 f fd ["self", "deep"] (spAny C) := by
  refine F.ok scAny (fun vs H Q E h => ?_) (fun cdv A outer s H vs Q E hr h => ?_)
  · obtain ⟨p, dx, z, pre, it, post, v, d, rfl, _⟩ := h
    rfl
  obtain ⟨p, dx, z, pre, it, post, v, d, rfl, ez, hp, hz, hit, hen, q⟩ := h
  have hr1 := hr.mono (show 1 ≤ 2 by decide)
  have np : ∀ (k : Int), (rf z k).lookup ("passes" : Str) = none := fun k => rf_no _ _ (by decide +kernel) (by decide +kernel)
  have nn : ∀ (k : Int), (rf z k).lookup ("read_number" : Str) = none := fun k => rf_no _ _ (by decide +kernel) (by decide +kernel)
  have nb : ∀ (k : Int), (rf z k).lookup ("read_below" : Str) = none := fun k => rf_no _ _ (by decide +kernel) (by decide +kernel)
  have ns : ∀ (k : Int), (rf z k).lookup ("read_signs" : Str) = none := fun k => rf_no _ _ (by decide +kernel) (by decide +kernel)
  refine ⟨_, pss_cons (ps_if (pt_val (pe_meth (pv 0) T.cl mP GP hr1 bP .nil pass0 (pa_cons pe_str pa_nil))) pss_never pss_nil)
    (pss_cons (ps_if (pt_val (pe_meth (pv 0) T.cl mP GP hr1 bP .nil pass0 (pa_cons pe_str pa_nil))) (pss_one (ps_ret (pe_meth0 (pv 0) T.cl mB GB hr bB .nil pass0))) pss_nil)
    (pss_cons (ps_set (i := 2) scAny.nd rfl (Or.inl rfl) (pe_meth0 (pv 0) T.cl mN GN hr1 bN .nil pass0))
    (pss_cons (ps_if (pt_val (pe_meth (pv 0) T.cl mP GP hr1 bP .nil pass0 (pa_cons pe_str pa_nil))) (pss_one (ps_ret (pe_meth (pv 0) T.cl mS GS hr1 bS .nil pass0 (pa_cons (pv 2) pa_nil)))) pss_nil)
    (pss_one (ps_ret (pv 2)))))), ?_⟩
  have ez' : z.cps.toList = pre ++ (it ++ post) := by rw [ez, List.append_assoc]
  have h0 := at_pre ez'
  cases hit with
  | num n hn =>
    by_cases hneg : n < 0
    · have en : numCs n = 45 :: digs n.natAbs := by unfold numCs; rw [if_pos hneg]
      rw [en] at ez ez' q h0
      have h0' : z.cps.toList[pre.length]? = some 45 := h0
      refine ⟨_, rfl, p, dx, _, rfl, hp, np _, p, dx, z, 40, pre.length, (by rw [e_open]; rfl), hp, ?_⟩
      rw [if_neg (by rw [h0']; decide)]
      refine ⟨_, rfl, iteF ?_⟩
      refine ⟨_, rfl, p, dx, _, rfl, hp, np _, p, dx, z, 45, pre.length, (by rw [e_minus]; rfl), hp, ?_⟩
      rw [if_pos h0']
      refine ⟨_, rfl, iteT ?_⟩
      refine ⟨_, rfl, p, dx, _, rfl, upd_same, nb _, p, dx, z, pre ++ [45], digs n.natAbs, post, rfl, (by rw [ez]; simp), (by rw [upd_same]; simp), hz, digs_num _ hn, hen.stops, (by rw [digs_val]; omega), fun H' hp' bt => ?_⟩
      have e1 : (-((digitsVal (digs n.natAbs) : Nat) : Int)) = n := by rw [digs_val]; omega
      rw [e1]
      refine q H' ?_ (((But.refl p H).upd _).trans bt)
      rw [hp']
      have e2 : (pre ++ [45]).length + (digs n.natAbs).length = pre.length + (45 :: digs n.natAbs).length := by simp; omega
      rw [e2]
    · have en : numCs n = digs n.natAbs := by unfold numCs; rw [if_neg hneg]
      rw [en] at ez ez' q h0
      obtain ⟨c, r, ec, hc⟩ := digs_cons n.natAbs
      have h0' : z.cps.toList[pre.length]? = some c := by rw [h0, ec]; rfl
      refine ⟨_, rfl, p, dx, _, rfl, hp, np _, p, dx, z, 40, pre.length, (by rw [e_open]; rfl), hp, ?_⟩
      rw [if_neg (by rw [h0']; intro e; injection e with e; omega)]
      refine ⟨_, rfl, iteF ?_⟩
      refine ⟨_, rfl, p, dx, _, rfl, hp, np _, p, dx, z, 45, pre.length, (by rw [e_minus]; rfl), hp, ?_⟩
      rw [if_neg (by rw [h0']; intro e; injection e with e; omega)]
      refine ⟨_, rfl, iteF ?_⟩
      refine ⟨_, rfl, p, dx, _, rfl, hp, nn _, p, dx, z, pre, digs n.natAbs, post, rfl, ez, hp, hz, digs_num _ hn, hen.stops, fun H1 hp1 bt => ?_⟩
      have h1 : z.cps.toList[pre.length + (digs n.natAbs).length]? = post[0]? := by
        have := at_pre (z := z) (pre := pre ++ digs n.natAbs) (rest := post) ez
        rw [List.length_append] at this
        exact this
      refine ⟨_, rfl, p, dx, _, rfl, hp1, np _, p, dx, z, 58, pre.length + (digs n.natAbs).length, (by rw [e_colon]; rfl), hp1, ?_⟩
      rw [if_neg (by
        rw [h1]
        intro e
        cases post with
        | nil => cases e
        | cons a r' =>
          have := hen a r' rfl
          have ea : a = 58 := by simpa using e
          omega)]
      refine ⟨_, rfl, iteF ⟨_, rfl, ?_⟩⟩
      have e1 : ((digitsVal (digs n.natAbs) : Nat) : Int) = n := by rw [digs_val]; omega
      rw [e1]
      exact q H1 hp1 bt
  | txt ws hw =>
    obtain ⟨c, r, ec, hc⟩ := digs_cons ws.length
    have h0' : z.cps.toList[pre.length]? = some c := by rw [h0, ec]; rfl
    refine ⟨_, rfl, p, dx, _, rfl, hp, np _, p, dx, z, 40, pre.length, (by rw [e_open]; rfl), hp, ?_⟩
    rw [if_neg (by rw [h0']; intro e; injection e with e; omega)]
    refine ⟨_, rfl, iteF ?_⟩
    refine ⟨_, rfl, p, dx, _, rfl, hp, np _, p, dx, z, 45, pre.length, (by rw [e_minus]; rfl), hp, ?_⟩
    rw [if_neg (by rw [h0']; intro e; injection e with e; omega)]
    refine ⟨_, rfl, iteF ?_⟩
    have hl : ws.length < 10 ^ 400 := Nat.lt_of_le_of_lt hw (by decide +kernel)
    have ez2 : z.cps.toList = pre ++ digs ws.length ++ (58 :: (ws ++ post)) := by rw [ez]; simp
    refine ⟨_, rfl, p, dx, _, rfl, hp, nn _, p, dx, z, pre, digs ws.length, 58 :: (ws ++ post), rfl, ez2, hp, hz, digs_num _ hl, fun c' r' e => (by cases e; exact ⟨by decide, by decide⟩), fun H1 hp1 bt => ?_⟩
    have h1 : z.cps.toList[pre.length + (digs ws.length).length]? = some 58 := by
      have := at_pre (z := z) (pre := pre ++ digs ws.length) (rest := 58 :: (ws ++ post)) ez2
      rw [List.length_append] at this
      exact this
    refine ⟨_, rfl, p, dx, _, rfl, hp1, np _, p, dx, z, 58, pre.length + (digs ws.length).length, (by rw [e_colon]; rfl), hp1, ?_⟩
    rw [if_pos h1]
    refine ⟨_, rfl, iteT ?_⟩
    have el : (pre ++ digs ws.length ++ [58]).length = pre.length + (digs ws.length).length + 1 := by simp; omega
    refine ⟨_, rfl, p, dx, _, rfl, upd_same, ns _, _, rfl, p, dx, z, pre ++ digs ws.length ++ [58], ws, post, (by rw [digs_val]; rfl), (by rw [ez2]; simp), (by rw [upd_same, el]), hz, hw, fun H2 hp2 bt2 => ?_⟩
    refine q H2 ?_ ((bt.upd _).trans bt2)
    rw [hp2]
    have e2 : (pre ++ digs ws.length ++ [58]).length + ws.length = pre.length + (digs ws.length ++ 58 :: ws).length := by simp; omega
    rw [e2]
def spRead : Sp := fun vs H Q _ => ∃ z v, vs = [.str z] ∧ Item z.cps.toList v ∧ (∀ c ∈ z.cps.toList, okSign c = true) ∧ z.length ≤ 100000 ∧ ∀ H', Same H H' → Q v H'
theorem scRead : FnScope ["text", "reader", "thing"] ["text"] (defScope sRead) := ⟨rfl, rfl, rfl, by decide +kernel, rfl, by decide +kernel, by decide +kernel⟩
def readComp : Scope := match defBody sRead with
  | _ :: .If (.UnaryOp _ (.Call _ [.ListComp _ _ sc _] _ _) _) _ _ _ :: _ => sc
  | _ => default
theorem scComp : BlkScope ["text", "reader", "thing"] (defScope sRead) readComp "sign" ["sign"] [] := ⟨by decide +kernel, rfl, by decide +kernel, rfl, by decide +kernel, by decide +kernel, rfl, rfl, fun j h => absurd h (Nat.not_lt_zero j)⟩
theorem ok_read {fG fI fA : Addr} {dG dI dA : FuncData} (F : Fun K "read_thing" "read_thing" sRead f fd) (T : Tx K mg C) (M : Mk K C fI)
    (GG : FnOk P w K mg base CX0 1 fG dG ["sign"] spSign) (bG : Binds K dG ["sign"] []) (kG : PySem.W.keepIn K (.ref fG) = true) (mG : mg "is_sign" = some (.ref fG))
    (GI : FnOk P w K mg base CX0 1 fI dI ["self", "text"] (spInit C)) (bI : Binds K dI ["self", "text"] [])
    (GA : FnOk P w K mg base CX0 3 fA dA ["self", "deep"] (spAny C)) (bA : Binds K dA ["self", "deep"] []) (mA : Meth K C "read_any" fA) :
    FnOk P w K mg base CX0 4 f fd ["text"] spRead := by
  refine F.ok scRead (fun vs H Q E h => ?_) (fun cdv A outer s H vs Q E hr h => ?_)
  · obtain ⟨z, v, rfl, _⟩ := h
    rfl
  obtain ⟨z, v, rfl, hit, hok, hz, q⟩ := h
  have hr1 := hr.mono (show 1 ≤ 3 by decide)
  have hr2 := hr.mono (show 2 ≤ 3 by decide)
  have hu := line_big
  refine ⟨_, pss_cons (ps_if (pt_cmpR op_gt (pe_callB call_len_str rfl T.len PySem.boot_len (pa_cons (pv 0) pa_nil)) (gint T.cLong rfl) (nomark _)) pss_never pss_nil)
    (pss_cons (ps_if (pt_not (pt_val (pe_callB (call_all_bl rfl) rfl T.all PyProof.Rows.boot_all (pa_cons (pe_lc scComp rfl (pi_str (pv 0)) (fun _ _ _ _ => pts_nil) (fun _ _ _ _ => pe_call GG hr1 rfl mG kG bG .nil pass0 (pa_cons (pv 0) pa_nil))) pa_nil)))) pss_never pss_nil)
    (pss_cons (ps_set (i := 1) scRead.nd rfl (Or.inl rfl) (pe_make M GI hr2 rfl T.mgC bI .nil pass0 (pa_cons (pv 0) pa_nil)))
    (pss_cons (ps_set (i := 2) scRead.nd rfl (Or.inl rfl) (pe_meth (pv 1) T.cl mA GA hr bA .nil pass0 (pa_cons (gint T.cDeep rfl) pa_nil)))
    (pss_cons (ps_if (pt_cmpR op_ne (pe_fld (pv 1) rfl) (pe_callB call_len_str rfl T.len PySem.boot_len (pa_cons (pv 0) pa_nil)) (nomark _)) pss_never pss_nil)
    (pss_one (ps_ret (pv 2))))))), ?_⟩
  refine ⟨_, rfl, z, rfl, by omega, _, _, rfl, rfl, _, rfl, ?_⟩
  rw [decide_eq_false (show ¬ ((100000 : Int) < ((z.length : Nat) : Int)) by omega)]
  refine iteF ?_
  refine ⟨_, rfl, z, rfl, fun i ys H1 => i ≤ z.length ∧ ys = List.replicate i (V.bl true) ∧ H1 = H, z.length, ⟨Nat.zero_le _, rfl, rfl⟩, by omega, ?_⟩
  rintro i ys H1 ⟨hi, rfl, rfl⟩
  by_cases hlt : i < z.length
  · refine .inr ⟨hlt, hlt, ?_⟩
    rintro x H2 ⟨rfl, c, hc, rfl⟩
    refine ⟨_, rfl, c, rfl, hlt, ?_, rfl⟩
    rw [hok c (List.mem_of_getElem? hc), List.replicate_succ']
  refine .inl ⟨by show z.length ≤ i; omega, fun l hl => ?_⟩
  have e0 : List.replicate i (V.bl true) = (List.replicate i true).map V.bl := by simp
  refine ⟨l, List.replicate i true, rfl, SqL.of (by rw [upd_same, e0]), _, rfl, ?_⟩
  have e1 : (List.replicate i true).all id = true := by simp
  rw [e1]
  refine iteF ?_
  have sl : Same H1 (upd H1 l (.lst (List.replicate i (V.bl true)))) := fun b o e => by rw [upd_ne (ne_of_none e hl)]; exact e
  refine ⟨_, rfl, fun x dx nx ndx nex => ⟨x, dx, z, rfl, upd_same, rfl, ?_⟩⟩
  refine ⟨_, rfl, x, dx, _, rfl, upd_same, rf_no _ _ (by decide +kernel) (by decide +kernel), x, dx, z, [], z.cps.toList, [], v, _, rfl, (by simp), upd_same, hz, hit, (fun c r e => nomatch e), fun H3 hx3 bt3 => ?_⟩
  refine ⟨_, rfl, x, C, dx, _, _, rfl, hx3, T.cl, T.nP, rf_place _ _, _, rfl, z, rfl, by omega, rfl, _, rfl, ?_⟩
  have e2 : V.int ((([] : List Nat).length + z.cps.toList.length : Nat) : Int) = V.int ((z.length : Nat) : Int) := by rw [len_cps]; simp
  rw [decide_eq_true e2]
  refine iteF ⟨_, rfl, q H3 fun b o e => ?_⟩
  have e3 := sl b o e
  have nb1 : b ≠ x := ne_of_none e3 nx
  have nb2 : b ≠ dx := ne_of_none e3 ndx
  refine bt3 b o ?_ nb1
  rw [upd_ne nb1, upd_ne nb1, upd_ne nb1, upd_ne nb2]
  exact e3
end
end K24T
set_option maxHeartbeats 4000000
namespace K24
open PySem L2 Lo St
section
variable {P : Program} {w : World} {K : PySem.W.Frag} {mg : Str → Option Value} {base : Heap} {f CL CP : Addr} {fd : FuncData} {C : Kd → Addr} {CW : Wd → Addr}
theorem kp2 {a : Addr} {H : Hp} {o1 o2 : HO} : Kp a H (upd (upd H a o1) a o2) := fun b o n e => by rw [upd_ne n, upd_ne n]; exact e
theorem ok_cinit (F : Fun K "__init__" "CellStep.__init__" m_CellStep_init f fd) (T : TxW K CW) : FnOk P w K mg base CX0 1 f fd ["self", "where", "cell"] (spCInit CW) := by
  refine F.ok sc_CellStep_init (fun vs H Q E h => ?_) (fun cdv A outer s H vs Q E hr h => ?_)
  · obtain ⟨a, dx, wd, x, y, rfl, _⟩ := h
    rfl
  obtain ⟨a, dx, wd, x, y, rfl, ha, q⟩ := h
  refine ⟨_, pss_cons (ps_fld (pv 0) (pv 1) rfl) (pss_one (ps_fld (pv 0) (pv 2) rfl)), ?_⟩
  exact ⟨_, rfl, _, rfl, a, CW wd, dx, [], rfl, ha, T.cl wd, T.nW wd, (by show 0 < 1000; decide), _, rfl, _, rfl, a, CW wd, dx, _, rfl, upd_same, T.cl wd, T.nC wd, (by show 1 < 1000; decide), q _ upd_same kp2⟩
theorem cinit_w {wd : Wd} (hw : isC wd = true) {vs : List V} {H : Hp} {Q : VK} {E : XK} (h : spWInit CW wd vs H Q E) : spCInit CW vs H Q E := by
  obtain ⟨a, dx, ns, rfl, ar, ha, q⟩ := h
  obtain ⟨x, y, rfl, _, _, e⟩ := ar.c hw
  exact ⟨a, dx, wd, x, y, rfl, ha, fun H' h1 h2 => q H' (by rw [e]; exact h1) h2⟩
theorem ok_sinit (F : Fun K "__init__" "SumStep.__init__" m_SumStep_init f fd) (T : TxW K CW) : FnOk P w K mg base CX0 1 f fd ["self", "where", "low", "high"] (spWInit CW .sum) := by
  refine F.ok sc_SumStep_init (fun vs H Q E h => ?_) (fun cdv A outer s H vs Q E hr h => ?_)
  · obtain ⟨a, dx, ns, rfl, ar, _⟩ := h
    obtain ⟨x, y, z, rfl, _⟩ := ar.s
    rfl
  obtain ⟨a, dx, ns, rfl, ar, ha, q⟩ := h
  obtain ⟨x, y, z, rfl, _⟩ := ar.s
  refine ⟨_, pss_cons (ps_fld (pv 0) (pv 1) rfl) (pss_cons (ps_fld (pv 0) (pv 2) rfl) (pss_one (ps_fld (pv 0) (pv 3) rfl))), ?_⟩
  exact ⟨_, rfl, _, rfl, a, CW .sum, dx, [], rfl, ha, T.cl _, T.nW _, (by show 0 < 1000; decide), _, rfl, _, rfl, a, CW .sum, dx, _, rfl, upd_same, T.cl _, T.nL _, (by show 1 < 1000; decide), _, rfl, _, rfl, a, CW .sum, dx, _, rfl, upd_same, T.cl _, T.nH _, Nat.lt_of_le_of_lt (length_putF _ _ _) (by show 1 + 1 < 1000; decide), q _ upd_same fun b o n e => by rw [upd_ne n, upd_ne n, upd_ne n]; exact e⟩
theorem ok_ainit {CC fC : Addr} {dC : FuncData} (F : Fun K "__init__" "AddStep.__init__" m_AddStep_init f fd) (T : TxW K CW) (mgC : mg "CellStep" = some (.ref CC)) (cf : ClsFn K CC "__init__" fC) (GC : FnOk P w K mg base CX0 1 fC dC ["self", "where", "cell"] (spCInit CW)) (bC : Binds K dC ["self", "where", "cell"] []) :
    FnOk P w K mg base CX0 2 f fd ["self", "where", "cell", "amount"] (spWInit CW .add) := by
  refine F.ok sc_AddStep_init (fun vs H Q E h => ?_) (fun cdv A outer s H vs Q E hr h => ?_)
  · obtain ⟨a, dx, ns, rfl, ar, _⟩ := h
    obtain ⟨x, y, z, rfl, _⟩ := ar.a
    rfl
  obtain ⟨a, dx, ns, rfl, ar, ha, q⟩ := h
  obtain ⟨x, y, z, rfl, _⟩ := ar.a
  refine ⟨_, pss_cons (ps_expr (pe_clsm (pe_glob (v := .ref CC) rfl mgC rfl) cf GC hr bC pass0 (pa_cons (pv 0) (pa_cons (pv 1) (pa_cons (pv 2) pa_nil))))) (pss_one (ps_fld (pv 0) (pv 3) rfl)), ?_⟩
  refine ⟨_, rfl, _, rfl, _, rfl, a, dx, .add, x, y, rfl, ha, fun H' h1 h2 => ?_⟩
  exact ⟨_, rfl, _, rfl, a, CW .add, dx, _, rfl, h1, T.cl _, T.nA _, Nat.lt_of_le_of_lt (length_putF _ _ _) (by show 1 + 1 < 1000; decide), q _ upd_same fun b o n e => by rw [upd_ne n]; exact h2 b o n e⟩
theorem ok_pinit (F : Fun K "__init__" "PlusStep.__init__" m_PlusStep_init f fd) (T : TxW K CW) : FnOk P w K mg base CX0 1 f fd ["self", "amount"] (spWInit CW .plus) := by
  refine F.ok sc_PlusStep_init (fun vs H Q E h => ?_) (fun cdv A outer s H vs Q E hr h => ?_)
  · obtain ⟨a, dx, ns, rfl, ar, _⟩ := h
    obtain ⟨x, rfl, _⟩ := ar.p
    rfl
  obtain ⟨a, dx, ns, rfl, ar, ha, q⟩ := h
  obtain ⟨x, rfl, _⟩ := ar.p
  refine ⟨_, pss_one (ps_fld (pv 0) (pv 1) rfl), ?_⟩
  exact ⟨_, rfl, _, rfl, a, CW .plus, dx, [], rfl, ha, T.cl _, T.nA _, (by show 0 < 1000; decide), q _ upd_same kp_upd⟩
theorem ok_ninit (F : Fun K "__init__" "NeedStep.__init__" m_NeedStep_init f fd) (T : TxW K CW) : FnOk P w K mg base CX0 1 f fd ["self", "amount"] (spWInit CW .need) := by
  refine F.ok sc_NeedStep_init (fun vs H Q E h => ?_) (fun cdv A outer s H vs Q E hr h => ?_)
  · obtain ⟨a, dx, ns, rfl, ar, _⟩ := h
    obtain ⟨x, rfl, _⟩ := ar.n
    rfl
  obtain ⟨a, dx, ns, rfl, ar, ha, q⟩ := h
  obtain ⟨x, rfl, _⟩ := ar.n
  refine ⟨_, pss_one (ps_fld (pv 0) (pv 1) rfl), ?_⟩
  exact ⟨_, rfl, _, rfl, a, CW .need, dx, [], rfl, ha, T.cl _, T.nA _, (by show 0 < 1000; decide), q _ upd_same kp_upd⟩
theorem ok_hnone {wd : Wd} (hw : wd = .plus ∨ wd = .need) (F : Fun K "house" "Step.house" m_Step_house f fd) : FnOk P w K mg base CX0 1 f fd ["self"] (spHouse CW wd) := by
  refine F.ok sc_Step_house (fun vs H Q E h => ?_) (fun cdv A outer s H vs Q E hr h => ?_)
  · obtain ⟨v, ns, rfl, _⟩ := h
    rfl
  obtain ⟨v, ns, rfl, ar, st, q⟩ := h
  refine ⟨_, pss_one (ps_ret pe_non), ?_⟩
  rcases hw with rfl | rfl <;> exact q
theorem ok_hcell {wd : Wd} (hw : isC wd = true ∨ wd = .add) (F : Fun K "house" "CellStep.house" m_CellStep_house f fd) (T : TxW K CW) : FnOk P w K mg base CX0 1 f fd ["self"] (spHouse CW wd) := by
  refine F.ok sc_CellStep_house (fun vs H Q E h => ?_) (fun cdv A outer s H vs Q E hr h => ?_)
  · obtain ⟨v, ns, rfl, _⟩ := h
    rfl
  obtain ⟨v, ns, rfl, ar, ⟨a, dx, rfl, ha⟩, q⟩ := h
  refine ⟨_, pss_one (ps_ret (pe_fld (pv 0) rfl)), ?_⟩
  rcases hw with hw | rfl
  · obtain ⟨x, y, rfl, _, _, e⟩ := ar.c hw
    rw [e] at ha
    refine ⟨_, rfl, a, CW wd, dx, _, _, rfl, ha, T.cl _, T.nW _, by rw [lk_miss (by decide +kernel), lk_hit], ?_⟩
    cases wd <;> first | exact q | cases hw
  · obtain ⟨x, y, z, rfl, _⟩ := ar.a
    exact ⟨_, rfl, a, CW .add, dx, _, _, rfl, ha, T.cl _, T.nW _, (by show (putF "amount" _ (putF "cell" _ (putF "where" _ []))).lookup _ = _; rw [lk_miss (by decide +kernel), lk_miss (by decide +kernel), lk_hit]; rfl), q⟩
theorem ok_hsum (F : Fun K "house" "SumStep.house" m_SumStep_house f fd) (T : TxW K CW) : FnOk P w K mg base CX0 1 f fd ["self"] (spHouse CW .sum) := by
  refine F.ok sc_SumStep_house (fun vs H Q E h => ?_) (fun cdv A outer s H vs Q E hr h => ?_)
  · obtain ⟨v, ns, rfl, _⟩ := h
    rfl
  obtain ⟨v, ns, rfl, ar, ⟨a, dx, rfl, ha⟩, q⟩ := h
  obtain ⟨x, y, z, rfl, _⟩ := ar.s
  refine ⟨_, pss_one (ps_ret (pe_fld (pv 0) rfl)), ?_⟩
  exact ⟨_, rfl, a, CW .sum, dx, _, _, rfl, ha, T.cl _, T.nW _, (by show (putF "high" _ (putF "low" _ (putF "where" _ []))).lookup _ = _; rw [lk_miss (by decide +kernel), lk_miss (by decide +kernel), lk_hit]; rfl), q⟩
theorem ok_snone {wd : Wd} (hw : wd ≠ .give) (F : Fun K "sure" "Step.sure" m_Step_sure f fd) : FnOk P w K mg base CX0 1 f fd ["self"] (spSure wd) := by
  refine F.ok sc_Step_sure (fun vs H Q E h => ?_) (fun cdv A outer s H vs Q E hr h => ?_)
  · obtain ⟨v, rfl, _⟩ := h
    rfl
  obtain ⟨v, rfl, q⟩ := h
  rw [decide_eq_false hw] at q
  exact ⟨_, pss_one (ps_ret pe_bl), q⟩
theorem ok_sgive (F : Fun K "sure" "GiveStep.sure" m_GiveStep_sure f fd) : FnOk P w K mg base CX0 1 f fd ["self"] (spSure .give) := by
  refine F.ok sc_GiveStep_sure (fun vs H Q E h => ?_) (fun cdv A outer s H vs Q E hr h => ?_)
  · obtain ⟨v, rfl, _⟩ := h
    rfl
  obtain ⟨v, rfl, q⟩ := h
  exact ⟨_, pss_one (ps_ret pe_bl), q⟩
end
end K24
set_option maxHeartbeats 4000000
namespace K24
open PySem L2 Lo St
section
variable {P : Program} {w : World} {K : PySem.W.Frag} {mg : Str → Option Value} {base : Heap} {f CL CP : Addr} {fd : FuncData} {C : Kd → Addr} {CW : Wd → Addr}
theorem ok_spell (F : Fun K "spell" "spell" s_spell f fd) (GS : GF P w K mg base CX0 2 "shown" ["thing"] K24T.spShown) : FnOk P w K mg base CX0 3 f fd ["word", "numbers"] spSpell := by
  refine F.ok sc_spell (fun vs H Q E h => ?_) (fun cdv A outer s H vs Q E hr h => ?_)
  · obtain ⟨wd, b, ns, rfl, _⟩ := h
    rfl
  obtain ⟨wd, b, ns, rfl, hb, ar, q⟩ := h
  have hl3 := ar.len
  refine ⟨_, pss_one (ps_ret (pe_bm PySem.F.plainAttrs_str PySem.F.slot_str_join PySem.F.type_str_join mt_join pe_str (pa_cons (pe_op op_cat (pe_lst (pa_cons (pv 0) pa_nil)) (pe_lc sb_spell_0 rfl (pi_list (pv 1)) (fun _ _ _ _ => pts_nil) (fun _ _ _ _ => pc GS hr (pa_cons (pv 0) pa_nil)))) pa_nil))), ?_⟩
  refine ⟨rfl, _, rfl, (by show 1 ≤ sizeLine; decide), fun l hl => ?_⟩
  have s1 : Same H _ := same_new (o := .lst [.str (wS wd)]) hl
  refine ⟨_, rfl, b, rfl, ⟨_, SqL.of (s1 _ _ hb)⟩, ?_⟩
  refine lc_ints (g := fun i => V.str (iS i)) (ns := ns) (SqL.of (s1 _ _ hb)) (Nat.le_trans hl3.2 (by decide)) (fun i H1 Q hi s2 h => ?_) (fun H1 s2 p hp => ?_)
  · exact ⟨_, rfl, .inl ⟨i, rfl, log_v (ar.all i hi), h H1 (Same.refl _)⟩⟩
  · have el : H1 l = some (.lst [.str (wS wd)]) := s2 _ _ upd_same
    refine ⟨l, p, _, _, rfl, rfl, same_new hp _ _ el, upd_same, ?_, fun p2 hp2 => ?_⟩
    · have h5 : (ns.map fun i => V.str (iS i)).length = ns.length := List.length_map _
      have h6 : ([V.str (wS wd)] : List V).length = 1 := rfl
      have h7 : (4 : Nat) ≤ sizeLine := by decide
      omega
    · have e : ([V.str (wS wd)] ++ ns.map fun i => V.str (iS i)) = (wS wd :: ns.map iS).map V.str := by simp
      refine ⟨_, p2, wS wd :: ns.map iS, rfl, rfl, SqL.of (by rw [upd_same, e]), Nat.le_trans (words_sum ar) (by decide), ?_⟩
      exact q _ (s1.trans (s2.trans ((same_new hp).trans (same_new hp2))))
theorem ok_ptake (F : Fun K "spelled" "TakeStep.spelled" m_TakeStep_spelled f fd) (W : TxW K CW) (GP : GF P w K mg base CX0 3 "spell" ["word", "numbers"] spSpell) : FnOk P w K mg base CX0 4 f fd ["self"] (spSpelled CW .take) := by
  refine F.ok sc_TakeStep_spelled (fun vs H Q E h => ?_) (fun cdv A outer s H vs Q E hr h => ?_)
  · obtain ⟨v, ns, rfl, _⟩ := h
    rfl
  obtain ⟨v, ns, rfl, ar, ⟨a, dx, rfl, ha⟩, q⟩ := h
  obtain ⟨x, y, rfl, _, _, e⟩ := ar.c rfl
  rw [e] at ha
  refine ⟨_, pss_one (ps_ret (pc GP hr (pa_cons pe_str (pa_cons (pe_lst (pa_cons (pe_fld (pv 0) rfl) (pa_cons (pe_fld (pv 0) rfl) pa_nil))) pa_nil)))), ?_⟩
  refine ⟨_, rfl, a, _, dx, _, _, rfl, ha, W.cl _, W.nW _, (by show (putF "cell" _ (putF "where" _ [])).lookup _ = _; rw [lk_miss (by decide +kernel), lk_hit]), _, rfl, a, _, dx, _, _, rfl, ha, W.cl _, W.nC _, (by show (putF "cell" _ (putF "where" _ [])).lookup _ = _; rw [lk_hit]), (by show 2 ≤ sizeLine; decide), fun l hl => ?_⟩
  exact ⟨.take, l, _, rfl, upd_same, ar, fun H' s' => q H' ((same_new hl).trans s')⟩
theorem ok_pmean (F : Fun K "spelled" "MeanStep.spelled" m_MeanStep_spelled f fd) (W : TxW K CW) (GP : GF P w K mg base CX0 3 "spell" ["word", "numbers"] spSpell) : FnOk P w K mg base CX0 4 f fd ["self"] (spSpelled CW .mean) := by
  refine F.ok sc_MeanStep_spelled (fun vs H Q E h => ?_) (fun cdv A outer s H vs Q E hr h => ?_)
  · obtain ⟨v, ns, rfl, _⟩ := h
    rfl
  obtain ⟨v, ns, rfl, ar, ⟨a, dx, rfl, ha⟩, q⟩ := h
  obtain ⟨x, y, rfl, _, _, e⟩ := ar.c rfl
  rw [e] at ha
  refine ⟨_, pss_one (ps_ret (pc GP hr (pa_cons pe_str (pa_cons (pe_lst (pa_cons (pe_fld (pv 0) rfl) (pa_cons (pe_fld (pv 0) rfl) pa_nil))) pa_nil)))), ?_⟩
  refine ⟨_, rfl, a, _, dx, _, _, rfl, ha, W.cl _, W.nW _, (by show (putF "cell" _ (putF "where" _ [])).lookup _ = _; rw [lk_miss (by decide +kernel), lk_hit]), _, rfl, a, _, dx, _, _, rfl, ha, W.cl _, W.nC _, (by show (putF "cell" _ (putF "where" _ [])).lookup _ = _; rw [lk_hit]), (by show 2 ≤ sizeLine; decide), fun l hl => ?_⟩
  exact ⟨.mean, l, _, rfl, upd_same, ar, fun H' s' => q H' ((same_new hl).trans s')⟩
theorem ok_pgive (F : Fun K "spelled" "GiveStep.spelled" m_GiveStep_spelled f fd) (W : TxW K CW) (GP : GF P w K mg base CX0 3 "spell" ["word", "numbers"] spSpell) : FnOk P w K mg base CX0 4 f fd ["self"] (spSpelled CW .give) := by
  refine F.ok sc_GiveStep_spelled (fun vs H Q E h => ?_) (fun cdv A outer s H vs Q E hr h => ?_)
  · obtain ⟨v, ns, rfl, _⟩ := h
    rfl
  obtain ⟨v, ns, rfl, ar, ⟨a, dx, rfl, ha⟩, q⟩ := h
  obtain ⟨x, y, rfl, _, _, e⟩ := ar.c rfl
  rw [e] at ha
  refine ⟨_, pss_one (ps_ret (pc GP hr (pa_cons pe_str (pa_cons (pe_lst (pa_cons (pe_fld (pv 0) rfl) (pa_cons (pe_fld (pv 0) rfl) pa_nil))) pa_nil)))), ?_⟩
  refine ⟨_, rfl, a, _, dx, _, _, rfl, ha, W.cl _, W.nW _, (by show (putF "cell" _ (putF "where" _ [])).lookup _ = _; rw [lk_miss (by decide +kernel), lk_hit]), _, rfl, a, _, dx, _, _, rfl, ha, W.cl _, W.nC _, (by show (putF "cell" _ (putF "where" _ [])).lookup _ = _; rw [lk_hit]), (by show 2 ≤ sizeLine; decide), fun l hl => ?_⟩
  exact ⟨.give, l, _, rfl, upd_same, ar, fun H' s' => q H' ((same_new hl).trans s')⟩
theorem ok_psum (F : Fun K "spelled" "SumStep.spelled" m_SumStep_spelled f fd) (W : TxW K CW) (GP : GF P w K mg base CX0 3 "spell" ["word", "numbers"] spSpell) : FnOk P w K mg base CX0 4 f fd ["self"] (spSpelled CW .sum) := by
  refine F.ok sc_SumStep_spelled (fun vs H Q E h => ?_) (fun cdv A outer s H vs Q E hr h => ?_)
  · obtain ⟨v, ns, rfl, _⟩ := h
    rfl
  obtain ⟨v, ns, rfl, ar, ⟨a, dx, rfl, ha⟩, q⟩ := h
  obtain ⟨x, y, z0, rfl, _⟩ := ar.s
  refine ⟨_, pss_one (ps_ret (pc GP hr (pa_cons pe_str (pa_cons (pe_lst (pa_cons (pe_fld (pv 0) rfl) (pa_cons (pe_fld (pv 0) rfl) (pa_cons (pe_fld (pv 0) rfl) pa_nil)))) pa_nil)))), ?_⟩
  refine ⟨_, rfl, a, _, dx, _, _, rfl, ha, W.cl _, W.nW _, (by show (putF "high" _ (putF "low" _ (putF "where" _ []))).lookup _ = _; rw [lk_miss (by decide +kernel), lk_miss (by decide +kernel), lk_hit]), _, rfl, a, _, dx, _, _, rfl, ha, W.cl _, W.nL _, (by show (putF "high" _ (putF "low" _ (putF "where" _ []))).lookup _ = _; rw [lk_miss (by decide +kernel), lk_hit]), _, rfl, a, _, dx, _, _, rfl, ha, W.cl _, W.nH _, (by show (putF "high" _ (putF "low" _ (putF "where" _ []))).lookup _ = _; rw [lk_hit]), (by show 3 ≤ sizeLine; decide), fun l hl => ?_⟩
  exact ⟨.sum, l, _, rfl, upd_same, ar, fun H' s' => q H' ((same_new hl).trans s')⟩
theorem ok_padd (F : Fun K "spelled" "AddStep.spelled" m_AddStep_spelled f fd) (W : TxW K CW) (GP : GF P w K mg base CX0 3 "spell" ["word", "numbers"] spSpell) : FnOk P w K mg base CX0 4 f fd ["self"] (spSpelled CW .add) := by
  refine F.ok sc_AddStep_spelled (fun vs H Q E h => ?_) (fun cdv A outer s H vs Q E hr h => ?_)
  · obtain ⟨v, ns, rfl, _⟩ := h
    rfl
  obtain ⟨v, ns, rfl, ar, ⟨a, dx, rfl, ha⟩, q⟩ := h
  obtain ⟨x, y, z0, rfl, _⟩ := ar.a
  refine ⟨_, pss_one (ps_ret (pc GP hr (pa_cons pe_str (pa_cons (pe_lst (pa_cons (pe_fld (pv 0) rfl) (pa_cons (pe_fld (pv 0) rfl) (pa_cons (pe_fld (pv 0) rfl) pa_nil)))) pa_nil)))), ?_⟩
  refine ⟨_, rfl, a, _, dx, _, _, rfl, ha, W.cl _, W.nW _, (by show (putF "amount" _ (putF "cell" _ (putF "where" _ []))).lookup _ = _; rw [lk_miss (by decide +kernel), lk_miss (by decide +kernel), lk_hit]), _, rfl, a, _, dx, _, _, rfl, ha, W.cl _, W.nC _, (by show (putF "amount" _ (putF "cell" _ (putF "where" _ []))).lookup _ = _; rw [lk_miss (by decide +kernel), lk_hit]), _, rfl, a, _, dx, _, _, rfl, ha, W.cl _, W.nA _, (by show (putF "amount" _ (putF "cell" _ (putF "where" _ []))).lookup _ = _; rw [lk_hit]), (by show 3 ≤ sizeLine; decide), fun l hl => ?_⟩
  exact ⟨.add, l, _, rfl, upd_same, ar, fun H' s' => q H' ((same_new hl).trans s')⟩
theorem ok_pplus (F : Fun K "spelled" "PlusStep.spelled" m_PlusStep_spelled f fd) (W : TxW K CW) (GP : GF P w K mg base CX0 3 "spell" ["word", "numbers"] spSpell) : FnOk P w K mg base CX0 4 f fd ["self"] (spSpelled CW .plus) := by
  refine F.ok sc_PlusStep_spelled (fun vs H Q E h => ?_) (fun cdv A outer s H vs Q E hr h => ?_)
  · obtain ⟨v, ns, rfl, _⟩ := h
    rfl
  obtain ⟨v, ns, rfl, ar, ⟨a, dx, rfl, ha⟩, q⟩ := h
  obtain ⟨x, rfl, _⟩ := ar.p
  refine ⟨_, pss_one (ps_ret (pc GP hr (pa_cons pe_str (pa_cons (pe_lst (pa_cons (pe_fld (pv 0) rfl) pa_nil)) pa_nil)))), ?_⟩
  refine ⟨_, rfl, a, _, dx, _, _, rfl, ha, W.cl _, W.nA _, (by show (putF "amount" _ []).lookup _ = _; rw [lk_hit]), (by show 1 ≤ sizeLine; decide), fun l hl => ?_⟩
  exact ⟨.plus, l, _, rfl, upd_same, ar, fun H' s' => q H' ((same_new hl).trans s')⟩
theorem ok_pneed (F : Fun K "spelled" "NeedStep.spelled" m_NeedStep_spelled f fd) (W : TxW K CW) (GP : GF P w K mg base CX0 3 "spell" ["word", "numbers"] spSpell) : FnOk P w K mg base CX0 4 f fd ["self"] (spSpelled CW .need) := by
  refine F.ok sc_NeedStep_spelled (fun vs H Q E h => ?_) (fun cdv A outer s H vs Q E hr h => ?_)
  · obtain ⟨v, ns, rfl, _⟩ := h
    rfl
  obtain ⟨v, ns, rfl, ar, ⟨a, dx, rfl, ha⟩, q⟩ := h
  obtain ⟨x, rfl, _⟩ := ar.n
  refine ⟨_, pss_one (ps_ret (pc GP hr (pa_cons pe_str (pa_cons (pe_lst (pa_cons (pe_fld (pv 0) rfl) pa_nil)) pa_nil)))), ?_⟩
  refine ⟨_, rfl, a, _, dx, _, _, rfl, ha, W.cl _, W.nA _, (by show (putF "amount" _ []).lookup _ = _; rw [lk_hit]), (by show 1 ≤ sizeLine; decide), fun l hl => ?_⟩
  exact ⟨.need, l, _, rfl, upd_same, ar, fun H' s' => q H' ((same_new hl).trans s')⟩
end
end K24
set_option maxHeartbeats 4000000
namespace K24
open PySem L2 Lo St
section
variable {P : Program} {w : World} {K : PySem.W.Frag} {mg : Str → Option Value} {base : Heap} {f CL CP : Addr} {fd : FuncData} {C : Kd → Addr} {CW : Wd → Addr}
theorem ok_msum (F : Fun K "made_sum" "made_sum" s_made_sum f fd) (I : WI P w K mg base CW .sum) : FnOk P w K mg base CX0 4 f fd ["where", "low", "high"] (spMSum CW) := by
  refine F.ok sc_made_sum (fun vs H Q E h => ?_) (fun cdv A outer s H vs Q E hr h => ?_)
  · obtain ⟨x, y, z, rfl, _⟩ := h
    rfl
  obtain ⟨x, y, z, rfl, ar, q⟩ := h
  have hr1 : Room (2 + 1) _ := hr
  refine ⟨_, pss_cons (ps_if (pt_cmpR op_gt (pv 1) (pv 2) (nomark _)) pss_never pss_nil) (pss_one (ps_ret (pe_make I.M I.ok hr1 rfl I.m I.b .nil pass0 (pa_cons (pv 0) (pa_cons (pv 1) (pa_cons (pv 2) pa_nil)))))), ?_⟩
  have hle : y ≤ z := ar.2.2.2
  refine ⟨_, rfl, _, rfl, _, _, rfl, rfl, _, rfl, ite2 (fun c => absurd (of_decide_eq_true c) (show ¬ z < y by omega)) (fun _ => ?_)⟩
  exact ⟨_, rfl, _, rfl, _, rfl, fun p dp np ndp nep => ⟨p, dp, [x, y, z], rfl, ar, upd_same, fun H' h1 h2 => ⟨rfl, q _ H' (mk_kp np ndp h2) ⟨p, dp, rfl, h1⟩⟩⟩⟩
theorem ok_mstep (F : Fun K "made_step" "made_step" s_made_step f fd) (I : ∀ wd, WI P w K mg base CW wd) (GS : GF P w K mg base CX0 4 "made_sum" ["where", "low", "high"] (spMSum CW)) : FnOk P w K mg base CX0 5 f fd ["word", "numbers"] (spMade CW) := by
  refine F.ok sc_made_step (fun vs H Q E h => ?_) (fun cdv A outer s H vs Q E hr h => ?_)
  · obtain ⟨wd, b, ns, rfl, _⟩ := h
    rfl
  obtain ⟨wd, b, ns, rfl, hb, ar, q⟩ := h
  have hr1 : Room (2 + 1) _ := hr.mono (by decide)
  refine ⟨_, (pss_cons (ps_if (pt_cmpR op_eq (pv 0) pe_str (nomark _)) (pss_one (ps_ret (pe_make (I .take).M (I .take).ok hr1 rfl (I .take).m (I .take).b .nil pass0 (pa_cons (pe_ix (r := rIxL K) ix_list (pv 1) pe_int (fun _ _ => rfl)) (pa_cons (pe_ix (r := rIxL K) ix_list (pv 1) pe_int (fun _ _ => rfl)) pa_nil))))) pss_nil)
    (pss_cons (ps_if (pt_cmpR op_eq (pv 0) pe_str (nomark _)) (pss_one (ps_ret (pe_make (I .mean).M (I .mean).ok hr1 rfl (I .mean).m (I .mean).b .nil pass0 (pa_cons (pe_ix (r := rIxL K) ix_list (pv 1) pe_int (fun _ _ => rfl)) (pa_cons (pe_ix (r := rIxL K) ix_list (pv 1) pe_int (fun _ _ => rfl)) pa_nil))))) pss_nil)
    (pss_cons (ps_if (pt_cmpR op_eq (pv 0) pe_str (nomark _)) (pss_one (ps_ret (pc GS hr (pa_cons (pe_ix (r := rIxL K) ix_list (pv 1) pe_int (fun _ _ => rfl)) (pa_cons (pe_ix (r := rIxL K) ix_list (pv 1) pe_int (fun _ _ => rfl)) (pa_cons (pe_ix (r := rIxL K) ix_list (pv 1) pe_int (fun _ _ => rfl)) pa_nil)))))) pss_nil)
    (pss_cons (ps_if (pt_cmpR op_eq (pv 0) pe_str (nomark _)) (pss_one (ps_ret (pe_make (I .give).M (I .give).ok hr1 rfl (I .give).m (I .give).b .nil pass0 (pa_cons (pe_ix (r := rIxL K) ix_list (pv 1) pe_int (fun _ _ => rfl)) (pa_cons (pe_ix (r := rIxL K) ix_list (pv 1) pe_int (fun _ _ => rfl)) pa_nil))))) pss_nil)
    (pss_cons (ps_if (pt_cmpR op_eq (pv 0) pe_str (nomark _)) (pss_one (ps_ret (pe_make (I .add).M (I .add).ok hr1 rfl (I .add).m (I .add).b .nil pass0 (pa_cons (pe_ix (r := rIxL K) ix_list (pv 1) pe_int (fun _ _ => rfl)) (pa_cons (pe_ix (r := rIxL K) ix_list (pv 1) pe_int (fun _ _ => rfl)) (pa_cons (pe_ix (r := rIxL K) ix_list (pv 1) pe_int (fun _ _ => rfl)) pa_nil)))))) pss_nil)
    (pss_cons (ps_if (pt_cmpR op_eq (pv 0) pe_str (nomark _)) (pss_one (ps_ret (pe_make (I .plus).M (I .plus).ok hr1 rfl (I .plus).m (I .plus).b .nil pass0 (pa_cons (pe_ix (r := rIxL K) ix_list (pv 1) pe_int (fun _ _ => rfl)) pa_nil)))) pss_nil)
    (pss_one (ps_ret (pe_make (I .need).M (I .need).ok hr1 rfl (I .need).m (I .need).b .nil pass0 (pa_cons (pe_ix (r := rIxL K) ix_list (pv 1) pe_int (fun _ _ => rfl)) pa_nil)))))))))), ?_⟩
  refine ⟨_, rfl, rfl, _, rfl, ite2 (fun c => ?_) (fun c0 => ?_)⟩
  · obtain rfl : wd = .take := w_hit c
    obtain ⟨x, y, rfl, _⟩ := ar.c rfl
    exact ⟨_, rfl, b, _, _, _, rfl, rfl, SqL.of hb, rfl, _, rfl, b, _, _, _, rfl, rfl, SqL.of hb, rfl, fun p dp np ndp nep => ⟨p, dp, [x, y], rfl, ar, upd_same, fun H' h1 h2 => ⟨rfl, q _ H' (mk_kp np ndp h2) ⟨p, dp, rfl, h1⟩⟩⟩⟩
  refine ⟨_, rfl, rfl, _, rfl, ite2 (fun c => ?_) (fun c1 => ?_)⟩
  · obtain rfl : wd = .mean := w_hit c
    obtain ⟨x, y, rfl, _⟩ := ar.c rfl
    exact ⟨_, rfl, b, _, _, _, rfl, rfl, SqL.of hb, rfl, _, rfl, b, _, _, _, rfl, rfl, SqL.of hb, rfl, fun p dp np ndp nep => ⟨p, dp, [x, y], rfl, ar, upd_same, fun H' h1 h2 => ⟨rfl, q _ H' (mk_kp np ndp h2) ⟨p, dp, rfl, h1⟩⟩⟩⟩
  refine ⟨_, rfl, rfl, _, rfl, ite2 (fun c => ?_) (fun c2 => ?_)⟩
  · obtain rfl : wd = .sum := w_hit c
    obtain ⟨x, y, z, rfl, _⟩ := ar.s
    exact ⟨_, rfl, b, _, _, _, rfl, rfl, SqL.of hb, rfl, _, rfl, b, _, _, _, rfl, rfl, SqL.of hb, rfl, _, rfl, b, _, _, _, rfl, rfl, SqL.of hb, rfl, x, y, z, rfl, ar, q⟩
  refine ⟨_, rfl, rfl, _, rfl, ite2 (fun c => ?_) (fun c3 => ?_)⟩
  · obtain rfl : wd = .give := w_hit c
    obtain ⟨x, y, rfl, _⟩ := ar.c rfl
    exact ⟨_, rfl, b, _, _, _, rfl, rfl, SqL.of hb, rfl, _, rfl, b, _, _, _, rfl, rfl, SqL.of hb, rfl, fun p dp np ndp nep => ⟨p, dp, [x, y], rfl, ar, upd_same, fun H' h1 h2 => ⟨rfl, q _ H' (mk_kp np ndp h2) ⟨p, dp, rfl, h1⟩⟩⟩⟩
  refine ⟨_, rfl, rfl, _, rfl, ite2 (fun c => ?_) (fun c4 => ?_)⟩
  · obtain rfl : wd = .add := w_hit c
    obtain ⟨x, y, z, rfl, _⟩ := ar.a
    exact ⟨_, rfl, b, _, _, _, rfl, rfl, SqL.of hb, rfl, _, rfl, b, _, _, _, rfl, rfl, SqL.of hb, rfl, _, rfl, b, _, _, _, rfl, rfl, SqL.of hb, rfl, fun p dp np ndp nep => ⟨p, dp, [x, y, z], rfl, ar, upd_same, fun H' h1 h2 => ⟨rfl, q _ H' (mk_kp np ndp h2) ⟨p, dp, rfl, h1⟩⟩⟩⟩
  refine ⟨_, rfl, rfl, _, rfl, ite2 (fun c => ?_) (fun c5 => ?_)⟩
  · obtain rfl : wd = .plus := w_hit c
    obtain ⟨x, rfl, _⟩ := ar.p
    exact ⟨_, rfl, b, _, _, _, rfl, rfl, SqL.of hb, rfl, fun p dp np ndp nep => ⟨p, dp, [x], rfl, ar, upd_same, fun H' h1 h2 => ⟨rfl, q _ H' (mk_kp np ndp h2) ⟨p, dp, rfl, h1⟩⟩⟩⟩
  obtain rfl : wd = .need := w_need (w_miss (b := .take) c0) (w_miss (b := .mean) c1) (w_miss (b := .sum) c2) (w_miss (b := .give) c3) (w_miss (b := .add) c4) (w_miss (b := .plus) c5)
  obtain ⟨x, rfl, _⟩ := ar.n
  exact ⟨_, rfl, b, _, _, _, rfl, rfl, SqL.of hb, rfl, fun p dp np ndp nep => ⟨p, dp, [x], rfl, ar, upd_same, fun H' h1 h2 => ⟨rfl, q _ H' (mk_kp np ndp h2) ⟨p, dp, rfl, h1⟩⟩⟩⟩
theorem ok_rnum {CN : Addr} {bm : List Value} {new : String} (F : Fun K "read_number" "read_number" s_read_number f fd) (B : TxB mg) (mN : mg "NoThing" = some (.ref CN)) (xN : PySem.W.excIn K CN bm new = true) (hb : bm.contains (.type "BaseException") = true)
    (cF : ∃ t, mg "MOST_FIGURES_steps" = some (.int 40 t)) (GR : GF P w K mg base CX0 4 "read_thing" ["text"] K24T.spRead) (GW : GF P w K mg base CX0 1 "is_whole" ["thing"] K24T.spWhole) : FnOk P w K mg base CX0 5 f fd ["word", "letter"] spRNum := by
  refine F.ok sc_read_number (fun vs H Q E h => ?_) (fun cdv A outer s H vs Q E hr h => ?_)
  · obtain ⟨i, c, rfl, _⟩ := h
    rfl
  obtain ⟨i, c, rfl, hi, hneg, q⟩ := h
  have nd := sc_read_number.nd
  refine ⟨_, pss_cons (ps_trySet (j := 2) (C := CN) rfl rfl rfl nd rfl (Or.inl rfl) (pex_of (pc GR hr (pa_cons (pv 0) pa_nil))) rfl mN (takes_self mN xN hb) (fun _ => pss_never))
    (pss_cons (ps_if (PW.pt (pw_or (pt_not (pt_val (pc GW hr (pa_cons (pv 2) pa_nil)))) (pw_or1 (pt_cmpR op_gt (pe_callB call_len_str rfl B.len PySem.boot_len (pa_cons (pe_bm PySem.F.plainAttrs_str PySem.F.slot_str_lstrip PySem.F.type_str_lstrip mt_lstripC (pv 0) (pa_cons pe_str pa_nil)) pa_nil)) (gint cF rfl) (nomark _))))) pss_never pss_nil)
    (pss_cons (ps_if (PW.pt (pw_and (pt_cmpR op_lt (pv 2) pe_int (nomark _)) (pw_and1 (pt_cmpR op_ne (pv 1) pe_str (nomark _))))) pss_never pss_nil)
    (pss_one (ps_ret (pv 2))))), ?_⟩
  have hl := iS_line hi
  have h1 : (100000 : Nat) ≤ sizeLine := by decide
  have hL := lstrip_len hi
  refine ⟨_, rfl, iS i, .int i, rfl, (by rw [iS_cs]; exact .num i (Nat.lt_trans hi (by decide +kernel))), (fun d hd => ?_), hl, fun H1 s1 => ?_⟩
  · rw [iS_cs] at hd
    rcases num_in hd with rfl | ⟨a1, a2⟩
    · decide
    · show (decide _ && decide _ && _) = true
      simp
      omega
  refine ⟨_, rfl, _, _, rfl, rfl, _, rfl, iteF ?_⟩
  refine ⟨_, rfl, rfl, iS i, _, rfl, rfl, by omega, _, rfl, Nat.le_trans hL (by decide), _, _, rfl, rfl, _, rfl, ite2 (fun c => absurd (of_decide_eq_true c) (fun z => ?_)) (fun _ => ?_)⟩
  · have z' : (40 : Int) < (((Txt.lstripChars (iS i) (Str.ofString "-")).length : Nat) : Int) := z
    omega
  refine ⟨_, rfl, _, _, rfl, rfl, _, rfl, ite2 (fun cc => ?_) (fun _ => ⟨_, rfl, q H1 s1⟩)⟩
  have hc : c = 86 := hneg (of_decide_eq_true cc)
  subst hc
  exact ⟨_, rfl, rfl, _, rfl, iteNS (congrArg V.str (by decide +kernel)) ⟨_, rfl, q H1 s1⟩⟩
theorem ok_rstep (F : Fun K "read_step" "read_step" s_read_step f fd) (B : TxB mg) {aS : Addr} (mS : mg "SHAPES" = some (.ref aS)) (tS : TabK K aS shapesD) (GN : GF P w K mg base CX0 5 "read_number" ["word", "letter"] spRNum)
    (GS : GF P w K mg base CX0 5 "made_step" ["word", "numbers"] (spMade CW)) : FnOk P w K mg base CX0 6 f fd ["text"] (spRStep CW) := by
  refine F.ok sc_read_step (fun vs H Q E h => ?_) (fun cdv A outer s H vs Q E hr h => ?_)
  · obtain ⟨wd, ns, rfl, _⟩ := h
    rfl
  obtain ⟨wd, ns, rfl, ar, q⟩ := h
  have nd := sc_read_step.nd
  have hl3 := ar.len
  have el := shp_len ar
  refine ⟨_, pss_cons (ps_set (i := 1) nd rfl (Or.inr rfl) (pe_bm PySem.F.plainAttrs_str PySem.F.slot_str_split PySem.F.type_str_split mt_split1 (pv 0) (pa_cons pe_str pa_nil)))
    (pss_cons (ps_set (i := 2) nd rfl (Or.inr rfl) (pe_tabS (D := shapesD) (pe_glob (v := .ref aS) rfl mS rfl) (pe_ix (r := rIxL K) ix_list (pv 1) pe_int (fun _ _ => rfl)) ⟨rfl, rfl, rfl, rfl⟩ tS))
    (pss_cons (ps_if (PW.pt (pw_or (pt_cmpR op_isN (pv 2) pe_non (nomark _)) (pw_or1 (pt_cmpR op_ne (pe_callB call_len_seq rfl B.len PySem.boot_len (pa_cons (pv 1) pa_nil)) (pe_op op_add (pe_callB call_len_str rfl B.len PySem.boot_len (pa_cons (pv 2) pa_nil)) pe_int) (nomark _))))) pss_never pss_nil)
    (pss_one (ps_ret (pc GS hr (pa_cons (pe_ix (r := rIxL K) ix_list (pv 1) pe_int (fun _ _ => rfl)) (pa_cons (pe_lc sb_read_step_0 rfl (pi_range1 rfl B.range (pa_cons (pe_callB call_len_str rfl B.len PySem.boot_len (pa_cons (pv 2) pa_nil)) pa_nil)) (fun _ _ _ _ => pts_nil)
      (fun _ _ _ _ => pc GN hr (pa_cons (pe_ix (r := rIxL K) ix_list (pv 1) (pe_op op_add (pv 0) pe_int) (fun _ _ => rfl)) (pa_cons (pe_ix ix_str (pv 2) (pv 0) (fun _ _ => rfl)) pa_nil)))) pa_nil))))))), ?_⟩
  refine ⟨_, rfl, rfl, txt wd ns, 32, rfl, congrArg (fun z => [V.str z]) sep_eq, txt_len ar, fun p hp => ?_⟩
  rw [split_txt]
  have s1 : Same H _ := same_new (o := .lst ((wS wd :: ns.map iS).map V.str)) hp
  have hp1 : (upd H p (.lst ((wS wd :: ns.map iS).map V.str))) p = some (.lst ((wS wd :: ns.map iS).map V.str)) := upd_same
  generalize (upd H p _) = H1 at s1 hp1 ⊢
  refine ⟨_, rfl, p, _, _, _, rfl, rfl, SqL.of hp1, at0, wS wd, shp wd, rfl, shape_at wd, ?_⟩
  refine ⟨_, rfl, rfl, _, rfl, ite2 (fun c => absurd (of_decide_eq_true c) (by intro z; cases z)) (fun _ => ?_)⟩
  refine ⟨_, rfl, p, _, rfl, .inl (SqL.of hp1), _, rfl, _, rfl, shp_line wd, _, _, rfl, rfl, rfl, _, rfl, iteNS ?_ ?_⟩
  · rw [el]
    simp
  refine ⟨_, rfl, p, _, _, _, rfl, rfl, SqL.of hp1, at0, ?_⟩
  refine ⟨_, rfl, _, rfl, shp_line wd, _, rfl, by omega, by rw [el]; omega, ?_⟩
  have e0 : (((shp wd).length : Nat) : Int).toNat = ns.length := by rw [el]; rfl
  rw [e0]
  refine lc_range (n := ns.length) (fun i ys H' => Same H1 H' ∧ ys = (ns.take i).map V.int) ⟨Same.refl _, rfl⟩ (Nat.le_trans hl3.2 (by decide)) ?_ ?_
  · rintro i ys H2 hi ⟨s2, rfl⟩
    have hn : ns[i]? = some ns[i] := List.getElem?_eq_getElem hi
    obtain ⟨c, hc, hneg⟩ := shp_at ar hn
    refine tAllT ⟨_, rfl, _, rfl, _, _, rfl, rfl, p, _, _, _, rfl, rfl, SqL.of (s2 _ _ hp1), ?_, _, rfl, _, rfl, _, _, _, rfl, rfl, shp_line wd, atI_nat hc, ns[i], c, rfl, ar.all _ (List.getElem_mem hi), hneg, fun H3 s3 => ⟨s2.trans s3, ?_⟩⟩
    · have e1 : ((i : Nat) : Int) + 1 = ((i + 1 : Nat) : Int) := rfl
      rw [e1]
      refine atI_nat ?_
      rw [List.map_cons, List.getElem?_cons_succ, List.map_map, List.getElem?_map, hn]
      rfl
    · have e2 : ns.take (i + 1) = ns.take i ++ [ns[i]] := by
        rw [List.take_add_one, hn]
        rfl
      rw [e2, List.map_append]
      rfl
  · rintro ys H2 ⟨s2, rfl⟩ p2 hp2
    rw [List.take_length]
    exact ⟨wd, p2, ns, rfl, upd_same, ar, fun v H3 s3 st => q v H3 (s1.trans (s2.trans ((same_new hp2).trans s3))) st⟩
end
end K24
set_option maxHeartbeats 4000000
namespace K24
open PySem L2 Lo St
section
variable {P : Program} {w : World} {K : PySem.W.Frag} {mg : Str → Option Value} {base : Heap} {f CL CP : Addr} {fd : FuncData} {C : Kd → Addr} {CW : Wd → Addr}
theorem ok_whole (F : Fun K "_law_whole" "_law_whole" s__law_whole f fd) (B : TxB mg) : FnOk P w K mg base CX0 1 f fd ["_law_found"] spWhole := by
  refine F.ok sc__law_whole (fun vs H Q E h => ?_) (fun cdv A outer s H vs Q E hr h => ?_)
  · obtain ⟨i, rfl, _⟩ := h
    rfl
  obtain ⟨i, rfl, q⟩ := h
  refine ⟨_, pss_one (ps_ret (pe_and (pe_callB call_isinst rfl B.isi PyProof.Rows.boot_isinstance (pa_cons (pv 0) (pa_cons (pe_bltn (v := .ty "int") rfl B.int PyProof.Rows.boot_int rfl) pa_nil)))
    (pe_one (pe_not (pe_callB call_isinst rfl B.isi PyProof.Rows.boot_isinstance (pa_cons (pv 0) (pa_cons (pe_bltn (v := .ty "bool") rfl B.bool PyProof.Rows.boot_bool rfl) pa_nil))))))), ?_⟩
  refine ⟨_, rfl, _, _, _, _, rfl, TyOf.int i, kit_ii, _, rfl, iteT ?_⟩
  exact ⟨_, rfl, _, _, _, _, rfl, TyOf.int i, kit_ib, _, rfl, q⟩
theorem ok_mixed (F : Fun K "_law_mixed" "_law_mixed" s__law_mixed f fd) : FnOk P w K mg base CX0 1 f fd ["_law_cell_here", "_law_k"] spMixed := by
  refine F.ok sc__law_mixed (fun vs H Q E h => ?_) (fun cdv A outer s H vs Q E hr h => ?_)
  · obtain ⟨c, k, rfl, _⟩ := h
    rfl
  obtain ⟨c, k, rfl, q⟩ := h
  have nd := sc__law_mixed.nd
  refine ⟨_, pss_cons (ps_set (i := 2) nd rfl (Or.inl rfl) (pe_op op_mod (pe_op op_mul (pe_op op_add (pe_op op_add (pv 0) (pe_op op_mul pe_int (pv 1))) pe_int) pe_int) pe_int))
    (pss_one (ps_ret (pe_op op_mod (pe_op op_mul (pv 2) (pe_op op_add (pe_op op_fdiv (pv 2) pe_int) pe_int)) pe_int))), ?_⟩
  refine ⟨_, rfl, _, rfl, _, _, rfl, rfl, .inl ⟨by decide +kernel, by decide +kernel⟩, _, _, rfl, rfl, _, _, rfl, rfl, _, _, rfl, rfl, .inr ⟨by decide +kernel, by decide +kernel⟩, _, _, rfl, rfl, (by show (0 : Int) < 2147483647; decide), ?_⟩
  have h0 : 0 ≤ (c + 7919 * k + 1) * 48271 % 2147483647 := Int.emod_nonneg _ (by decide)
  have h1 : (c + 7919 * k + 1) * 48271 % 2147483647 < 2147483647 := Int.emod_lt_of_pos _ (by decide)
  exact ⟨_, rfl, _, rfl, _, _, rfl, rfl, ⟨by decide, by decide⟩, _, _, rfl, rfl, _, _, rfl, rfl, .inl ⟨by omega, by omega⟩, _, _, rfl, rfl, (by show (0 : Int) < 2147483647; decide), q _ (Int.emod_nonneg _ (by decide)) (Int.emod_lt_of_pos _ (by decide))⟩
theorem ok_number (F : Fun K "_law_number" "_law_number" s__law_number f fd) (B : TxB mg) (GX : GF P w K mg base CX0 1 "_law_mixed" ["_law_cell_here", "_law_k"] spMixed) : FnOk P w K mg base CX0 2 f fd ["_law_cell_here", "_law_k"] spNumber := by
  refine F.ok sc__law_number (fun vs H Q E h => ?_) (fun cdv A outer s H vs Q E hr h => ?_)
  · obtain ⟨c, k, rfl, _⟩ := h
    rfl
  obtain ⟨c, k, rfl, q⟩ := h
  have nd := sc__law_number.nd
  refine ⟨_, pss_cons (ps_set (i := 2) nd rfl (Or.inl rfl) (pc GX hr (pa_cons (pv 0) (pa_cons (pv 1) pa_nil))))
    (pss_cons (ps_if (pt_cmpR op_eq (pe_op op_mod (pv 2) pe_int) pe_int (nomark _)) (pss_one (ps_ret (pe_op op_sub (pe_op op_pow pe_int pe_int) pe_int))) pss_nil)
    (pss_cons (ps_if (pt_cmpR op_eq (pe_op op_mod (pv 2) pe_int) pe_int (nomark _)) (pss_one (ps_ret (pe_op op_mod (pe_op op_fdiv (pv 2) pe_int) pe_int))) pss_nil)
    (pss_cons (ps_if (pt_cmpR op_eq (pe_op op_mod (pv 2) pe_int) pe_int (nomark _)) (pss_one (ps_ret (pe_op op_fdiv (pv 2) pe_int))) pss_nil)
    (pss_cons (ps_for PassesOwn.never rfl (pi_range1 rfl B.range (pa_cons pe_int pa_nil)) (pg_name (i := 3) nd rfl (Or.inl rfl))
      (pss_one (ps_set (i := 2) nd rfl (Or.inl rfl) (pe_op op_mul (pv 2) (pe_op op_add pe_int (pc GX hr (pa_cons (pv 0) (pa_cons (pe_op op_add (pv 1) (pe_op op_mul pe_int (pe_op op_add (pv 3) pe_int))) pa_nil))))))))
    (pss_one (ps_ret (pe_op op_mod (pv 2) (pe_op op_pow pe_int pe_int)))))))), ?_⟩
  refine ⟨_, rfl, _, rfl, _, _, rfl, fun r h0 h1 => ?_⟩
  have hbig : (2147483647 : Int) ≤ 10 ^ 40 := by decide +kernel
  refine ⟨_, rfl, _, _, rfl, rfl, (by show (0 : Int) < 23; decide), rfl, _, rfl, ite2 (fun _ => ?_) (fun _ => ?_)⟩
  · exact ⟨_, _, rfl, rfl, ⟨by decide, by decide, by decide⟩, _, _, rfl, rfl, q _ ⟨(by show (0 : Int) ≤ 10 ^ 40 - 1; decide +kernel), (by show (10 : Int) ^ 40 - 1 < 10 ^ 40; decide +kernel)⟩⟩
  refine ⟨_, rfl, _, _, rfl, rfl, (by show (0 : Int) < 3; decide), rfl, _, rfl, ite2 (fun _ => ?_) (fun _ => ?_)⟩
  · exact ⟨_, rfl, _, _, rfl, rfl, ⟨by decide, by decide⟩, _, _, rfl, rfl, (by show (0 : Int) < 9; decide), q _ ⟨Int.emod_nonneg _ (by decide), Int.lt_of_lt_of_le (Int.emod_lt_of_pos _ (by decide)) (by decide +kernel)⟩⟩
  refine ⟨_, rfl, _, _, rfl, rfl, (by show (0 : Int) < 3; decide), rfl, _, rfl, ite2 (fun _ => ?_) (fun _ => ?_)⟩
  · exact ⟨_, rfl, _, _, rfl, rfl, ⟨by decide, by decide⟩, q _ ⟨Int.ediv_nonneg h0 (by decide), Int.lt_of_lt_of_le (show r / 3 < 2147483647 by omega) hbig⟩⟩
  refine ⟨4, rfl, by decide, by decide, ?_⟩
  refine for_range (n := 4) (fun i σ H' => H' = H ∧ ∃ m x3, σ = [some (.int c), some (.int k), some (.int m), x3]) ⟨rfl, _, none, rfl⟩ ?_ ?_
  · rintro i σ H1 hi ⟨rfl, m, x3, rfl⟩
    exact ⟨_, rfl, _, rfl, _, rfl, _, rfl, _, _, rfl, rfl, _, _, rfl, rfl, .inl ⟨by decide +kernel, by decide +kernel⟩, _, _, rfl, rfl, _, _, rfl, fun r2 g0 g1 => ⟨_, _, rfl, rfl, _, _, rfl, rfl, .inr ⟨by omega, by omega⟩, rfl, _, _, rfl⟩⟩
  · rintro σ H1 ⟨rfl, m, x3, rfl⟩
    exact ⟨_, rfl, _, _, rfl, rfl, ⟨by decide, by decide, by decide⟩, _, _, rfl, rfl, (by show (0 : Int) < 10 ^ 40; decide +kernel), q _ ⟨Int.emod_nonneg _ (by show (10 : Int) ^ 40 ≠ 0; decide +kernel), Int.emod_lt_of_pos _ (by show (0 : Int) < 10 ^ 40; decide +kernel)⟩⟩
theorem ok_either (F : Fun K "_law_either" "_law_either" s__law_either f fd) (GX : GF P w K mg base CX0 1 "_law_mixed" ["_law_cell_here", "_law_k"] spMixed) (GN : GF P w K mg base CX0 2 "_law_number" ["_law_cell_here", "_law_k"] spNumber) : FnOk P w K mg base CX0 3 f fd ["_law_cell_here", "_law_k"] spEither := by
  refine F.ok sc__law_either (fun vs H Q E h => ?_) (fun cdv A outer s H vs Q E hr h => ?_)
  · obtain ⟨c, k, rfl, _⟩ := h
    rfl
  obtain ⟨c, k, rfl, q⟩ := h
  refine ⟨_, pss_cons (ps_if (pt_cmpR op_eq (pe_op op_mod (pc GX hr (pa_cons (pv 0) (pa_cons (pe_op op_add (pv 1) pe_int) pa_nil))) pe_int) pe_int (nomark _)) (pss_one (ps_ret (pe_op op_sub pe_int (pc GN hr (pa_cons (pv 0) (pa_cons (pv 1) pa_nil)))))) pss_nil)
    (pss_one (ps_ret (pc GN hr (pa_cons (pv 0) (pa_cons (pv 1) pa_nil))))), ?_⟩
  refine ⟨_, rfl, _, rfl, _, _, rfl, rfl, _, _, rfl, fun r h0 h1 => ⟨_, _, rfl, rfl, (by show (0 : Int) < 2; decide), rfl, _, rfl, ite2 (fun _ => ?_) (fun _ => ?_)⟩⟩
  · refine ⟨_, rfl, _, rfl, _, _, rfl, fun r hr => ⟨_, _, rfl, rfl, q _ ?_⟩⟩
    show (0 - r).natAbs < 10 ^ 40
    have := hr.v
    unfold St.inV at this
    omega
  · exact ⟨_, rfl, _, rfl, _, _, rfl, fun r hr => q _ hr.v⟩
theorem ok_lstep (F : Fun K "_law_step" "_law_step" s__law_step f fd) (B : TxB mg) (hmin : mg "min" = none) (GN : GF P w K mg base CX0 2 "_law_number" ["_law_cell_here", "_law_k"] spNumber) (GE : GF P w K mg base CX0 3 "_law_either" ["_law_cell_here", "_law_k"] spEither) : FnOk P w K mg base CX0 4 f fd ["_law_cell_here"] spLStep := by
  refine F.ok sc__law_step (fun vs H Q E h => ?_) (fun cdv A outer s H vs Q E hr h => ?_)
  · obtain ⟨c, rfl, _⟩ := h
    rfl
  obtain ⟨c, rfl, q⟩ := h
  have nd := sc__law_step.nd
  obtain ⟨wd, hw⟩ := w_of (c % 7) (Int.emod_nonneg _ (by decide)) (Int.emod_lt_of_pos _ (by decide))
  refine ⟨_, pss_cons (ps_set (i := 1) nd rfl (Or.inl rfl) (pe_ix (r := rIxL K) ix_list (pe_lst (pa_cons pe_str (pa_cons pe_str (pa_cons pe_str (pa_cons pe_str (pa_cons pe_str (pa_cons pe_str (pa_cons pe_str pa_nil)))))))) (pe_op op_mod (pv 0) pe_int) (fun _ _ => rfl)))
    (pss_cons (ps_set (i := 2) nd rfl (Or.inl rfl) (pc GN hr (pa_cons (pv 0) (pa_cons pe_int pa_nil))))
    (pss_cons (ps_set (i := 3) nd rfl (Or.inl rfl) (pc GN hr (pa_cons (pv 0) (pa_cons pe_int pa_nil))))
    (pss_cons (ps_set (i := 4) nd rfl (Or.inl rfl) (pc GN hr (pa_cons (pv 0) (pa_cons pe_int pa_nil))))
    (pss_cons (ps_if (PW.pt (pw_or (pt_cmpR op_eq (pv 1) pe_str (nomark _)) (pw_or1 (pt_cmpR op_eq (pv 1) pe_str (nomark _))))) (pss_one (ps_ret (pe_tup (pa_cons (pv 1) (pa_cons (pc GE hr (pa_cons (pv 0) (pa_cons pe_int pa_nil))) pa_nil))))) pss_nil)
    (pss_cons (ps_if (pt_cmpR op_eq (pv 1) pe_str (nomark _)) (pss_one (ps_ret (pe_tup (pa_cons (pv 1) (pa_cons (pv 2) (pa_cons (pv 3) (pa_cons (pc GE hr (pa_cons (pv 0) (pa_cons pe_int pa_nil))) pa_nil))))))) pss_nil)
    (pss_cons (ps_if (pt_cmpR op_eq (pv 1) pe_str (nomark _)) (pss_one (ps_ret (pe_tup (pa_cons (pv 1) (pa_cons (pv 2) (pa_cons (pe_callB (call_min2 rfl) rfl hmin PyProof.Rows.boot_min (pa_cons (pv 3) (pa_cons (pv 4) pa_nil))) (pa_cons (pe_callB (call_max2 rfl) rfl B.max PyProof.Rows.boot_max (pa_cons (pv 3) (pa_cons (pv 4) pa_nil))) pa_nil))))))) pss_nil)
    (pss_one (ps_ret (pe_tup (pa_cons (pv 1) (pa_cons (pv 2) (pa_cons (pv 3) pa_nil))))))))))))  , ?_⟩
  refine ⟨(by show 7 ≤ sizeLine; decide), fun l hl => ?_⟩
  have s1 : Same H _ := same_new (o := .lst [.str "take", .str "mean", .str "sum", .str "give", .str "add", .str "plus", .str "need"]) hl
  refine ⟨_, rfl, _, _, rfl, rfl, (by show (0 : Int) < 7; decide), l, _, _, _, rfl, rfl, SqL.of upd_same, hw, ?_⟩
  generalize (upd H l _) = H1 at s1 ⊢
  refine ⟨_, rfl, _, _, rfl, fun x hx => ⟨_, rfl, _, _, rfl, fun y hy => ⟨_, rfl, _, _, rfl, fun z hz => ?_⟩⟩⟩
  have pn : ∀ (hw : wd = .plus ∨ wd = .need) (r : Int), inV r → Ar wd [r] := fun hw r hr => by rcases hw with rfl | rfl <;> exact hr
  refine ⟨_, rfl, rfl, _, rfl, ite2 (fun c => iteT ?_) (fun c1 => ⟨_, rfl, rfl, _, rfl, ite2 (fun c => ?_) (fun c2 => ?_)⟩)⟩
  · exact ⟨_, rfl, _, rfl, _, _, rfl, fun r hr => ⟨(by show 2 ≤ sizeLine; decide), fun t ht => q wd [r] _ _ (pn (.inl (w_hit c)) r hr) (s1.trans (same_new ht)) ⟨t, rfl, upd_same⟩⟩⟩
  · exact ⟨_, rfl, _, rfl, _, _, rfl, fun r hr => ⟨(by show 2 ≤ sizeLine; decide), fun t ht => q wd [r] _ _ (pn (.inr (w_hit c)) r hr) (s1.trans (same_new ht)) ⟨t, rfl, upd_same⟩⟩⟩
  refine ⟨_, rfl, rfl, _, rfl, ite2 (fun c => ?_) (fun c3 => ?_)⟩
  · obtain rfl : wd = .add := w_hit c
    exact ⟨_, rfl, _, rfl, _, rfl, _, rfl, _, _, rfl, fun r hr => ⟨(by show 4 ≤ sizeLine; decide), fun t ht => q .add [x, y, r] _ _ ⟨hx, hy, hr⟩ (s1.trans (same_new ht)) ⟨t, rfl, upd_same⟩⟩⟩
  refine ⟨_, rfl, rfl, _, rfl, ite2 (fun c => ?_) (fun c4 => ?_)⟩
  · obtain rfl : wd = .sum := w_hit c
    refine ⟨_, rfl, _, rfl, _, rfl, _, rfl, _, _, rfl, _, rfl, _, rfl, _, _, rfl, (by show 4 ≤ sizeLine; decide), fun t ht => q .sum [x, if z < y then z else y, if z > y then z else y] _ _ ⟨hx, ?_, ?_, ?_⟩ (s1.trans (same_new ht)) ⟨t, rfl, upd_same⟩⟩
    · split
      · exact hz
      · exact hy
    · split
      · exact hz
      · exact hy
    · split <;> split <;> omega
  · refine ⟨_, rfl, _, rfl, _, rfl, (by show 3 ≤ sizeLine; decide), fun t ht => q wd [x, y] _ _ ?_ (s1.trans (same_new ht)) ⟨t, rfl, upd_same⟩⟩
    have n1 := w_miss (b := .plus) c1
    have n2 := w_miss (b := .need) c2
    have n3 := w_miss (b := .add) c3
    have n4 := w_miss (b := .sum) c4
    cases wd <;> first | contradiction | exact ⟨hx, hy⟩
theorem ok_ltext (F : Fun K "_law_text" "_law_text" s__law_text f fd) (B : TxB mg) : FnOk P w K mg base CX0 1 f fd ["_law_step_here"] spLText := by
  refine F.ok sc__law_text (fun vs H Q E h => ?_) (fun cdv A outer s H vs Q E hr h => ?_)
  · obtain ⟨wd, ns, v, rfl, _⟩ := h
    rfl
  obtain ⟨wd, ns, v, rfl, ⟨b, rfl, hb⟩, ar, q⟩ := h
  have hl3 := ar.len
  refine ⟨_, pss_one (ps_ret (pe_bm PySem.F.plainAttrs_str PySem.F.slot_str_join PySem.F.type_str_join mt_join pe_str (pa_cons (pe_op op_cat (pe_lst (pa_cons (pe_ix (r := rIxT K) ix_tup (pv 0) pe_int (fun _ _ => rfl)) pa_nil)) (pe_lc sb__law_text_0 rfl (pi_tup (pe_slice sl_tup (pv 0) (po_some pe_int) po_none)) (fun _ _ _ _ => pts_nil) (fun _ _ _ _ => pe_callTy call_str_int rfl B.str PyProof.Rows.boot_str (pa_cons (pv 0) pa_nil)))) pa_nil))), ?_⟩
  refine ⟨rfl, _, rfl, b, _, _, _, rfl, rfl, SqT.of hb, at0, (by show 1 ≤ sizeLine; decide), fun l hl => ?_⟩
  have s1 : Same H _ := same_new (o := .lst [.str (wS wd)]) hl
  refine ⟨_, rfl, _, rfl, b, _, rfl, SqT.of (s1 _ _ hb), cut_one_no _ _, fun t ht => ?_⟩
  rw [cut_one]
  have s2 : Same H _ := s1.trans (same_new (o := .tup (ns.map V.int)) ht)
  have el0 : (upd (upd H l (.lst [.str (wS wd)])) t (.tup (ns.map V.int))) l = some (.lst [.str (wS wd)]) := same_new ht _ _ upd_same
  have et0 : (upd (upd H l (.lst [.str (wS wd)])) t (.tup (ns.map V.int))) t = some (.tup (ns.map V.int)) := upd_same
  generalize (upd (upd H l _) t _) = H0 at s2 el0 et0 ⊢
  refine ⟨t, rfl, ⟨_, SqT.of et0⟩, ?_⟩
  refine lc_intsT (g := fun i => V.str (iS i)) (ns := ns) et0 (Nat.le_trans hl3.2 (by decide)) (fun i H1 Q hi s3 h => ?_) (fun H1 s3 p hp => ?_)
  · exact ⟨_, rfl, i, rfl, log_v (ar.all i hi), h H1 (Same.refl _)⟩
  · refine ⟨l, p, _, _, rfl, rfl, same_new hp _ _ (s3 _ _ el0), upd_same, ?_, fun p2 hp2 => ?_⟩
    · have h5 : (ns.map fun i => V.str (iS i)).length = ns.length := List.length_map _
      have h6 : ([V.str (wS wd)] : List V).length = 1 := rfl
      have h7 : (4 : Nat) ≤ sizeLine := by decide
      omega
    · have e : ([V.str (wS wd)] ++ ns.map fun i => V.str (iS i)) = (wS wd :: ns.map iS).map V.str := by simp
      refine ⟨_, p2, wS wd :: ns.map iS, rfl, rfl, SqL.of (by rw [upd_same, e]), Nat.le_trans (words_sum ar) (by decide), ?_⟩
      exact q _ (s2.trans (s3.trans ((same_new hp).trans (same_new hp2))))
end
end K24
set_option maxHeartbeats 4000000
namespace K24
open PySem L2 Lo St
section
variable {P : Program} {w : World} {K : PySem.W.Frag} {mg : Str → Option Value} {base : Heap} {f CL CP : Addr} {fd : FuncData} {C : Kd → Addr} {CW : Wd → Addr}
theorem ok_painit (F : Fun K "__init__" "Pact.__init__" m_Pact_init f fd) (B : TxB mg) (T : TxP K CP) : FnOk P w K mg base CX0 1 f fd ["self", "manner", "steps"] (spPInit CP) := by
  refine F.ok sc_Pact_init (fun vs H Q E h => ?_) (fun cdv A outer s H vs Q E hr h => ?_)
  · obtain ⟨l, dx, m, q, us, rfl, _⟩ := h
    rfl
  obtain ⟨l, dx, m, q, us, rfl, hl, hq, qr⟩ := h
  refine ⟨_, pss_cons (ps_fld (pv 0) (pv 1) rfl) (pss_cons (ps_fld (pv 0) (pe_callTy call_list_of rfl B.list PyProof.Rows.boot_list (pa_cons (pv 2) pa_nil)) rfl)
    (pss_one (ps_fld (pv 0) (pe_callTy call_tuple_of rfl B.tuple PyProof.Rows.boot_tuple (pa_cons (pv 2) pa_nil)) rfl))), ?_⟩
  have nlq : q ≠ l := fun z => by rw [z, hl] at hq; cases hq
  refine ⟨_, rfl, _, rfl, l, CP, dx, [], rfl, hl, T.cl, T.nm, (by show 0 < 1000; decide), ?_⟩
  have k1 : Kp l H (upd H l (.ins CP dx (putF "manner" (.str m) []))) := kp_upd
  have hl1 : (upd H l (.ins CP dx (putF "manner" (.str m) []))) l = some (.ins CP dx (putF "manner" (.str m) [])) := upd_same
  have hq1 := k1 _ _ nlq hq
  generalize (upd H l (HO.ins CP dx (putF "manner" (.str m) []))) = H1 at k1 hl1 hq1 ⊢
  refine ⟨_, rfl, q, us, rfl, .inl (SqL.of hq1), fun sl hsl => ?_⟩
  have s2 := same_new (o := .lst us) hsl
  have nl : l ≠ sl := ne_of_none hl1 hsl
  refine ⟨_, rfl, l, CP, dx, _, rfl, s2 _ _ hl1, T.cl, T.ns, (by show 1 < 1000; decide), ?_⟩
  have k2 : Kp l H1 (upd (upd H1 sl (.lst us)) l (.ins CP dx (putF "steps" (.ref sl) (putF "manner" (.str m) [])))) := (Kp.of s2).trans kp_upd
  have hl2 : (upd (upd H1 sl (.lst us)) l (.ins CP dx (putF "steps" (.ref sl) (putF "manner" (.str m) [])))) l = some (.ins CP dx (putF "steps" (.ref sl) (putF "manner" (.str m) []))) := upd_same
  have hs2 : (upd (upd H1 sl (.lst us)) l (.ins CP dx (putF "steps" (.ref sl) (putF "manner" (.str m) [])))) sl = some (.lst us) := by rw [upd_ne (Ne.symm nl)]; exact upd_same
  have hq2 := k2 _ _ nlq hq1
  generalize (upd (upd H1 sl (.lst us)) l (HO.ins CP dx (putF "steps" (.ref sl) (putF "manner" (.str m) [])))) = H2 at k2 hl2 hs2 hq2 ⊢
  refine ⟨_, rfl, q, us, rfl, .inl ⟨SqL.of hq2, fun tp htp => ?_⟩⟩
  have s3 := same_new (o := .tup us) htp
  have nl3 : l ≠ tp := ne_of_none hl2 htp
  refine ⟨_, rfl, l, CP, dx, _, rfl, s3 _ _ hl2, T.cl, T.np, Nat.lt_of_le_of_lt (length_putF _ _ _) (by show 1 + 1 < 1000; decide), ?_⟩
  have k3 : Kp l H2 (upd (upd H2 tp (.tup us)) l (.ins CP dx (pf m sl tp))) := (Kp.of s3).trans kp_upd
  refine qr sl tp _ upd_same (k3 _ _ (Ne.symm nl) hs2) (by rw [upd_ne (Ne.symm nl3)]; exact upd_same) ?_ ?_ ((k1.trans k2).trans k3)
  · cases e : H sl with
    | none => rfl
    | some o => rw [k1 _ _ (Ne.symm nl) e] at hsl; cases hsl
  · cases e : H tp with
    | none => rfl
    | some o => rw [(k1.trans k2) _ _ (Ne.symm nl3) e] at htp; cases htp
theorem ok_pasp (F : Fun K "spelled" "Pact.spelled" m_Pact_spelled f fd) (B : TxB mg) (T : TxP K CP) (W : TxW K CW) (GP : ∀ wd, GM P w K mg base CX0 4 (CW wd) "spelled" ["self"] (spSpelled CW wd)) : FnOk P w K mg base CX0 5 f fd ["self"] (spPSp CP CW) := by
  refine F.ok sc_Pact_spelled (fun vs H Q E h => ?_) (fun cdv A outer s H vs Q E hr h => ?_)
  · obtain ⟨v, b, xs, rfl, _⟩ := h
    rfl
  obtain ⟨v, b, xs, rfl, ⟨a, dx, sl, tp, us, rfl, pa⟩, ar, hl, q⟩ := h
  refine ⟨_, pss_one (ps_ret (pe_op op_add_str (pe_op op_add_str (pe_fld (pv 0) rfl) pe_str) (pe_bm PySem.F.plainAttrs_str PySem.F.slot_str_join PySem.F.type_str_join mt_join pe_str (pa_cons (pe_lc sb_Pact_spelled_0 rfl (pi_tup (pe_fld (pv 0) rfl)) (fun _ _ _ _ => pts_nil) (fun _ _ _ _ => pe_ex fun wd => pm0 (GP wd) (pv 0) (W.cl wd) hr)) pa_nil)))), ?_⟩
  have ml := mS_len b
  have l1 : (Str.ofString " ").length = 1 := by decide +kernel
  have l2 : (Str.ofString "; ").length = 2 := by decide +kernel
  have hs : (100000 : Nat) ≤ sizeLine := by decide
  refine ⟨_, rfl, a, CP, dx, _, _, rfl, pa.ins, T.cl, T.nm, pf_m _ _ _, _, _, rfl, rfl, by rw [l1]; omega, ?_⟩
  refine ⟨rfl, _, rfl, a, CP, dx, _, _, rfl, pa.ins, T.cl, T.np, pf_p _ _ _, tp, rfl, ⟨_, SqT.of pa.tp⟩, ?_⟩
  have pl : xs.length = us.length := pa.st.len
  refine lc_tup (xs := us) (fun i ys H1 => Same H H1 ∧ ys = ((xs.take i).map sx).map V.str) ⟨Same.refl _, rfl⟩ (by omega) (fun i ys H1 _ z => SqT.of (z.1 _ _ pa.tp)) ?_ ?_
  · rintro i u ys H1 hu ⟨s1, rfl⟩
    obtain ⟨x, ex, sa, sdx, rfl, hsa⟩ := pa.st.get hu
    have hx := List.mem_of_getElem? ex
    have f1 := fs_no (m := "spelled") (by decide +kernel) (by decide +kernel) (by decide +kernel) (by decide +kernel) (by decide +kernel) x.1 x.2
    refine tAllT ⟨x.1, _, rfl, sa, sdx, _, rfl, s1 _ _ hsa, f1, _, x.2, rfl, ar x hx, ⟨sa, sdx, rfl, s1 _ _ hsa⟩, fun H2 s2 => ⟨s1.trans s2, ?_⟩⟩
    have et : xs.take (i + 1) = xs.take i ++ [x] := by rw [List.take_add_one, ex]; rfl
    rw [et, List.map_append, List.map_append]
    rfl
  · rintro ys H1 ⟨s1, rfl⟩ p hp
    rw [← pl, List.take_length]
    have sm := sx_sum ar
    refine ⟨_, p, xs.map sx, rfl, rfl, SqL.of upd_same, by rw [l2, List.length_map]; omega, ?_⟩
    have js := join_short ar hl
    refine ⟨_, _, rfl, rfl, ?_, q _ (s1.trans (same_new hp))⟩
    have : (mS b ++ Str.ofString " ").length = (mS b).length + (Str.ofString " ").length := by
      show ((mS b).cps ++ (Str.ofString " ").cps).size = _
      rw [Array.size_append]
      rfl
    rw [this, l1]
    omega
theorem ok_rpart (F : Fun K "read_part" "read_part" s_read_part f fd) (GS : GF P w K mg base CX0 6 "read_step" ["text"] (spRStep CW)) : FnOk P w K mg base CX0 7 f fd ["text", "number"] (spRPart CW) := by
  refine F.ok sc_read_part (fun vs H Q E h => ?_) (fun cdv A outer s H vs Q E hr h => ?_)
  · obtain ⟨x, k, rfl, _⟩ := h
    rfl
  obtain ⟨x, k, rfl, ar, q⟩ := h
  exact ⟨_, pss_one (ps_try0 (pss_one (ps_ret (pc GS hr (pa_cons (pv 0) pa_nil))))), _, rfl, x.1, x.2, rfl, ar, q⟩
end
end K24
set_option maxHeartbeats 4000000
namespace K24
open PySem L2 Lo St
section
variable {P : Program} {w : World} {K : PySem.W.Frag} {mg : Str → Option Value} {base : Heap} {f CL CP : Addr} {fd : FuncData} {C : Kd → Addr} {CW : Wd → Addr}
theorem house_int {x : Stp} (h : Ar x.1 x.2) : (houseV x.1 x.2 = .non ∧ hvI (houseV x.1 x.2) = none) ∨ ∃ i, houseV x.1 x.2 = .int i := by
  by_cases hw : x.1 = .plus ∨ x.1 = .need
  · rw [Ar.homeless hw]
    exact .inl ⟨rfl, rfl⟩
  · obtain ⟨i, r, e, eh⟩ := h.home (fun z => hw (.inl z)) (fun z => hw (.inr z))
    exact .inr ⟨i, eh⟩
theorem ok_rpact (F : Fun K "read_pact" "read_pact" s_read_pact f fd) (B : TxB mg) {aM : Addr} (mM : mg "MANNERS" = some (.ref aM)) (tM : ∀ H, SqT K H aM [.str "held", .str "walked"]) (cM : ∃ t, mg "MOST_STEPS" = some (.int 12 t)) {fI : Addr} {dI : FuncData} (MP : Mk K CP fI) (mgP : mg "Pact" = some (.ref CP))
    (GI : FnOk P w K mg base CX0 1 fI dI ["self", "manner", "steps"] (spPInit CP)) (bI : Binds K dI ["self", "manner", "steps"] []) (GR : GF P w K mg base CX0 7 "read_part" ["text", "number"] (spRPart CW)) : FnOk P w K mg base CX0 8 f fd ["text"] (spRPact CP CW) := by
  refine F.ok sc_read_pact (fun vs H Q E h => ?_) (fun cdv A outer s H vs Q E hr h => ?_)
  · obtain ⟨b, xs, rfl, _⟩ := h
    rfl
  obtain ⟨b, xs, rfl, ar, h0, hl, q⟩ := h
  obtain ⟨tM0, cM⟩ := cM
  have nd := sc_read_pact.nd
  have hr1 : Room (1 + 1) _ := hr.mono (by decide)
  refine ⟨_, pss_cons (ps_set (i := 1) nd rfl (Or.inl rfl) (pe_bm PySem.F.plainAttrs_str PySem.F.slot_str_partition PySem.F.type_str_partition mt_part (pv 0) (pa_cons pe_str pa_nil)))
    (pss_cons (ps_if (PW.pt (pw_or (pt_cmpR (op_notinC cStr (hun hr)) (pe_ix (r := rIxT K) ix_tup (pv 1) pe_int (fun _ _ => rfl)) (pe_glob (v := .ref aM) rfl mM rfl) rfl) (pw_or1 (pt_cmpR op_eq (pe_ix (r := rIxT K) ix_tup (pv 1) pe_int (fun _ _ => rfl)) pe_str (nomark _))))) pss_never pss_nil)
    (pss_cons (ps_set (i := 2) nd rfl (Or.inr rfl) (pe_bm PySem.F.plainAttrs_str PySem.F.slot_str_split PySem.F.type_str_split mt_splitS (pe_ix (r := rIxT K) ix_tup (pv 1) pe_int (fun _ _ => rfl)) (pa_cons pe_str pa_nil)))
    (pss_cons (ps_if (pt_cmpR op_gt (pe_callB call_len_seq rfl B.len PySem.boot_len (pa_cons (pv 2) pa_nil)) (pe_glob (v := .int 12) rfl cM ⟨_, rfl⟩) (nomark _)) pss_never pss_nil)
    (pss_one (ps_ret (pe_make MP GI hr1 rfl mgP bI .nil pass0 (pa_cons (pe_ix (r := rIxT K) ix_tup (pv 1) pe_int (fun _ _ => rfl)) (pa_cons (pe_lc sb_read_pact_0 rfl (pi_range1 rfl B.range (pa_cons (pe_callB call_len_seq rfl B.len PySem.boot_len (pa_cons (pv 2) pa_nil)) pa_nil)) (fun _ _ _ _ => pts_nil)
      (fun _ _ _ _ => pc GR hr (pa_cons (pe_ix (r := rIxL K) ix_list (pv 1) (pv 0) (fun _ _ => rfl)) (pa_cons (pv 0) pa_nil)))) pa_nil)))))))), ?_⟩
  have js := join_short ar (by omega)
  have ml := mS_len b
  have l1 : (Str.ofString " ").length = 1 := by decide +kernel
  have hs : (100000 : Nat) ≤ sizeLine := by decide
  have pl : (ptx (mS b) xs).length ≤ 40000 := by
    have : (ptx (mS b) xs).length = (mS b).length + (Str.ofString " ").length + (Str.join (Str.ofString "; ") (xs.map sx)).length := by
      show (((mS b).cps ++ (Str.ofString " ").cps) ++ (Str.join (Str.ofString "; ") (xs.map sx)).cps).size = _
      rw [Array.size_append, Array.size_append]
      rfl
    omega
  refine ⟨_, rfl, rfl, _, _, rfl, rfl, (by decide +kernel), (by omega), fun p hp => ?_⟩
  rw [part_ptx]
  have s1 := same_new (o := .tup [.str (mS b), .str (Str.ofString " "), .str (Str.join (Str.ofString "; ") (xs.map sx))]) hp
  have hp1 : (upd H p (.tup [.str (mS b), .str (Str.ofString " "), .str (Str.join (Str.ofString "; ") (xs.map sx))])) p = some (.tup [.str (mS b), .str (Str.ofString " "), .str (Str.join (Str.ofString "; ") (xs.map sx))]) := upd_same
  generalize (upd H p (HO.tup [.str (mS b), .str (Str.ofString " "), .str (Str.join (Str.ofString "; ") (xs.map sx))])) = H1 at s1 hp1 ⊢
  refine ⟨_, rfl, p, _, _, _, rfl, rfl, SqT.of hp1, at0, mS b, aM, _, ["held", "walked"], rfl, rfl, .inr (tM H1), .cons rfl (.cons rfl .nil), _, rfl, ?_⟩
  have hin : mS b ∈ (["held", "walked"] : List Str) := by cases b <;> decide +kernel
  refine ite2 (fun c => absurd hin (of_decide_eq_false (by simpa using c))) (fun _ => ?_)
  refine ⟨_, rfl, p, _, _, _, rfl, rfl, SqT.of hp1, at1, rfl, _, rfl, ite2 (fun c => absurd (V.str.inj (of_decide_eq_true c)) (by decide +kernel)) (fun _ => ?_)⟩
  refine ⟨_, rfl, p, _, _, _, rfl, rfl, SqT.of hp1, at2, rfl, _, _, rfl, rfl, (by decide +kernel), (by omega), fun tl htl => ?_⟩
  rw [split_ptx h0]
  have s2 := same_new (o := .lst ((xs.map sx).map V.str)) htl
  have ht2 : (upd H1 tl (.lst ((xs.map sx).map V.str))) tl = some (.lst ((xs.map sx).map V.str)) := upd_same
  have hp2 := s2 _ _ hp1
  generalize (upd H1 tl (HO.lst ((xs.map sx).map V.str))) = H2 at s2 ht2 hp2 ⊢
  have s02 := s1.trans s2
  have ll : ((xs.map sx).map V.str).length = xs.length := by rw [List.length_map, List.length_map]
  refine ⟨_, rfl, tl, _, rfl, .inl (SqL.of ht2), _, _, rfl, rfl, _, rfl, ite2 (fun c => absurd (of_decide_eq_true c) (by rw [ll]; omega)) (fun _ => ?_)⟩
  refine ⟨_, rfl, p, _, _, _, rfl, rfl, SqT.of hp2, at0, ?_⟩
  refine ⟨_, rfl, tl, _, rfl, .inl (SqL.of ht2), _, rfl, by omega, by rw [ll]; omega, ?_⟩
  have e0 : ((((xs.map sx).map V.str).length : Nat) : Int).toNat = xs.length := by rw [ll]; rfl
  rw [e0]
  refine lc_range (n := xs.length) (fun i ys H' => Same H2 H' ∧ StsP CW H' (xs.take i) ys) ⟨Same.refl _, .nil⟩ (by omega) ?_ ?_
  · rintro i ys H3 hi ⟨s3, ps⟩
    have hx : xs[i]? = some xs[i] := List.getElem?_eq_getElem hi
    refine tAllT ⟨_, rfl, _, rfl, tl, _, _, _, rfl, rfl, SqL.of (s3 _ _ ht2), atI_nat (by rw [List.getElem?_map, List.getElem?_map, hx]; rfl), _, rfl, xs[i], _, rfl, ar _ (List.getElem_mem hi), fun v H4 s4 sv => ⟨s3.trans s4, ?_⟩⟩
    have e2 : xs.take (i + 1) = xs.take i ++ [xs[i]] := by
      rw [List.take_add_one, hx]
      rfl
    rw [e2]
    exact (ps.keep s4).app (.cons sv .nil)
  · rintro ys H3 ⟨s3, ps⟩ l hl3
    rw [List.take_length] at ps
    have s4 := same_new (o := .lst ys) hl3
    have h4 : (upd H3 l (.lst ys)) l = some (.lst ys) := upd_same
    have ps4 := ps.keep s4
    generalize (upd H3 l (HO.lst ys)) = H4 at s4 h4 ps4 ⊢
    intro x dx nx ndx nex
    refine ⟨x, dx, _, l, ys, rfl, upd_same, (by rw [upd_ne (ne_of_none h4 nx), upd_ne (ne_of_none h4 ndx)]; exact h4), fun sl tp H5 e1 e2 e3 n1 n2 k => ⟨rfl, ?_⟩⟩
    have s5 := mk_kp nx ndx k
    have z4 : H4 sl = none := by
      cases e : H4 sl with
      | none => rfl
      | some u =>
        rw [upd_ne (ne_of_none e nx), upd_ne (ne_of_none e ndx), e] at n1
        cases n1
    have z0 : H sl = none := by
      cases e : H sl with
      | none => rfl
      | some u =>
        rw [(s02.trans (s3.trans s4)) _ _ e] at z4
        cases z4
    exact q x dx sl tp ys H5 (s02.trans (s3.trans (s4.trans s5))) z0 ⟨e1, e2, e3, ps4.keep s5⟩
theorem ok_houses (F : Fun K "houses_of" "houses_of" s_houses_of f fd) (B : TxB mg) (mSet : mg "set" = none) (T : TxP K CP) (W : TxW K CW) (GH : ∀ wd, GM P w K mg base CX0 1 (CW wd) "house" ["self"] (spHouse CW wd)) : FnOk P w K mg base CX0 2 f fd ["pact"] (spHouses CP CW) := by
  refine F.ok sc_houses_of (fun vs H Q E h => ?_) (fun cdv A outer s H vs Q E hr h => ?_)
  · obtain ⟨v, b, xs, rfl, _⟩ := h
    rfl
  obtain ⟨v, b, xs, rfl, ⟨a, dx, sl, tp, us, rfl, pa⟩, ar, hl, q⟩ := h
  refine ⟨_, pss_one (ps_ret (pe_callTy call_tuple_of rfl B.tuple PyProof.Rows.boot_tuple (pa_cons (pe_callB (call_sortedSI rfl) rfl B.sorted PyProof.Rows.boot_sorted (pa_cons (pe_callTy (call_setI rfl) rfl mSet PyProof.Rows.boot_set (pa_cons
    (pe_lc sb_houses_of_0 rfl (pi_tup (pe_fld (pv 0) rfl)) (fun _ _ _ _ => pts_one (pt_cmpR op_notN (pe_ex fun wd => pm0 (GH wd) (pv 0) (W.cl wd) hr) pe_non (nomark _))) (fun _ _ _ _ => pe_ex fun wd => pm0 (GH wd) (pv 0) (W.cl wd) hr)) pa_nil)) pa_nil)) pa_nil))), ?_⟩
  have hs : (100000 : Nat) ≤ sizeLine := by decide
  have pl : xs.length = us.length := pa.st.len
  refine ⟨_, rfl, a, CP, dx, _, _, rfl, pa.ins, T.cl, T.np, pf_p _ _ _, tp, rfl, ⟨_, SqT.of pa.tp⟩, ?_⟩
  refine lc_tup (xs := us) (fun i ys H1 => H1 = H ∧ ys = (hsOf (xs.take i)).map V.int) ⟨rfl, rfl⟩ (by omega) (fun i ys H1 _ z => by rw [z.1]; exact SqT.of pa.tp) ?_ ?_
  · rintro i u ys H1 hu ⟨rfl, rfl⟩
    obtain ⟨x, ex, sa, sdx, rfl, hsa⟩ := pa.st.get hu
    have hx := List.mem_of_getElem? ex
    have f1 := fs_no (m := "house") (by decide +kernel) (by decide +kernel) (by decide +kernel) (by decide +kernel) (by decide +kernel) x.1 x.2
    have et : xs.take (i + 1) = xs.take i ++ [x] := by rw [List.take_add_one, ex]; rfl
    have eh : hsOf (xs.take (i + 1)) = hsOf (xs.take i) ++ hsOf [x] := by rw [et]; exact List.filterMap_append
    refine ⟨x.1, _, rfl, sa, sdx, _, rfl, hsa, f1, _, x.2, rfl, ar x hx, ⟨sa, sdx, rfl, hsa⟩, rfl, _, rfl, ?_⟩
    rcases house_int (ar x hx) with ⟨e1, e2⟩ | ⟨n, e1⟩
    · rw [e1, decide_eq_true rfl]
      refine iteF ⟨rfl, ?_⟩
      have : hsOf [x] = [] := by
        unfold hsOf
        rw [List.filterMap_cons, e2]
        rfl
      rw [eh, this, List.append_nil]
    · have ne : ¬ houseV x.1 x.2 = .non := fun z => by rw [e1] at z; cases z
      rw [decide_eq_false ne]
      refine iteT ⟨x.1, _, rfl, sa, sdx, _, rfl, hsa, f1, _, x.2, rfl, ar x hx, ⟨sa, sdx, rfl, hsa⟩, rfl, ?_⟩
      have : hsOf [x] = [n] := by
        unfold hsOf
        rw [List.filterMap_cons, e1]
        rfl
      rw [eh, this, List.map_append, e1]
      rfl
  · rintro ys H1 ⟨rfl, rfl⟩ l hl1
    rw [← pl, List.take_length]
    have s1 := same_new (o := .lst ((hsOf xs).map V.int)) hl1
    have lh : (hsOf xs).length ≤ xs.length := List.length_filterMap_le _ _
    refine ⟨l, hsOf xs, rfl, SqL.of upd_same, by omega, fun a2 o2 is2 ha2 sd2 m2 => ?_⟩
    have s2 := same_new (o := Fq a2 o2) ha2
    obtain ⟨_, _, _, _, _, _, _, _, _, nd2, _⟩ := id sd2
    refine ⟨a2, o2, is2, rfl, upd_same, sd2, ?_, fun l3 ns3 hl3 so3 => ?_⟩
    · have : (is2.map (·.1)).length ≤ (hsOf xs).length := List.Nodup.length_le_of_subset nd2 fun n hn => (m2 n).mp hn
      rw [List.length_map] at this
      omega
    have s3 := same_new (o := .lst (ns3.map V.int)) hl3
    refine ⟨l3, _, rfl, .inl ⟨SqL.of upd_same, fun t ht => ?_⟩⟩
    exact q t ns3 _ (s1.trans (s2.trans (s3.trans (same_new ht)))) upd_same ⟨so3.1.symm.nodup nd2, so3.2, fun n => so3.1.mem_iff.trans (m2 n)⟩
theorem turn_take {xs : List Stp} {x : Stp} (h : ∀ y ∈ xs, y.1 ≠ .give) (r : List Stp) : (x.1 = .give → turnOf (xs ++ x :: r) = xs.length) := fun hx => by
  unfold turnOf
  rw [List.findIdx_append, if_neg]
  · rw [List.findIdx_cons, decide_eq_true hx]
    simp
  · intro z
    rw [List.findIdx_lt_length] at z
    obtain ⟨y, hy, e⟩ := z
    exact h y hy (of_decide_eq_true e)
theorem turn_none {xs : List Stp} (h : ∀ y ∈ xs, y.1 ≠ .give) : turnOf xs = xs.length := by
  unfold turnOf
  rw [List.findIdx_eq_length]
  exact fun y hy => decide_eq_false (h y hy)
theorem ok_turning (F : Fun K "turning" "turning" s_turning f fd) (B : TxB mg) (T : TxP K CP) (W : TxW K CW) (GU : ∀ wd, GM P w K mg base CX0 1 (CW wd) "sure" ["self"] (spSure wd)) : FnOk P w K mg base CX0 2 f fd ["pact"] (spTurn CP CW) := by
  refine F.ok sc_turning (fun vs H Q E h => ?_) (fun cdv A outer s H vs Q E hr h => ?_)
  · obtain ⟨v, b, xs, rfl, _⟩ := h
    rfl
  obtain ⟨v, b, xs, rfl, ⟨a, dx, sl, tp, us, rfl, pa⟩, hl, q⟩ := h
  have nd := sc_turning.nd
  have pl : xs.length = us.length := pa.st.len
  refine ⟨_, pss_cons (ps_for PassesOwn.never rfl (pi_range1 rfl B.range (pa_cons (pe_callB call_len_seq rfl B.len PySem.boot_len (pa_cons (pe_fld (pv 0) rfl) pa_nil)) pa_nil)) (pg_name (i := 1) nd rfl (Or.inl rfl))
      (pss_one (ps_if (pt_val (pe_ex fun wd => pm0 (GU wd) (pe_ix (r := rIxT K) ix_tup (pe_fld (pv 0) rfl) (pv 1) (fun _ _ => rfl)) (W.cl wd) hr)) (pss_one (ps_ret (pv 1))) pss_nil)))
    (pss_one (ps_ret (pe_callB call_len_seq rfl B.len PySem.boot_len (pa_cons (pe_fld (pv 0) rfl) pa_nil)))), ?_⟩
  have hs : (100000 : Nat) ≤ sizeLine := by decide
  refine ⟨_, rfl, a, CP, dx, _, _, rfl, pa.ins, T.cl, T.np, pf_p _ _ _, tp, _, rfl, .inr (SqT.of pa.tp), _, rfl, by omega, by omega, ?_⟩
  have e0 : ((us.length : Nat) : Int).toNat = us.length := rfl
  refine for_range (n := us.length) (fun i σ H' => H' = H ∧ (∀ y ∈ xs.take i, y.1 ≠ .give) ∧ ∃ x1, σ = [some (.ref a), x1]) ⟨rfl, (fun y hy => nomatch hy), none, rfl⟩ ?_ ?_
  · rintro i σ H' hi ⟨rfl, nog, x1, rfl⟩
    obtain ⟨x, ex, sa, sdx, e, hsa⟩ := pa.st.get (List.getElem?_eq_getElem hi)
    have f1 := fs_no (m := "sure") (by decide +kernel) (by decide +kernel) (by decide +kernel) (by decide +kernel) (by decide +kernel) x.1 x.2
    have ei : (0 : Int) + (i : Nat) = ((i : Nat) : Int) := Int.zero_add _
    rw [ei]
    refine ⟨x.1, _, rfl, a, CP, dx, _, _, rfl, pa.ins, T.cl, T.np, pf_p _ _ _, _, rfl, tp, _, _, _, rfl, rfl, SqT.of pa.tp, atI_nat (by rw [List.getElem?_eq_getElem hi, e]), sa, sdx, _, rfl, hsa, f1, _, rfl, _, rfl, ?_⟩
    have et : xs = xs.take i ++ x :: xs.drop (i + 1) := by
      have hx := (List.getElem?_eq_some_iff.mp ex)
      obtain ⟨h1, h2⟩ := hx
      rw [← h2]
      rw [← List.drop_eq_getElem_cons h1, List.take_append_drop]
    by_cases hg : x.1 = .give
    · rw [decide_eq_true hg]
      refine iteT ⟨_, rfl, ?_⟩
      have z := turn_take nog (xs.drop (i + 1)) hg
      rw [← et, List.length_take, Nat.min_eq_left (by omega)] at z
      rw [z] at q
      exact q
    · rw [decide_eq_false hg]
      refine iteF ⟨rfl, fun y hy => ?_, _, rfl⟩
      rw [List.take_add_one, ex] at hy
      rcases List.mem_append.mp hy with hy | hy
      · exact nog y hy
      · have : y = x := by simpa using hy
        rw [this]
        exact hg
  · rintro σ H' ⟨rfl, nog, x1, rfl⟩
    rw [← pl, List.take_length] at nog
    rw [turn_none nog, pl] at q
    exact ⟨_, rfl, a, CP, dx, _, _, rfl, pa.ins, T.cl, T.np, pf_p _ _ _, tp, _, rfl, .inr (SqT.of pa.tp), q⟩
end
end K24
set_option maxHeartbeats 4000000
namespace K24
open PySem L2 Lo St
section
variable {P : Program} {w : World} {K : PySem.W.Frag} {mg : Str → Option Value} {base : Heap} {f CL CP : Addr} {fd : FuncData} {C : Kd → Addr} {CW : Wd → Addr}
theorem op_neTI {X : Cx} (hu : X.A.units + 1 < cLine) : OpR X (compareOp .NotEq) (fun x y H Q => ∃ a b ns, x = .ref a ∧ y = .ref b ∧ SqT X.K H a ((ns : List Int).map V.int) ∧ SqT X.K H b (ns.map V.int) ∧ Q (.bl false) H) := by
  intro pins s σ H x y v u Q I rx ry h
  obtain ⟨a, b, ns, rfl, rfl, ha, hb, q⟩ := h
  have z := (tupRc (n := 0) (e := fun _ => true) ha hb rfl fun j x y e1 e2 => by
    rw [e1] at e2
    cases e2
    obtain ⟨n, _, rfl⟩ := List.mem_map.mp (List.mem_of_getElem? e1)
    have z := cInt.eq (K := X.K) (H := H) (x := n) (y := n) rfl rfl
    rwa [decide_eq_true rfl] at z).2
  have e : ((List.range (ns.map V.int).length).all fun _ => true) = true := by simp
  rw [e] at z
  exact z X.prog X.w X.A s v u hu I.hok I.kIn rx ry X.prog X.w X.xe _ ⟨.bl false, H, I, rfl, q⟩
theorem ok_lcell (F : Fun K "_law_cell" "_law_cell" s__law_cell f fd) (B : TxB mg) : FnOk P w K mg base CX0 1 f fd ["_law_script", "_law_k"] (spCell K) := by
  refine F.ok sc__law_cell (fun vs H Q E h => ?_) (fun cdv A outer s H vs Q E hr h => ?_)
  · obtain ⟨a, ns, k, rfl, _⟩ := h
    rfl
  obtain ⟨a, ns, k, rfl, hS, q⟩ := h
  refine ⟨_, pss_cons (ps_if (pt_cmpR op_lt (pv 1) (pe_callB call_len_seq rfl B.len PySem.boot_len (pa_cons (pv 0) pa_nil)) (nomark _)) (pss_one (ps_ret (pe_ix ix_list (pv 0) (pv 1) (fun _ _ => rfl)))) pss_nil)
    (pss_one (ps_ret pe_int)), ?_⟩
  refine ⟨_, rfl, _, rfl, a, _, rfl, .inl hS, _, _, rfl, rfl, _, rfl, ?_⟩
  refine ite2 (fun c => ?_) (fun c => ?_)
  · have c' : (k : Int) < (((ns.map V.int).length : Nat) : Int) := of_decide_eq_true c
    rw [List.length_map] at c'
    have hk : k < ns.length := by omega
    have q1 : atI (ns.map V.int) ((k : Nat) : Int) = some (.int ns[k]) := atI_nat (by rw [List.getElem?_map, List.getElem?_eq_getElem hk] <;> rfl)
    have e : cellAt ns k = ns[k] := by unfold cellAt; rw [List.getElem?_eq_getElem hk]; rfl
    rw [e] at q
    exact ⟨_, rfl, _, rfl, a, _, _, _, rfl, rfl, hS, q1, q⟩
  · have c' : ¬ (k : Int) < (((ns.map V.int).length : Nat) : Int) := fun z => c (decide_eq_true z)
    rw [List.length_map] at c'
    have e : cellAt ns k = 0 := by unfold cellAt; rw [List.getElem?_eq_none (by omega)]; rfl
    rw [e] at q
    exact q
def TsP (H : Hp) (xs : List Stp) (us : List V) : Prop := Paired (fun (x : Stp) v => tSt H x.1 x.2 v) xs us
theorem TsP.keep {H H' : Hp} {xs : List Stp} {us : List V} (e : Same H H') (h : TsP H xs us) : TsP H' xs us := Paired.mapP h fun _ _ z => z.keep e
def TsA (H : Hp) (q : Addr) (xs : List Stp) : Prop := ∃ us, H q = some (.lst us) ∧ TsP H xs us
theorem TsA.keep {H H' : Hp} {q : Addr} {xs : List Stp} (e : Same H H') (h : TsA H q xs) : TsA H' q xs := by
  obtain ⟨us, h1, h2⟩ := h
  exact ⟨us, e _ _ h1, h2.keep e⟩
theorem two_or_one {x : Stp} (h : Ar x.1 x.2) : (x.2.length = 1 ∧ hsOf [x] = []) ∨ ∃ n c r, x.2 = n :: c :: r ∧ hsOf [x] = [n] := by
  obtain ⟨wd, ns⟩ := x
  cases wd with
  | take => obtain ⟨a, b, e, _⟩ := Ar.c (w := .take) rfl h; exact .inr ⟨a, b, [], e, by have e' : ns = [a, b] := e; rw [e']; rfl⟩
  | mean => obtain ⟨a, b, e, _⟩ := Ar.c (w := .mean) rfl h; exact .inr ⟨a, b, [], e, by have e' : ns = [a, b] := e; rw [e']; rfl⟩
  | give => obtain ⟨a, b, e, _⟩ := Ar.c (w := .give) rfl h; exact .inr ⟨a, b, [], e, by have e' : ns = [a, b] := e; rw [e']; rfl⟩
  | sum => obtain ⟨a, b, c, e, _⟩ := Ar.s h; exact .inr ⟨a, b, [c], e, by have e' : ns = [a, b, c] := e; rw [e']; rfl⟩
  | add => obtain ⟨a, b, c, e, _⟩ := Ar.a h; exact .inr ⟨a, b, [c], e, by have e' : ns = [a, b, c] := e; rw [e']; rfl⟩
  | plus => obtain ⟨a, e, _⟩ := Ar.p h; exact .inl ⟨by have e' : ns = [a] := e; rw [e']; rfl, rfl⟩
  | need => obtain ⟨a, e, _⟩ := Ar.n h; exact .inl ⟨by have e' : ns = [a] := e; rw [e']; rfl, rfl⟩
theorem kp_st {H H' : Hp} {l : Addr} {us : List V} (k : Kp l H H') (h : H l = some (.lst us)) {x : Stp} {v : V} (t : tSt H x.1 x.2 v) : tSt H' x.1 x.2 v := by
  obtain ⟨a, rfl, e⟩ := t
  exact ⟨a, rfl, k a _ (fun z => by rw [z, h] at e; cases e) e⟩
def spLHs : Sp := fun vs H Q _ => ∃ q xs, vs = [.ref q] ∧ TsA H q xs ∧ ArS xs ∧ xs.length ≤ 20 ∧ ∀ t ns H', Same H H' → H' t = some (.tup (ns.map V.int)) → HsIs xs ns → Q (.ref t) H'
theorem ok_lhs (F : Fun K "_law_houses" "_law_houses" s__law_houses f fd) (B : TxB mg) : FnOk P w K mg base CX0 1 f fd ["_law_steps"] spLHs := by
  refine F.ok sc__law_houses (fun vs H Q E h => ?_) (fun cdv A outer s H vs Q E hr h => ?_)
  · obtain ⟨q, xs, rfl, _⟩ := h
    rfl
  obtain ⟨q, xs, rfl, ⟨us, hq, ps⟩, ar, hl, qr⟩ := h
  have nd := sc__law_houses.nd
  refine ⟨_, pss_cons (ps_set (i := 1) nd rfl (Or.inl rfl) (pe_lst pa_nil))
    (pss_cons (ps_for PassesOwn.never rfl (pi_list (pv 0)) (pg_name (i := 2) nd rfl (Or.inl rfl))
      (pss_one (ps_if (PW.pt (pw_and (pt_cmpR op_gt (pe_callB call_len_seq rfl B.len PySem.boot_len (pa_cons (pv 2) pa_nil)) pe_int (nomark _)) (pw_and1 (pt_cmpR (op_notinC cInt (hun hr)) (pe_ix (r := rIxT K) ix_tup (pv 2) pe_int (fun _ _ => rfl)) (pv 1) rfl))))
        (pss_one (ps_expr (pe_bm PySem.F.plainAttrs_list PySem.F.slot_list_append PySem.F.type_list_append mt_append (pv 1) (pa_cons (pe_ix (r := rIxT K) ix_tup (pv 2) pe_int (fun _ _ => rfl)) pa_nil)))) pss_nil)))
    (pss_one (ps_ret (pe_callTy call_tuple_of rfl B.tuple PyProof.Rows.boot_tuple (pa_cons (pe_callB call_sortedI rfl B.sorted PyProof.Rows.boot_sorted (pa_cons (pv 1) pa_nil)) pa_nil))))), ?_⟩
  refine ⟨(by show 0 ≤ sizeLine; decide), fun fl hfl => ?_⟩
  have s1 := same_new (o := .lst []) hfl
  have nq : q ≠ fl := ne_of_none hq hfl
  have bk : ∀ b o, H b = some o → b ≠ fl := fun b o e => ne_of_none e hfl
  have hf0 : (upd H fl (.lst [])) fl = some (.lst []) := upd_same
  have hq0 := s1 _ _ hq
  have ps0 := ps.keep s1
  generalize (upd H fl (HO.lst [])) = H0 at s1 hf0 hq0 ps0 ⊢
  have pl : xs.length = us.length := ps.len
  refine ⟨_, rfl, q, rfl, ⟨_, SqL.of hq0⟩, ?_⟩
  refine for_list (xs := us) (fun i σ H' => ∃ x2 ms, σ = [some (.ref q), some (.ref fl), x2] ∧ Kp fl H0 H' ∧ H' fl = some (.lst ((ms : List Int).map V.int)) ∧ ms.Nodup ∧ ms.length ≤ i ∧ ∀ n, n ∈ ms ↔ n ∈ hsOf (xs.take i)) ⟨none, [], rfl, Kp.of (Same.refl _), hf0, List.nodup_nil, Nat.le_refl _, fun n => Iff.rfl⟩ (fun i σ H' _ z => by obtain ⟨_, _, _, k, _⟩ := z; exact SqL.of (k _ _ nq hq0)) ?_ ?_
  · rintro i u σ H1 hu ⟨x2, ms, rfl, k1, hf1, ndm, lm, mm⟩
    obtain ⟨x, ex, tx⟩ := ps0.get hu
    have hx := List.mem_of_getElem? ex
    have hi : i < xs.length := (List.getElem?_eq_some_iff.mp ex).1
    obtain ⟨b, rfl, hb⟩ := kp_st k1 hf0 tx
    have et : xs.take (i + 1) = xs.take i ++ [x] := by rw [List.take_add_one, ex]; rfl
    have eh : hsOf (xs.take (i + 1)) = hsOf (xs.take i) ++ hsOf [x] := by rw [et]; exact List.filterMap_append
    refine ⟨_, rfl, b, _, rfl, .inr (SqT.of hb), _, _, rfl, rfl, _, rfl, ?_⟩
    rcases two_or_one (ar x hx) with ⟨e1, e2⟩ | ⟨n, c, r, e1, e2⟩
    · refine ite2 (fun c => absurd (of_decide_eq_true c) (by simp [e1])) (fun _ => iteF ?_)
      refine ⟨_, ms, rfl, k1, hf1, ndm, by omega, fun n => ?_⟩
      rw [eh, e2, List.append_nil]
      exact mm n
    · have hb' : H1 b = some (.tup (.str (wS x.1) :: .int n :: .int c :: r.map V.int)) := by rw [hb, e1]; rfl
      refine ite2 (fun _ => ?_) (fun z => absurd (decide_eq_true (by rw [e1]; simp; omega)) z)
      refine ⟨_, rfl, b, _, _, _, rfl, rfl, SqT.of hb', St.at1, _, rfl, n, fl, _, ms, rfl, rfl, .inl (SqL.of hf1), pInts K H1 ms, _, rfl, ?_⟩
      by_cases hm : n ∈ ms
      · refine ite2 (fun z => absurd hm (of_decide_eq_false (by simpa using z))) (fun _ => ?_)
        refine ⟨_, ms, rfl, k1, hf1, ndm, by omega, fun m => ?_⟩
        rw [eh, e2, List.mem_append, ← mm]
        refine ⟨.inl, fun z => z.elim id fun z => ?_⟩
        rw [List.mem_singleton.mp z]
        exact hm
      · refine ite2 (fun _ => ?_) (fun z => absurd (by simpa using hm) z)
        refine ⟨_, rfl, .inl ⟨rfl, _, SqL.of hf1⟩, _, rfl, b, _, _, _, rfl, rfl, SqT.of hb', St.at1, fl, _, _, rfl, rfl, hf1, small1000 (by rw [List.length_map]; omega), ?_⟩
        refine ⟨_, ms ++ [n], rfl, k1.trans kp_upd, by rw [upd_same, List.map_append]; rfl, ?_, by rw [List.length_append]; exact Nat.succ_le_succ lm, fun m => ?_⟩
        · rw [List.nodup_append]
          refine ⟨ndm, by simp, fun a ha d hd e => ?_⟩
          rw [List.mem_singleton.mp hd] at e
          exact hm (e ▸ ha)
        · rw [eh, e2, List.mem_append, List.mem_append, mm]
  · rintro σ H1 ⟨x2, ms, rfl, k1, hf1, ndm, lm, mm⟩
    rw [← pl, List.take_length] at mm
    refine ⟨_, rfl, fl, ms, rfl, SqL.of hf1, by omega, fun l ns' hl4 so => ?_⟩
    refine ⟨l, _, rfl, .inl ⟨SqL.of upd_same, fun t ht => ?_⟩⟩
    have sA : Same H H1 := fun b o e => k1 _ _ (bk b o e) (s1 _ _ e)
    exact qr t ns' _ (sA.trans ((same_new hl4).trans (same_new ht))) upd_same ⟨so.1.symm.nodup ndm, so.2, fun n => so.1.mem_iff.trans (mm n)⟩
def spLTn : Sp := fun vs H Q _ => ∃ q xs, vs = [.ref q] ∧ TsA H q xs ∧ xs.length ≤ 20 ∧ Q (.int (turnOf xs : Nat)) H
theorem ok_ltn (F : Fun K "_law_turning" "_law_turning" s__law_turning f fd) (B : TxB mg) : FnOk P w K mg base CX0 1 f fd ["_law_steps"] spLTn := by
  refine F.ok sc__law_turning (fun vs H Q E h => ?_) (fun cdv A outer s H vs Q E hr h => ?_)
  · obtain ⟨q, xs, rfl, _⟩ := h
    rfl
  obtain ⟨q0, xs, rfl, ⟨us, hq, ps⟩, hl, q⟩ := h
  have nd := sc__law_turning.nd
  have pl : xs.length = us.length := ps.len
  refine ⟨_, pss_cons (ps_for PassesOwn.never rfl (pi_range1 rfl B.range (pa_cons (pe_callB call_len_seq rfl B.len PySem.boot_len (pa_cons (pv 0) pa_nil)) pa_nil)) (pg_name (i := 1) nd rfl (Or.inl rfl))
      (pss_one (ps_if (pt_cmpR op_eq (pe_ix (r := rIxT K) ix_tup (pe_ix (r := rIxL K) ix_list (pv 0) (pv 1) (fun _ _ => rfl)) pe_int (fun _ _ => rfl)) pe_str (nomark _)) (pss_one (ps_ret (pv 1))) pss_nil)))
    (pss_one (ps_ret (pe_callB call_len_seq rfl B.len PySem.boot_len (pa_cons (pv 0) pa_nil)))), ?_⟩
  have hs : (100000 : Nat) ≤ sizeLine := by decide
  refine ⟨_, rfl, q0, _, rfl, .inl (SqL.of hq), _, rfl, by omega, by omega, ?_⟩
  refine for_range (n := us.length) (fun i σ H' => H' = H ∧ (∀ y ∈ xs.take i, y.1 ≠ .give) ∧ ∃ x1, σ = [some (.ref q0), x1]) ⟨rfl, (fun y hy => nomatch hy), none, rfl⟩ ?_ ?_
  · rintro i σ H' hi ⟨rfl, nog, x1, rfl⟩
    obtain ⟨x, ex, b, e, hb⟩ := ps.get (List.getElem?_eq_getElem hi)
    have ei : (0 : Int) + (i : Nat) = ((i : Nat) : Int) := Int.zero_add _
    rw [ei]
    refine ⟨_, rfl, _, rfl, q0, _, _, _, rfl, rfl, SqL.of hq, atI_nat (by rw [List.getElem?_eq_getElem hi, e]), b, _, _, _, rfl, rfl, SqT.of hb, St.at0, rfl, _, rfl, ?_⟩
    have et : xs = xs.take i ++ x :: xs.drop (i + 1) := by
      obtain ⟨h1, h2⟩ := List.getElem?_eq_some_iff.mp ex
      rw [← h2, ← List.drop_eq_getElem_cons h1, List.take_append_drop]
    refine ite2 (fun c => ?_) (fun c => ?_)
    · have z := turn_take nog (xs.drop (i + 1)) (w_hit (b := .give) c)
      rw [← et, List.length_take, Nat.min_eq_left (by omega)] at z
      rw [z] at q
      exact ⟨_, rfl, q⟩
    · refine ⟨rfl, fun y hy => ?_, _, rfl⟩
      rw [List.take_add_one, ex] at hy
      rcases List.mem_append.mp hy with hy | hy
      · exact nog y hy
      · have : y = x := by simpa using hy
        rw [this]
        exact w_miss (b := .give) c
  · rintro σ H' ⟨rfl, nog, x1, rfl⟩
    rw [← pl, List.take_length] at nog
    rw [turn_none nog, pl] at q
    exact ⟨_, rfl, q0, _, rfl, .inl (SqL.of hq), q⟩
end
end K24
set_option maxHeartbeats 4000000
namespace K24
open PySem L2 Lo St
section
variable {P : Program} {w : World} {K : PySem.W.Frag} {mg : Str → Option Value} {base : Heap} {f CL CP : Addr} {fd : FuncData} {C : Kd → Addr} {CW : Wd → Addr}
theorem op_eqNil {X : Cx} (hu : X.A.units < cLine) : OpR X (compareOp .Eq) (fun x y H Q => ∃ a b us, x = .ref a ∧ y = .ref b ∧ SqL X.K H a us ∧ SqL X.K H b [] ∧ Q (.bl (decide (us = []))) H) := by
  intro pins s σ H x y v u Q I rx ry h
  obtain ⟨a, b, us, rfl, rfl, ha, hb, q⟩ := h
  cases rx
  cases ry
  obtain ⟨i1, v1, p1, _⟩ := I.list ha
  obtain ⟨i2, v2, p2, _⟩ := I.list hb
  cases v2
  have l1 := v1.length
  by_cases e : us = []
  · subst e
    cases v1
    have z := PySem.SeqAt.RcAt.lists (A := X.A) (s := s) (e := fun _ => true) p1.isList p2.isList rfl hu (fun j h1 h2 => by cases h1)
    rw [decide_eq_true rfl] at q
    exact z X.prog X.w X.xe _ ⟨.bl true, H, I, rfl, q⟩
  · have hsz : (i1.toArray.size != ([] : List Value).toArray.size) = true := by
      have : i1.length ≠ 0 := fun z => e (List.length_eq_zero_iff.mp (by rw [l1]; exact z))
      simpa using this
    rw [decide_eq_false e] at q
    exact PySem.SeqAt.RcAt.lists_lengths p1.isList p2.isList hsz hu X.prog X.w X.xe _ ⟨.bl false, H, I, rfl, q⟩
theorem all_true (n : Nat) : (List.replicate n true).all id = true := by
  induction n with
  | zero => rfl
  | succ n ih => rw [List.replicate_succ, List.all_cons, ih]; rfl
theorem pStrs (K : PySem.W.Frag) (H : Hp) : ∀ ys : List Str, Paired (cStr.rp K H) ys (ys.map V.str)
  | [] => .nil
  | _ :: ys => .cons rfl (pStrs K H ys)
structure TxQ (K : PySem.W.Frag) (mg : Str → Option Value) (CP : Addr) : Prop where
  mgP : mg "Pact" = some (.ref CP)
  ha : PySem.W.findIn K (.ref CP) "__class__" = some (some (.builtin "object.__class__"))
  hn : PySem.W.specialIn K (.builtin "object.__class__") "__get__" = some (some (.builtin "getset_descriptor.__get__"))
  htk : PySem.W.takesIn K (.builtin "object.__class__") = some true
  hm : PySem.W.mroIn K CP (.type "object") = some true
  isB : PySem.W.kitOne K (.ref CP) (.ref CP) = some true
def spLRt (CP : Addr) (CW : Wd → Addr) : Sp := fun vs H Q _ => ∃ v b q xs, vs = [v, .str (mS b), .ref q] ∧ PaO CP CW H (mS b) xs v ∧ TsA H q xs ∧ ArS xs ∧ xs.length ≤ 20 ∧ ∀ H', Same H H' → Q (.bl true) H'
theorem ok_lrt (F : Fun K "_law_right" "_law_right" s__law_right f fd) (B : TxB mg) (T : TxP K CP) (Y : TxQ K mg CP) (W : TxW K CW) (GW : GF P w K mg base CX0 1 "_law_whole" ["_law_found"] Lo.spWhole)
    (GP : ∀ wd, GM P w K mg base CX0 4 (CW wd) "spelled" ["self"] (spSpelled CW wd)) (GT : GF P w K mg base CX0 1 "_law_text" ["_law_step_here"] spLText) (GHs : GF P w K mg base CX0 2 "houses_of" ["pact"] (spHouses CP CW)) (GLh : GF P w K mg base CX0 1 "_law_houses" ["_law_steps"] spLHs)
    (GTn : GF P w K mg base CX0 2 "turning" ["pact"] (spTurn CP CW)) (GLt : GF P w K mg base CX0 1 "_law_turning" ["_law_steps"] spLTn) : FnOk P w K mg base CX0 5 f fd ["_law_pact", "_law_manner", "_law_steps"] (spLRt CP CW) := by
  refine F.ok sc__law_right (fun vs H Q E h => ?_) (fun cdv A outer s H vs Q E hr h => ?_)
  · obtain ⟨v, b, q, xs, rfl, _⟩ := h
    rfl
  obtain ⟨v, b, q0, xs, rfl, ⟨a, dx, sl, tp, us, rfl, pa⟩, ts, ar, hl, q⟩ := h
  have nd := sc__law_right.nd
  refine ⟨_, pss_cons (ps_if (PW.pt (pw_or (pt_not (pt_val (pe_callB call_isinstC rfl B.isi PyProof.Rows.boot_isinstance (pa_cons (pv 0) (pa_cons (pe_glob (v := .ref CP) rfl Y.mgP rfl) pa_nil))))) (pw_or (pt_cmpR op_ne (pe_fld (pv 0) rfl) (pv 1) (nomark _)) (pw_or1 (pt_not (pt_val (pe_callB call_isinst rfl B.isi PyProof.Rows.boot_isinstance (pa_cons (pe_fld (pv 0) rfl) (pa_cons (pe_bltn (v := .ty "str") rfl B.str PyProof.Rows.boot_str rfl) pa_nil))))))))) pss_never pss_nil)
    (pss_cons (ps_if (PW.pt (pw_or (pt_not (pt_val (pe_callB call_isinst rfl B.isi PyProof.Rows.boot_isinstance (pa_cons (pe_fld (pv 0) rfl) (pa_cons (pe_bltn (v := .ty "list") rfl B.list PyProof.Rows.boot_list rfl) pa_nil))))) (pw_or1 (pt_cmpR op_ne (pe_callB call_len_seq rfl B.len PySem.boot_len (pa_cons (pe_fld (pv 0) rfl) pa_nil)) (pe_callB call_len_seq rfl B.len PySem.boot_len (pa_cons (pv 2) pa_nil)) (nomark _))))) pss_never pss_nil)
    (pss_cons (ps_if (pt_cmpR (op_neL cStr (hun hr)) (pe_lc sb__law_right_0 rfl (pi_list (pe_fld (pv 0) rfl)) (fun _ _ _ _ => pts_nil) (fun _ _ _ _ => pe_ex fun wd => pm0 (GP wd) (pv 0) (W.cl wd) hr)) (pe_lc sb__law_right_1 rfl (pi_list (pv 2)) (fun _ _ _ _ => pts_nil) (fun _ _ _ _ => pc GT hr (pa_cons (pv 0) pa_nil))) (nomark _)) pss_never pss_nil)
    (pss_cons (ps_set (i := 3) nd rfl (Or.inl rfl) (pc GHs hr (pa_cons (pv 0) pa_nil)))
    (pss_cons (ps_if (PW.pt (pw_or (pt_not (pt_val (pe_callB call_isinst rfl B.isi PyProof.Rows.boot_isinstance (pa_cons (pv 3) (pa_cons (pe_bltn (v := .ty "tuple") rfl B.tuple PyProof.Rows.boot_tuple rfl) pa_nil))))) (pw_or1 (pt_not (pt_val (pe_callB (call_all_bl rfl) rfl B.all PyProof.Rows.boot_all (pa_cons (pe_lc sb__law_right_2 rfl (pi_tup (pv 3)) (fun _ _ _ _ => pts_nil) (fun _ _ _ _ => pc GW hr (pa_cons (pv 0) pa_nil))) pa_nil))))))) pss_never pss_nil)
    (pss_cons (ps_if (pt_cmpR (op_neTI (hun (c := 0) hr)) (pv 3) (pc GLh hr (pa_cons (pv 2) pa_nil)) (nomark _)) pss_never pss_nil)
    (pss_cons (ps_set (i := 4) nd rfl (Or.inl rfl) (pc GTn hr (pa_cons (pv 0) pa_nil)))
    (pss_one (ps_ret (pe_and (pc GW hr (pa_cons (pv 4) pa_nil)) (pe_one (pe_cmpR op_eq (pv 4) (pc GLt hr (pa_cons (pv 2) pa_nil)) (nomark _)))))))))))), ?_⟩
  have hs : (100000 : Nat) ≤ sizeLine := by decide
  have pl : xs.length = us.length := pa.st.len
  refine ⟨_, rfl, _, _, _, _, rfl, TyOf.ins pa.ins T.cl Y.ha Y.hn Y.htk Y.hm, Y.isB, _, rfl, iteF ?_⟩
  refine ⟨_, rfl, a, CP, dx, _, _, rfl, pa.ins, T.cl, T.nm, pf_m _ _ _, _, rfl, rfl, _, rfl, iteNS rfl ?_⟩
  refine ⟨_, rfl, a, CP, dx, _, _, rfl, pa.ins, T.cl, T.nm, pf_m _ _ _, _, _, _, _, rfl, TyOf.str _, kit_ss, _, rfl, iteF ?_⟩
  refine ⟨_, rfl, a, CP, dx, _, _, rfl, pa.ins, T.cl, T.ns, pf_s _ _ _, _, _, _, _, rfl, TyOf.lst pa.sl, kit_ll, _, rfl, iteF ?_⟩
  obtain ⟨ws, hw, pw⟩ := id ts
  have pl2 : xs.length = ws.length := pw.len
  refine ⟨_, rfl, a, CP, dx, _, _, rfl, pa.ins, T.cl, T.ns, pf_s _ _ _, sl, _, rfl, .inl (SqL.of pa.sl), _, rfl, q0, _, rfl, .inl (SqL.of hw), rfl, _, rfl, iteNS (by rw [← pl, ← pl2]) ?_⟩
  refine ⟨_, rfl, a, CP, dx, _, _, rfl, pa.ins, T.cl, T.ns, pf_s _ _ _, sl, rfl, ⟨_, SqL.of pa.sl⟩, ?_⟩
  refine lc_list (xs := us) (fun i ys H1 => Same H H1 ∧ ys = ((xs.take i).map sx).map V.str) ⟨Same.refl _, rfl⟩ (by omega) (fun i ys H1 _ z => SqL.of (z.1 _ _ pa.sl)) ?_ ?_
  · rintro i u ys H1 hu ⟨s1, rfl⟩
    obtain ⟨x, ex, sa, sdx, rfl, hsa⟩ := pa.st.get hu
    have hx := List.mem_of_getElem? ex
    have f1 := fs_no (m := "spelled") (by decide +kernel) (by decide +kernel) (by decide +kernel) (by decide +kernel) (by decide +kernel) x.1 x.2
    refine tAllT ⟨x.1, _, rfl, sa, sdx, _, rfl, s1 _ _ hsa, f1, _, x.2, rfl, ar x hx, ⟨sa, sdx, rfl, s1 _ _ hsa⟩, fun H2 s2 => ⟨s1.trans s2, ?_⟩⟩
    have et : xs.take (i + 1) = xs.take i ++ [x] := by rw [List.take_add_one, ex]; rfl
    rw [et, List.map_append, List.map_append]
    rfl
  rintro ys H1 ⟨s1, rfl⟩ p hp
  rw [← pl, List.take_length]
  have s2 := s1.trans (same_new (o := .lst ((xs.map sx).map V.str)) hp)
  have hp2 : (upd H1 p (.lst ((xs.map sx).map V.str))) p = some (.lst ((xs.map sx).map V.str)) := upd_same
  generalize (upd H1 p (HO.lst ((xs.map sx).map V.str))) = H2 at s2 hp2 ⊢
  refine ⟨_, rfl, q0, rfl, ⟨_, SqL.of (s2 _ _ hw)⟩, ?_⟩
  refine lc_list (xs := ws) (fun i ys H3 => Same H2 H3 ∧ ys = ((xs.take i).map sx).map V.str) ⟨Same.refl _, rfl⟩ (by omega) (fun i ys H3 _ z => SqL.of (z.1 _ _ (s2 _ _ hw))) ?_ ?_
  · rintro i u ys H3 hu ⟨s3, rfl⟩
    obtain ⟨x, ex, tx⟩ := pw.get hu
    have hx := List.mem_of_getElem? ex
    refine tAllT ⟨_, rfl, x.1, x.2, _, rfl, tx.keep (s2.trans s3), ar x hx, fun H4 s4 => ⟨s3.trans s4, ?_⟩⟩
    have et : xs.take (i + 1) = xs.take i ++ [x] := by rw [List.take_add_one, ex]; rfl
    rw [et, List.map_append, List.map_append]
    rfl
  rintro ys H3 ⟨s3, rfl⟩ p4 hp4
  rw [← pl2, List.take_length]
  have s4' := same_new (o := .lst ((xs.map sx).map V.str)) hp4
  have s4 := s2.trans (s3.trans s4')
  have hp4' : (upd H3 p4 (.lst ((xs.map sx).map V.str))) p4 = some (.lst ((xs.map sx).map V.str)) := upd_same
  have hp2' := s4' _ _ (s3 _ _ hp2)
  generalize (upd H3 p4 (HO.lst ((xs.map sx).map V.str))) = H4 at s4 hp4' hp2' ⊢
  refine ⟨xs.map sx, xs.map sx, ⟨p, _, rfl, SqL.of hp2', pStrs K H4 _⟩, ⟨p4, _, rfl, SqL.of hp4', pStrs K H4 _⟩, ?_⟩
  rw [decide_eq_true rfl]
  refine ⟨_, rfl, iteF ?_⟩
  have pa4 := pa.keep s4
  have ts4 := ts.keep s4
  refine ⟨_, rfl, _, b, xs, rfl, ⟨a, dx, sl, tp, us, rfl, pa4⟩, ar, hl, fun t ns H5 s5 ht hi => ?_⟩
  refine ⟨_, rfl, _, _, _, _, rfl, TyOf.tup ht, kit_tt, _, rfl, iteF ?_⟩
  refine ⟨_, rfl, t, rfl, ⟨_, SqT.of ht⟩, ?_⟩
  have ln : ns.length ≤ 20 := by
    have l1 : ns.length ≤ (hsOf xs).length := List.Nodup.length_le_of_subset hi.1 fun n hn => (hi.2.2 n).mp hn
    have l2 : (hsOf xs).length ≤ xs.length := List.length_filterMap_le _ _
    omega
  refine lc_tup (xs := ns.map V.int) (fun i ys H6 => H6 = H5 ∧ ys = List.replicate i (V.bl true)) ⟨rfl, rfl⟩ (by rw [List.length_map]; omega) (fun i ys H6 _ z => by rw [z.1]; exact SqT.of ht) ?_ ?_
  · rintro i u ys H6 hu ⟨rfl, rfl⟩
    obtain ⟨n, _, rfl⟩ := List.mem_map.mp (List.mem_of_getElem? hu)
    refine tAllT ⟨_, rfl, _, rfl, rfl, ?_⟩
    rw [List.replicate_succ']
  rintro ys H6 ⟨rfl, rfl⟩ p6 hp6
  refine ⟨p6, List.replicate (ns.map V.int).length true, rfl, ?_, ?_⟩
  · rw [List.map_replicate]
    exact SqL.of upd_same
  rw [all_true]
  refine ⟨_, rfl, iteF ?_⟩
  have s6 := s5.trans (same_new (o := .lst (List.replicate (ns.map V.int).length (V.bl true))) hp6)
  have ht6 := (same_new (o := .lst (List.replicate (ns.map V.int).length (V.bl true))) hp6) _ _ ht
  generalize (upd H6 p6 (HO.lst (List.replicate (ns.map V.int).length (V.bl true)))) = H7 at s6 ht6 ⊢
  refine ⟨_, rfl, _, rfl, q0, xs, rfl, ts4.keep s6, ar, hl, fun t8 ns8 H8 s8 ht8 hi8 => ?_⟩
  have en := hi.one hi8
  subst en
  refine ⟨t, t8, ns, rfl, rfl, SqT.of (s8 _ _ ht6), SqT.of ht8, _, rfl, iteF ?_⟩
  have s08 := s4.trans (s6.trans s8)
  refine ⟨_, rfl, _, b, xs, rfl, ⟨a, dx, sl, tp, us, rfl, pa.keep s08⟩, hl, ?_⟩
  refine ⟨_, rfl, _, rfl, _, rfl, iteT ⟨_, rfl, _, rfl, q0, xs, rfl, ts.keep s08, hl, rfl, ?_⟩⟩
  rw [decide_eq_true rfl]
  exact q _ s08
end
end K24
set_option maxHeartbeats 4000000
namespace K24
open PySem L2 Lo St
section
variable {P : Program} {w : World} {K : PySem.W.Frag} {mg : Str → Option Value} {base : Heap} {f CL CP : Addr} {fd : FuncData} {C : Kd → Addr} {CW : Wd → Addr}
theorem cut13 (ns : List Int) : ∃ cs : List Int, cutV (ns.map V.int) (some 1) (some 13) = cs.map V.int ∧ cs.length ≤ 12 := by
  have e1 : HT.sIx (ns.map V.int).length 0 (some 1) = min 1 (ns.map V.int).length := HT.sIx_nat _ _ 1
  have e2 : HT.sIx (ns.map V.int).length (ns.map V.int).length (some 13) = min 13 (ns.map V.int).length := HT.sIx_nat _ _ 13
  refine ⟨(ns.drop (min 1 (ns.map V.int).length)).take (min 13 (ns.map V.int).length - min 1 (ns.map V.int).length), ?_, ?_⟩
  · unfold cutV
    rw [e1, e2, List.map_take, List.map_drop]
  · rw [List.length_take, List.length_drop]
    omega
theorem _root_.St.PaU.kp {H H' : Hp} {m : Str} {xs : List Stp} {a dx sl tp q : Addr} {us vs : List V} (h : PaU CP CW H m xs a dx sl tp us) (k : Kp q H H') (hq : H q = some (.lst vs)) (n : sl ≠ q) : PaU CP CW H' m xs a dx sl tp us := by
  refine ⟨k _ _ (fun z => ?_) h.ins, k _ _ n h.sl, k _ _ (fun z => ?_) h.tp, Paired.mapP h.st fun x v z => ?_⟩
  · have := h.ins
    rw [z, hq] at this
    cases this
  · have := h.tp
    rw [z, hq] at this
    cases this
  · obtain ⟨b, db, rfl, e⟩ := z
    exact ⟨b, db, rfl, k _ _ (fun z => by rw [z, hq] at e; cases e) e⟩
theorem TsA.kp {H H' : Hp} {q0 q : Addr} {xs : List Stp} {vs : List V} (h : TsA H q0 xs) (k : Kp q H H') (hq : H q = some (.lst vs)) (n : q0 ≠ q) : TsA H' q0 xs := by
  obtain ⟨us, h1, h2⟩ := h
  exact ⟨us, k _ _ n h1, Paired.mapP h2 fun _ _ z => kp_st k hq z⟩
theorem mS_at (m : Int) : ∃ b, atI [V.str "held", V.str "walked"] (m % 2) = some (.str (mS b)) := by
  have e0 : 0 ≤ m % 2 := Int.emod_nonneg _ (by decide)
  have e4 : m % 2 < 2 := Int.emod_lt_of_pos _ (by decide)
  rcases (by omega : m % 2 = 0 ∨ m % 2 = 1) with e | e
  · exact ⟨false, by rw [e]; rfl⟩
  · exact ⟨true, by rw [e]; rfl⟩
theorem g77 : (Str.ofString "give 7 7") = txt .give [7, 7] := by decide +kernel
theorem p1 : (Str.ofString "plus 1") = txt .plus [1] := by decide +kernel
def w24 : TS := fun D σ H => ∃ a b q xs, σ = [some (.ref a), some (.str (mS b)), some (.ref q), none, none, none, none] ∧ TsA H q xs ∧ ArS xs ∧ xs ≠ [] ∧ xs.length ≤ 12 ∧ ∀ H', D.rt (.bl true) H'
theorem ok_law (F : Fun K "law" "law" s_law f fd) (B : TxB mg) (T : TxP K CP) {fI : Addr} {dI : FuncData} (MP : Mk K CP fI) (mgP : mg "Pact" = some (.ref CP)) (GI : FnOk P w K mg base CX0 1 fI dI ["self", "manner", "steps"] (spPInit CP)) (bI : Binds K dI ["self", "manner", "steps"] [])
    (GA : GF P w K mg base CX0 1 "_law_cell" ["_law_script", "_law_k"] (spCell K)) (GS : GF P w K mg base CX0 4 "_law_step" ["_law_cell_here"] spLStep) (GT : GF P w K mg base CX0 1 "_law_text" ["_law_step_here"] spLText) (GD : GF P w K mg base CX0 6 "read_step" ["text"] (spRStep CW))
    (GRP : GF P w K mg base CX0 8 "read_pact" ["text"] (spRPact CP CW)) (GR : GF P w K mg base CX0 5 "_law_right" ["_law_pact", "_law_manner", "_law_steps"] (spLRt CP CW)) (GPS : GM P w K mg base CX0 5 CP "spelled" ["self"] (spPSp CP CW)) : FnOk P w K mg base CX0 9 f fd ["_law_script"] (spLaw K) := by
  refine F.ok sc_law (fun vs H Q E h => ?_) (fun cdv A outer s H vs Q E hr h => ?_)
  · obtain ⟨a, ns, rfl, _⟩ := h
    rfl
  obtain ⟨a, ns, rfl, hS, hl, q⟩ := h
  have nd := sc_law.nd
  have hr1 : Room (1 + 1) _ := hr.mono (by decide)
  have hs : (100000 : Nat) ≤ sizeLine := by decide
  have l1 : (Str.ofString " ").length = 1 := by decide +kernel
  have l2 : (Str.ofString "; ").length = 2 := by decide +kernel
  refine ⟨_, pss_cons (ps_set (i := 1) nd rfl (Or.inl rfl) (pe_ix (r := rIxL K) ix_list (pe_lst (pa_cons pe_str (pa_cons pe_str pa_nil))) (pe_op op_mod (pc GA hr (pa_cons (pv 0) (pa_cons pe_int pa_nil))) pe_int) (fun _ _ => rfl)))
    (pss_cons (ps_lcset (iy := 2) sb_law_0 rfl (pi_list (pe_slice sl_list (pv 0) (po_some pe_int) (po_some pe_int))) (fun _ _ _ _ => pts_nil) (fun _ _ _ _ => pc GS hr (pa_cons (pv 0) pa_nil)) nd rfl (Or.inl rfl))
    (pss_cons (ps_if (pt_cmpR (op_eqNil (Nat.lt_of_succ_lt (hun (c := 0) hr))) (pv 2) (pe_lst pa_nil) (nomark _)) (pss_one (ps_set (i := 2) nd rfl (Or.inl rfl) (pe_lst (pa_cons (pc GS hr (pa_cons (pe_op op_fdiv (pc GA hr (pa_cons (pv 0) (pa_cons pe_int pa_nil))) pe_int) pa_nil)) pa_nil)))) pss_nil)
    (pss_weak w24 (pss_cons (ps_set (i := 3) nd rfl (Or.inl rfl) (pe_op op_add_str (pe_op op_add_str (pv 1) pe_str) (pe_bm PySem.F.plainAttrs_str PySem.F.slot_str_join PySem.F.type_str_join mt_join pe_str (pa_cons (pe_lc sb_law_1 rfl (pi_list (pv 2)) (fun _ _ _ _ => pts_nil) (fun _ _ _ _ => pc GT hr (pa_cons (pv 0) pa_nil))) pa_nil))))
    (pss_cons (ps_set (i := 4) nd rfl (Or.inl rfl) (pc GRP hr (pa_cons (pv 3) pa_nil)))
    (pss_cons (ps_if (PW.pt (pw_or (pt_not (pt_val (pc GR hr (pa_cons (pv 4) (pa_cons (pv 1) (pa_cons (pv 2) pa_nil)))))) (pw_or1 (pt_cmpR op_ne (pm0 GPS (pv 4) T.cl hr) (pv 3) (nomark _))))) pss_never pss_nil)
    (pss_cons (ps_lcset (iy := 5) sb_law_2 rfl (pi_list (pv 2)) (fun _ _ _ _ => pts_nil) (fun _ _ _ _ => pc GD hr (pa_cons (pc GT hr (pa_cons (pv 0) pa_nil)) pa_nil)) nd rfl (Or.inl rfl))
    (pss_cons (ps_set (i := 6) nd rfl (Or.inl rfl) (pe_make MP GI hr1 rfl mgP bI .nil pass0 (pa_cons (pv 1) (pa_cons (pv 5) pa_nil))))
    (pss_cons (ps_if (PW.pt (pw_or (pt_not (pt_val (pc GR hr (pa_cons (pv 6) (pa_cons (pv 1) (pa_cons (pv 2) pa_nil)))))) (pw_or (pt_cmpR op_ne (pm0 GPS (pv 6) T.cl hr) (pv 3) (nomark _)) (pw_or1 (pt_cmpR op_ne (pe_callB call_len_seq rfl B.len PySem.boot_len (pa_cons (pv 5) pa_nil)) (pe_callB call_len_seq rfl B.len PySem.boot_len (pa_cons (pv 2) pa_nil)) (nomark _)))))) pss_never pss_nil)
    (pss_cons (ps_expr (pe_bm PySem.F.plainAttrs_list PySem.F.slot_list_append PySem.F.type_list_append mt_append (pv 5) (pa_cons (pc GD hr (pa_cons pe_str pa_nil)) pa_nil)))
    (pss_cons (ps_if (PW.pt (pw_or (pt_not (pt_val (pc GR hr (pa_cons (pv 6) (pa_cons (pv 1) (pa_cons (pv 2) pa_nil)))))) (pw_or1 (pt_cmpR op_ne (pm0 GPS (pv 6) T.cl hr) (pv 3) (nomark _))))) pss_never pss_nil)
    (pss_cons (ps_expr (pe_bm0 PySem.F.plainAttrs_list PySem.F.slot_list_clear PySem.F.type_list_clear mt_clear (pv 5)))
    (pss_cons (ps_if (PW.pt (pw_or (pt_not (pt_val (pc GR hr (pa_cons (pv 6) (pa_cons (pv 1) (pa_cons (pv 2) pa_nil)))))) (pw_or1 (pt_cmpR op_ne (pm0 GPS (pv 6) T.cl hr) (pv 3) (nomark _))))) pss_never pss_nil)
    (pss_cons (ps_expr (pe_bm PySem.F.plainAttrs_list PySem.F.slot_list_append PySem.F.type_list_append mt_append (pe_fld (pv 4) rfl) (pa_cons (pc GD hr (pa_cons pe_str pa_nil)) pa_nil)))
    (pss_one (ps_ret (pc GR hr (pa_cons (pc GRP hr (pa_cons (pv 3) pa_nil)) (pa_cons (pv 1) (pa_cons (pv 2) pa_nil))))))))))))))))) ?w))), ?_⟩
  case w =>
    rintro D0 σ H ⟨a, b, q0, xs, rfl, ts, ar, h0, hl, q⟩
    obtain ⟨ws, hw, pw⟩ := id ts
    have pl : xs.length = ws.length := pw.len
    have ml := mS_len b
    have fsp : ∀ sl tp, (pf (mS b) sl tp).lookup ("spelled" : Str) = none := fun sl tp => pf_no (by decide +kernel) (by decide +kernel) (by decide +kernel)
    refine ⟨_, rfl, _, _, rfl, rfl, by rw [l1]; omega, rfl, _, rfl, q0, rfl, ⟨_, SqL.of hw⟩, ?_⟩
    refine lc_list (xs := ws) (fun i ys H3 => Same H H3 ∧ ys = ((xs.take i).map sx).map V.str) ⟨Same.refl _, rfl⟩ (by omega) (fun i ys H3 _ z => SqL.of (z.1 _ _ hw)) ?_ ?_
    · rintro i u ys H3 hu ⟨s3, rfl⟩
      obtain ⟨x, ex, tx⟩ := pw.get hu
      have hx := List.mem_of_getElem? ex
      refine tAllT ⟨_, rfl, x.1, x.2, _, rfl, tx.keep s3, ar x hx, fun H4 s4 => ⟨s3.trans s4, ?_⟩⟩
      have et : xs.take (i + 1) = xs.take i ++ [x] := by rw [List.take_add_one, ex]; rfl
      rw [et, List.map_append, List.map_append]
      rfl
    rintro ys H1 ⟨s1, rfl⟩ p hp
    rw [← pl, List.take_length]
    have sm := sx_sum ar
    have js := join_short ar (by omega)
    refine ⟨_, p, xs.map sx, rfl, rfl, SqL.of upd_same, by rw [l2, List.length_map]; omega, _, _, rfl, rfl, ?_, ?_⟩
    · have : (mS b ++ Str.ofString " ").length = (mS b).length + (Str.ofString " ").length := by
        show ((mS b).cps ++ (Str.ofString " ").cps).size = _
        rw [Array.size_append]
        rfl
      rw [this, l1]
      omega
    have s2 := s1.trans (same_new (o := .lst ((xs.map sx).map V.str)) hp)
    generalize (upd H1 p (HO.lst ((xs.map sx).map V.str))) = H2 at s2 ⊢
    refine ⟨_, rfl, b, xs, rfl, ar, h0, hl, fun x dx sl tp us H3 s3 z3 pu => ?_⟩
    have s03 := s2.trans s3
    refine ⟨_, rfl, _, rfl, _, rfl, _, b, q0, xs, rfl, ⟨x, dx, sl, tp, us, rfl, pu⟩, ts.keep s03, ar, by omega, fun H4 s4 => ⟨_, rfl, iteF ?_⟩⟩
    have pu4 := pu.keep s4
    refine ⟨_, rfl, x, dx, _, rfl, pu4.ins, fsp _ _, _, b, xs, rfl, ⟨x, dx, sl, tp, us, rfl, pu4⟩, ar, by omega, fun H5 s5 => ⟨_, rfl, rfl, _, rfl, iteNS rfl ?_⟩⟩
    have s05 := s03.trans (s4.trans s5)
    have hw5 := s05 _ _ hw
    have pw5 := Paired.mapP pw fun (x : Stp) v (z : tSt H x.1 x.2 v) => z.keep s05
    refine ⟨_, rfl, q0, rfl, ⟨_, SqL.of hw5⟩, ?_⟩
    refine lc_list (xs := ws) (fun i ys H6 => Same H5 H6 ∧ StsP CW H6 (xs.take i) ys) ⟨Same.refl _, .nil⟩ (by omega) (fun i ys H6 _ z => SqL.of (z.1 _ _ hw5)) ?_ ?_
    · rintro i u ys H6 hu ⟨s6, ps⟩
      obtain ⟨y, ey, ty⟩ := pw5.get hu
      have hy := List.mem_of_getElem? ey
      refine tAllT ⟨_, rfl, y.1, y.2, _, rfl, ty.keep s6, ar y hy, fun H7 s7 => ⟨y.1, y.2, rfl, ar y hy, fun v H8 s8 sv => ⟨s6.trans (s7.trans s8), ?_⟩⟩⟩
      have et : xs.take (i + 1) = xs.take i ++ [y] := by rw [List.take_add_one, ey]; rfl
      rw [et]
      exact (ps.keep (s7.trans s8)).app (.cons sv .nil)
    rintro hs6 H6 ⟨s6, ps6⟩ hd hhd
    rw [← pl, List.take_length] at ps6
    have s7' := same_new (o := .lst hs6) hhd
    have h7 : (upd H6 hd (.lst hs6)) hd = some (.lst hs6) := upd_same
    have nq : q0 ≠ hd := ne_of_none (s6 _ _ hw5) hhd
    have nsl : sl ≠ hd := ne_of_none (s6 _ _ (s5 _ _ pu4.sl)) hhd
    have ps7 := ps6.keep s7'
    have s57 := s6.trans s7'
    generalize (upd H6 hd (HO.lst hs6)) = H7 at s57 h7 ps7 ⊢
    have lh : hs6.length = xs.length := ps7.len.symm
    refine ⟨_, rfl, _, rfl, fun y dy ny ndy ney => ⟨y, dy, mS b, hd, hs6, rfl, upd_same, (by rw [upd_ne (ne_of_none h7 ny), upd_ne (ne_of_none h7 ndy)]; exact h7), fun sl8 tp8 H8 e1 e2 e3 n1 n2 k8 => ⟨rfl, ?_⟩⟩⟩
    have s8 := mk_kp ny ndy k8
    have n8 : sl8 ≠ hd := fun z => by
      rw [z, upd_ne (ne_of_none h7 ny), upd_ne (ne_of_none h7 ndy), h7] at n1
      cases n1
    have pm8 : PaU CP CW H8 (mS b) xs y dy sl8 tp8 hs6 := ⟨e1, e2, e3, ps7.keep s8⟩
    have pu8 := (pu4.keep s5).keep (s57.trans s8)
    have ts8 := ts.keep (s05.trans (s57.trans s8))
    have h8 := s8 _ _ h7
    refine ⟨_, rfl, _, rfl, _, rfl, _, b, q0, xs, rfl, ⟨y, dy, sl8, tp8, hs6, rfl, pm8⟩, ts8, ar, by omega, fun H9 s9 => ⟨_, rfl, iteF ?_⟩⟩
    have pm9 := pm8.keep s9
    refine ⟨_, rfl, y, dy, _, rfl, pm9.ins, fsp _ _, _, b, xs, rfl, ⟨y, dy, sl8, tp8, hs6, rfl, pm9⟩, ar, by omega, fun H10 s10 => ⟨_, rfl, rfl, _, rfl, iteNS rfl ?_⟩⟩
    have s810 := s9.trans s10
    have h10 := s810 _ _ h8
    have ts10 := ts8.keep s810
    obtain ⟨vs10, hv10, pv10⟩ := id ts10
    refine ⟨_, rfl, hd, _, rfl, .inl (SqL.of h10), _, rfl, q0, _, rfl, .inl (SqL.of hv10), rfl, _, rfl, iteNS (by rw [lh, pv10.len]) ?_⟩
    refine ⟨_, rfl, .inl ⟨rfl, _, SqL.of h10⟩, .give, [7, 7], congrArg (fun z => [V.str z]) g77, ⟨by unfold inN; decide, by unfold inN; decide⟩, fun v11 H11 s11 _ => ?_⟩
    have h11 := s11 _ _ h10
    refine ⟨hd, hs6, _, rfl, rfl, h11, small1000 (by omega), ?_⟩
    have k12 : Kp hd H11 (upd H11 hd (.lst (hs6 ++ [v11]))) := kp_upd
    have pm12 := (pm9.keep (s10.trans s11)).kp k12 h11 n8
    have ts12 := (ts10.keep s11).kp k12 h11 nq
    have pu12 := (pu8.keep (s810.trans s11)).kp k12 h11 nsl
    have h12 : (upd H11 hd (.lst (hs6 ++ [v11]))) hd = some (.lst (hs6 ++ [v11])) := upd_same
    generalize (upd H11 hd (HO.lst (hs6 ++ [v11]))) = H12 at pm12 ts12 pu12 h12 ⊢
    refine ⟨_, rfl, _, rfl, _, rfl, _, b, q0, xs, rfl, ⟨y, dy, sl8, tp8, hs6, rfl, pm12⟩, ts12, ar, by omega, fun H13 s13 => ⟨_, rfl, iteF ?_⟩⟩
    have pm13 := pm12.keep s13
    refine ⟨_, rfl, y, dy, _, rfl, pm13.ins, fsp _ _, _, b, xs, rfl, ⟨y, dy, sl8, tp8, hs6, rfl, pm13⟩, ar, by omega, fun H14 s14 => ⟨_, rfl, rfl, _, rfl, iteNS rfl ?_⟩⟩
    have s124 := s13.trans s14
    have h14 := s124 _ _ h12
    refine ⟨_, rfl, .inl ⟨rfl, _, SqL.of h14⟩, hd, _, rfl, rfl, h14, ?_⟩
    have k15 : Kp hd H14 (upd H14 hd (.lst [])) := kp_upd
    have pm15 := (pm13.keep s14).kp k15 h14 n8
    have ts15 := (ts12.keep s124).kp k15 h14 nq
    have pu15 := (pu12.keep s124).kp k15 h14 nsl
    generalize (upd H14 hd (HO.lst [])) = H15 at pm15 ts15 pu15 ⊢
    refine ⟨_, rfl, _, rfl, _, rfl, _, b, q0, xs, rfl, ⟨y, dy, sl8, tp8, hs6, rfl, pm15⟩, ts15, ar, by omega, fun H16 s16 => ⟨_, rfl, iteF ?_⟩⟩
    have pm16 := pm15.keep s16
    refine ⟨_, rfl, y, dy, _, rfl, pm16.ins, fsp _ _, _, b, xs, rfl, ⟨y, dy, sl8, tp8, hs6, rfl, pm16⟩, ar, by omega, fun H17 s17 => ⟨_, rfl, rfl, _, rfl, iteNS rfl ?_⟩⟩
    have s157 := s16.trans s17
    have pu17 := pu15.keep s157
    refine ⟨_, rfl, x, CP, dx, _, _, rfl, pu17.ins, T.cl, T.ns, pf_s _ _ _, .inl ⟨rfl, _, SqL.of pu17.sl⟩, .plus, [1], congrArg (fun z => [V.str z]) p1, (show St.inV 1 by unfold St.inV; decide), fun v18 H18 s18 _ => ?_⟩
    have pu18 := pu17.keep s18
    have lu : us.length = xs.length := pu18.st.len.symm
    refine ⟨sl, us, _, rfl, rfl, pu18.sl, small1000 (by omega), ?_⟩
    have k19 : Kp sl H18 (upd H18 sl (.lst (us ++ [v18]))) := kp_upd
    have nqs : q0 ≠ sl := fun z => by
      rw [← z, s2 _ _ hw] at z3
      cases z3
    have ts19 := (ts15.keep (s157.trans s18)).kp k19 pu18.sl nqs
    generalize (upd H18 sl (HO.lst (us ++ [v18]))) = H19 at ts19 ⊢
    refine ⟨_, rfl, b, xs, rfl, ar, h0, hl, fun x2 dx2 sl2 tp2 us2 H20 s20 _ pu20 => ?_⟩
    exact ⟨_, rfl, _, rfl, _, b, q0, xs, rfl, ⟨x2, dx2, sl2, tp2, us2, rfl, pu20⟩, ts19.keep s20, ar, by omega, fun H' _ => q H'⟩
  obtain ⟨b, eb⟩ := mS_at (cellAt ns 0)
  refine ⟨(by show 2 ≤ sizeLine; decide), fun ml hml => ⟨_, rfl, a, ns, 0, rfl, (same_new hml).seq hS, _, _, rfl, rfl, (by show (0 : Int) < 2; decide), ml, _, _, _, rfl, rfl, SqL.of upd_same, eb, ?_⟩⟩
  have s1 := same_new (o := .lst [.str "held", .str "walked"]) hml
  generalize (upd H ml (HO.lst [.str "held", .str "walked"])) = H1 at s1 ⊢
  obtain ⟨cs, ecs, lcs⟩ := cut13 ns
  refine ⟨_, rfl, _, rfl, _, rfl, a, _, rfl, s1.seq hS, fun cl hcl => ?_⟩
  rw [ecs]
  have s2 := same_new (o := .lst (cs.map V.int)) hcl
  have hc2 : (upd H1 cl (.lst (cs.map V.int))) cl = some (.lst (cs.map V.int)) := upd_same
  generalize (upd H1 cl (HO.lst (cs.map V.int))) = H2 at s2 hc2 ⊢
  refine ⟨cl, rfl, ⟨_, SqL.of hc2⟩, ?_⟩
  refine lc_list (xs := cs.map V.int) (fun i ys H3 => Same H2 H3 ∧ ∃ xs : List Stp, xs.length = i ∧ ArS xs ∧ TsP H3 xs ys) ⟨Same.refl _, [], rfl, (fun x hx => nomatch hx), .nil⟩ (by rw [List.length_map]; omega) (fun i ys H3 _ z => SqL.of (z.1 _ _ hc2)) ?_ ?_
  · rintro i u ys H3 hu ⟨s3, xs, lx, arx, tx⟩
    obtain ⟨n, rfl⟩ := int_at hu
    refine tAllT ⟨_, rfl, n, rfl, fun wd ms v H4 arw s4 tv => ⟨s3.trans s4, xs ++ [(wd, ms)], by rw [List.length_append, lx]; rfl, fun x hx => ?_, (tx.keep s4).app (.cons tv .nil)⟩⟩
    rcases List.mem_append.mp hx with hx | hx
    · exact arx x hx
    · rw [List.mem_singleton.mp hx]
      exact arw
  rintro ys H3 ⟨s3, xs, lx, arx, tx⟩ sl3 hsl3
  rw [List.length_map] at lx
  have s4' := same_new (o := .lst ys) hsl3
  have h4 : (upd H3 sl3 (.lst ys)) sl3 = some (.lst ys) := upd_same
  have tx4 := tx.keep s4'
  have s04 := s1.trans (s2.trans (s3.trans s4'))
  generalize (upd H3 sl3 (HO.lst ys)) = H4 at s04 h4 tx4 ⊢
  refine ⟨_, rfl, (by show 0 ≤ sizeLine; decide), fun e0 he0 => ?_⟩
  have s5 := same_new (o := .lst []) he0
  refine ⟨sl3, e0, ys, rfl, rfl, SqL.of (s5 _ _ h4), SqL.of upd_same, _, rfl, ?_⟩
  by_cases en : ys = []
  · refine ite2 (fun _ => ?_) (fun c => absurd (decide_eq_true en) c)
    refine ⟨_, rfl, a, ns, 0, rfl, (s04.trans s5).seq hS, _, _, rfl, rfl, ⟨by decide, by decide⟩, _, rfl, fun wd ms v H6 arw s6 tv => ⟨(by show 1 ≤ sizeLine; decide), fun l7 hl7 => ?_⟩⟩
    have s7 := same_new (o := .lst [v]) hl7
    exact ⟨a, b, l7, [(wd, ms)], rfl, ⟨[v], upd_same, .cons (tv.keep s7) .nil⟩, fun x hx => by rw [List.mem_singleton.mp hx]; exact arw, (fun z => nomatch z), (by show 1 ≤ 12; decide), q⟩
  · refine ite2 (fun c => absurd (of_decide_eq_true c) en) (fun _ => ?_)
    exact ⟨a, b, sl3, xs, rfl, ⟨ys, s5 _ _ h4, tx4.keep s5⟩, arx, (fun z => en (by have := tx.len; rw [z] at this; exact List.length_eq_zero_iff.mp this.symm)), by omega, q⟩
end
end K24
section
set_option maxHeartbeats 0
open PySem PySem.W PyProof.Rows
lay_quick PySem.Challenge.pw_pactroom_k24_pacts_there_and_back
namespace Q
noncomputable section
noncomputable abbrev vT : Value := Value.bool true
noncomputable abbrev vF : Value := Value.bool false
noncomputable abbrev A {α : Type} (l : List α) : Array α := Array.mk l
noncomputable abbrev E {α : Type} : Array α := Array.mk []
noncomputable abbrev vn : Value := Value.none
noncomputable abbrev vr (n : Nat) : Value := Value.ref n
noncomputable abbrev sr (n : Nat) : Option Value := some (Value.ref n)
noncomputable abbrev vi (a : Int) (n : Nat) : Value := Value.int a n
noncomputable abbrev vs (q : Str) (n : Nat) : Value := Value.str q n
noncomputable abbrev de (P : Params) (q : Str) (n : Nat) (v : Value) : DictEntry := DictEntry.mk (PyData.keyHash P q) (Value.str q n) v
noncomputable abbrev nd (o : Obj) (a b : BT) : BT := .node o a b
noncomputable abbrev l1 (o : Obj) : BT := .node o .nil .nil
noncomputable abbrev q0 : Str := (@Str.mk (Array.mk [60, 109, 111, 100, 117, 108, 101, 62]))
noncomputable abbrev q1 : Str := (@Str.mk (Array.mk [47, 99, 108, 97, 105, 109, 47, 99, 117, 116, 46, 112, 121]))
noncomputable abbrev q2 : Str := (@Str.mk (Array.mk [95, 95, 109, 97, 105, 110, 95, 95]))
noncomputable abbrev q3 : Str := (@Str.mk (Array.mk [95, 95, 110, 97, 109, 101, 95, 95]))
noncomputable abbrev q4 : Str := (@Str.mk (Array.mk [112, 97, 99, 116, 114, 111, 111, 109, 46, 101, 114, 114, 111, 114, 115]))
noncomputable abbrev q5 : Str := (@Str.mk (Array.mk [95, 95, 100, 111, 99, 95, 95]))
noncomputable abbrev q6 : Str := (@Str.mk (Array.mk [95, 95, 112, 97, 99, 107, 97, 103, 101, 95, 95]))
noncomputable abbrev q7 : Str := (@Str.mk (Array.mk [95, 95, 108, 111, 97, 100, 101, 114, 95, 95]))
noncomputable abbrev q8 : Str := (@Str.mk (Array.mk [95, 95, 115, 112, 101, 99, 95, 95]))
noncomputable abbrev q9 : Str := (@Str.mk (Array.mk [95, 95, 97, 110, 110, 111, 116, 97, 116, 105, 111, 110, 115, 95, 95]))
noncomputable abbrev q10 : Str := (@Str.mk (Array.mk [95, 95, 98, 117, 105, 108, 116, 105, 110, 115, 95, 95]))
noncomputable abbrev q11 : Str := (@Str.mk (Array.mk [95, 95, 102, 105, 108, 101, 95, 95]))
noncomputable abbrev q12 : Str := (@Str.mk (Array.mk [95, 95, 99, 97, 99, 104, 101, 100, 95, 95]))
noncomputable abbrev q13 : Str := (@Str.mk (Array.mk [95, 119, 97, 108, 108]))
noncomputable abbrev q14 : Str := (@Str.mk (Array.mk [80, 97, 99, 116, 69, 114, 114, 111, 114]))
noncomputable abbrev q15 : Str := (@Str.mk (Array.mk [78, 111, 84, 104, 105, 110, 103]))
noncomputable abbrev q16 : Str := (@Str.mk (Array.mk [107]))
noncomputable abbrev q17 : Str := (@Str.mk (Array.mk [95, 95, 109, 111, 100, 117, 108, 101, 95, 95]))
noncomputable abbrev q18 : Str := (@Str.mk (Array.mk [95, 95, 113, 117, 97, 108, 110, 97, 109, 101, 95, 95]))
noncomputable abbrev q19 : Str := (@Str.mk (Array.mk [95, 95, 102, 105, 114, 115, 116, 108, 105, 110, 101, 110, 111, 95, 95]))
noncomputable abbrev q20 : Str := (@Str.mk (Array.mk [95, 95, 115, 116, 97, 116, 105, 99, 95, 97, 116, 116, 114, 105, 98, 117, 116, 101, 115, 95, 95]))
noncomputable abbrev q21 : Str := (@Str.mk (Array.mk [95, 95, 119, 101, 97, 107, 114, 101, 102, 95, 95]))
noncomputable abbrev q22 : Str := (@Str.mk (Array.mk [112, 97, 99, 116, 114, 111, 111, 109, 46, 116, 104, 105, 110, 103, 115]))
noncomputable abbrev q23 : Str := (@Str.mk (Array.mk [78, 111, 84, 101, 120, 116]))
noncomputable abbrev q24 : Str := (@Str.mk (Array.mk [77, 79, 83, 84, 95, 70, 73, 71, 85, 82, 69, 83, 95, 116, 104, 105, 110, 103, 115]))
noncomputable abbrev q25 : Str := (@Str.mk (Array.mk [77, 79, 83, 84, 95, 83, 73, 71, 78, 83]))
noncomputable abbrev q26 : Str := (@Str.mk (Array.mk [77, 79, 83, 84, 95, 80, 65, 82, 84, 83]))
noncomputable abbrev q27 : Str := (@Str.mk (Array.mk [77, 79, 83, 84, 95, 68, 69, 69, 80]))
noncomputable abbrev q28 : Str := (@Str.mk (Array.mk [76, 79, 78, 71, 69, 83, 84]))
noncomputable abbrev q29 : Str := (@Str.mk (Array.mk [66, 76, 65, 78, 75]))
noncomputable abbrev q30 : Str := (@Str.mk (Array.mk [80, 69, 82, 67, 69, 78, 84]))
noncomputable abbrev q31 : Str := (@Str.mk (Array.mk [84, 73, 76, 68, 69]))
noncomputable abbrev q32 : Str := (@Str.mk (Array.mk [105, 115, 95, 119, 104, 111, 108, 101]))
noncomputable abbrev q33 : Str := (@Str.mk (Array.mk [115, 104, 111, 119, 110]))
noncomputable abbrev q34 : Str := (@Str.mk (Array.mk [114, 101, 97, 100, 95, 116, 104, 105, 110, 103]))
noncomputable abbrev q35 : Str := (@Str.mk (Array.mk [105, 115, 95, 115, 105, 103, 110]))
noncomputable abbrev q36 : Str := (@Str.mk (Array.mk [95, 95, 105, 110, 105, 116, 95, 95]))
noncomputable abbrev q37 : Str := (@Str.mk (Array.mk [115, 101, 108, 102]))
noncomputable abbrev q38 : Str := (@Str.mk (Array.mk [97, 116]))
noncomputable abbrev q39 : Str := (@Str.mk (Array.mk [78, 111, 84, 101, 120, 116, 46, 95, 95, 105, 110, 105, 116, 95, 95]))
noncomputable abbrev q40 : Str := (@Str.mk (Array.mk [116, 104, 105, 110, 103]))
noncomputable abbrev q41 : Str := (@Str.mk (Array.mk [115, 105, 103, 110]))
noncomputable abbrev q42 : Str := (@Str.mk (Array.mk [110, 117, 109, 98, 101, 114]))
noncomputable abbrev q43 : Str := (@Str.mk (Array.mk [112, 97, 99, 116, 114, 111, 111, 109, 46, 115, 116, 101, 112, 115]))
noncomputable abbrev q44 : Str := (@Str.mk (Array.mk [82, 101, 97, 100, 101, 114]))
noncomputable abbrev q45 : Str := (@Str.mk (Array.mk [77, 79, 83, 84, 95, 70, 73, 71, 85, 82, 69, 83, 95, 115, 116, 101, 112, 115]))
noncomputable abbrev q46 : Str := (@Str.mk (Array.mk [112, 97, 115, 115, 101, 115]))
noncomputable abbrev q47 : Str := (@Str.mk (Array.mk [114, 101, 97, 100, 95, 97, 110, 121]))
noncomputable abbrev q48 : Str := (@Str.mk (Array.mk [114, 101, 97, 100, 95, 112, 97, 114, 116, 115]))
noncomputable abbrev q49 : Str := (@Str.mk (Array.mk [114, 101, 97, 100, 95, 98, 101, 108, 111, 119]))
noncomputable abbrev q50 : Str := (@Str.mk (Array.mk [114, 101, 97, 100, 95, 110, 117, 109, 98, 101, 114]))
noncomputable abbrev q51 : Str := (@Str.mk (Array.mk [114, 101, 97, 100, 95, 115, 105, 103, 110, 115]))
noncomputable abbrev q52 : Str := (@Str.mk (Array.mk [116, 101, 120, 116]))
noncomputable abbrev q53 : Str := (@Str.mk (Array.mk [82, 101, 97, 100, 101, 114, 46, 95, 95, 105, 110, 105, 116, 95, 95]))
noncomputable abbrev q54 : Str := (@Str.mk (Array.mk [82, 101, 97, 100, 101, 114, 46, 112, 97, 115, 115, 101, 115]))
noncomputable abbrev q55 : Str := (@Str.mk (Array.mk [100, 101, 101, 112]))
noncomputable abbrev q56 : Str := (@Str.mk (Array.mk [82, 101, 97, 100, 101, 114, 46, 114, 101, 97, 100, 95, 97, 110, 121]))
noncomputable abbrev q57 : Str := (@Str.mk (Array.mk [112, 97, 114, 116, 115]))
noncomputable abbrev q58 : Str := (@Str.mk (Array.mk [82, 101, 97, 100, 101, 114, 46, 114, 101, 97, 100, 95, 112, 97, 114, 116, 115]))
noncomputable abbrev q59 : Str := (@Str.mk (Array.mk [82, 101, 97, 100, 101, 114, 46, 114, 101, 97, 100, 95, 98, 101, 108, 111, 119]))
noncomputable abbrev q60 : Str := (@Str.mk (Array.mk [115, 116, 97, 114, 116]))
noncomputable abbrev q61 : Str := (@Str.mk (Array.mk [102, 105, 103, 117, 114, 101, 115]))
noncomputable abbrev q62 : Str := (@Str.mk (Array.mk [82, 101, 97, 100, 101, 114, 46, 114, 101, 97, 100, 95, 110, 117, 109, 98, 101, 114]))
noncomputable abbrev q63 : Str := (@Str.mk (Array.mk [109, 97, 110, 121]))
noncomputable abbrev q64 : Str := (@Str.mk (Array.mk [98, 101, 104, 105, 110, 100]))
noncomputable abbrev q65 : Str := (@Str.mk (Array.mk [115, 105, 103, 110, 115]))
noncomputable abbrev q66 : Str := (@Str.mk (Array.mk [82, 101, 97, 100, 101, 114, 46, 114, 101, 97, 100, 95, 115, 105, 103, 110, 115]))
noncomputable abbrev q67 : Str := (@Str.mk (Array.mk [112, 108, 97, 99, 101]))
noncomputable abbrev q68 : Str := (@Str.mk (Array.mk [95, 95, 100, 105, 99, 116, 95, 95]))
noncomputable abbrev q69 : Str := (@Str.mk (Array.mk [83, 72, 65, 80, 69, 83]))
noncomputable abbrev q70 : Str := (@Str.mk (Array.mk [83, 116, 101, 112]))
noncomputable abbrev q71 : Str := (@Str.mk (Array.mk [116, 97, 107, 101]))
noncomputable abbrev q72 : Str := (@Str.mk (Array.mk [72, 67]))
noncomputable abbrev q73 : Str := (@Str.mk (Array.mk [109, 101, 97, 110]))
noncomputable abbrev q74 : Str := (@Str.mk (Array.mk [115, 117, 109]))
noncomputable abbrev q75 : Str := (@Str.mk (Array.mk [72, 65, 66]))
noncomputable abbrev q76 : Str := (@Str.mk (Array.mk [103, 105, 118, 101]))
noncomputable abbrev q77 : Str := (@Str.mk (Array.mk [97, 100, 100]))
noncomputable abbrev q78 : Str := (@Str.mk (Array.mk [72, 67, 86]))
noncomputable abbrev q79 : Str := (@Str.mk (Array.mk [112, 108, 117, 115]))
noncomputable abbrev q80 : Str := (@Str.mk (Array.mk [86]))
noncomputable abbrev q81 : Str := (@Str.mk (Array.mk [110, 101, 101, 100]))
noncomputable abbrev q82 : Str := (@Str.mk (Array.mk [104, 111, 117, 115, 101]))
noncomputable abbrev q83 : Str := (@Str.mk (Array.mk [108, 111, 99, 107]))
noncomputable abbrev q84 : Str := (@Str.mk (Array.mk [115, 116, 101, 112, 95, 100, 111, 110, 101]))
noncomputable abbrev q85 : Str := (@Str.mk (Array.mk [98, 97, 99, 107]))
noncomputable abbrev q86 : Str := (@Str.mk (Array.mk [115, 117, 114, 101]))
noncomputable abbrev q87 : Str := (@Str.mk (Array.mk [115, 112, 101, 108, 108, 101, 100]))
noncomputable abbrev q88 : Str := (@Str.mk (Array.mk [83, 116, 101, 112, 46, 104, 111, 117, 115, 101]))
noncomputable abbrev q89 : Str := (@Str.mk (Array.mk [83, 116, 101, 112, 46, 108, 111, 99, 107]))
noncomputable abbrev q90 : Str := (@Str.mk (Array.mk [104, 97, 110, 100]))
noncomputable abbrev q91 : Str := (@Str.mk (Array.mk [118, 97, 108, 117, 101, 95, 111, 102]))
noncomputable abbrev q92 : Str := (@Str.mk (Array.mk [83, 116, 101, 112, 46, 115, 116, 101, 112, 95, 100, 111, 110, 101]))
noncomputable abbrev q93 : Str := (@Str.mk (Array.mk [83, 116, 101, 112, 46, 98, 97, 99, 107]))
noncomputable abbrev q94 : Str := (@Str.mk (Array.mk [83, 116, 101, 112, 46, 115, 117, 114, 101]))
noncomputable abbrev q95 : Str := (@Str.mk (Array.mk [83, 116, 101, 112, 46, 115, 112, 101, 108, 108, 101, 100]))
noncomputable abbrev q96 : Str := (@Str.mk (Array.mk [67, 101, 108, 108, 83, 116, 101, 112]))
noncomputable abbrev q97 : Str := (@Str.mk (Array.mk [119, 104, 101, 114, 101]))
noncomputable abbrev q98 : Str := (@Str.mk (Array.mk [99, 101, 108, 108]))
noncomputable abbrev q99 : Str := (@Str.mk (Array.mk [67, 101, 108, 108, 83, 116, 101, 112, 46, 95, 95, 105, 110, 105, 116, 95, 95]))
noncomputable abbrev q100 : Str := (@Str.mk (Array.mk [67, 101, 108, 108, 83, 116, 101, 112, 46, 104, 111, 117, 115, 101]))
noncomputable abbrev q101 : Str := (@Str.mk (Array.mk [84, 97, 107, 101, 83, 116, 101, 112]))
noncomputable abbrev q102 : Str := (@Str.mk (Array.mk [84, 97, 107, 101, 83, 116, 101, 112, 46, 108, 111, 99, 107]))
noncomputable abbrev q103 : Str := (@Str.mk (Array.mk [84, 97, 107, 101, 83, 116, 101, 112, 46, 115, 116, 101, 112, 95, 100, 111, 110, 101]))
noncomputable abbrev q104 : Str := (@Str.mk (Array.mk [84, 97, 107, 101, 83, 116, 101, 112, 46, 115, 112, 101, 108, 108, 101, 100]))
noncomputable abbrev q105 : Str := (@Str.mk (Array.mk [77, 101, 97, 110, 83, 116, 101, 112]))
noncomputable abbrev q106 : Str := (@Str.mk (Array.mk [77, 101, 97, 110, 83, 116, 101, 112, 46, 108, 111, 99, 107]))
noncomputable abbrev q107 : Str := (@Str.mk (Array.mk [77, 101, 97, 110, 83, 116, 101, 112, 46, 115, 116, 101, 112, 95, 100, 111, 110, 101]))
noncomputable abbrev q108 : Str := (@Str.mk (Array.mk [77, 101, 97, 110, 83, 116, 101, 112, 46, 115, 112, 101, 108, 108, 101, 100]))
noncomputable abbrev q109 : Str := (@Str.mk (Array.mk [83, 117, 109, 83, 116, 101, 112]))
noncomputable abbrev q110 : Str := (@Str.mk (Array.mk [108, 111, 119]))
noncomputable abbrev q111 : Str := (@Str.mk (Array.mk [104, 105, 103, 104]))
noncomputable abbrev q112 : Str := (@Str.mk (Array.mk [83, 117, 109, 83, 116, 101, 112, 46, 95, 95, 105, 110, 105, 116, 95, 95]))
noncomputable abbrev q113 : Str := (@Str.mk (Array.mk [83, 117, 109, 83, 116, 101, 112, 46, 104, 111, 117, 115, 101]))
noncomputable abbrev q114 : Str := (@Str.mk (Array.mk [83, 117, 109, 83, 116, 101, 112, 46, 108, 111, 99, 107]))
noncomputable abbrev q115 : Str := (@Str.mk (Array.mk [83, 117, 109, 83, 116, 101, 112, 46, 115, 116, 101, 112, 95, 100, 111, 110, 101]))
noncomputable abbrev q116 : Str := (@Str.mk (Array.mk [83, 117, 109, 83, 116, 101, 112, 46, 115, 112, 101, 108, 108, 101, 100]))
noncomputable abbrev q117 : Str := (@Str.mk (Array.mk [71, 105, 118, 101, 83, 116, 101, 112]))
noncomputable abbrev q118 : Str := (@Str.mk (Array.mk [71, 105, 118, 101, 83, 116, 101, 112, 46, 108, 111, 99, 107]))
noncomputable abbrev q119 : Str := (@Str.mk (Array.mk [71, 105, 118, 101, 83, 116, 101, 112, 46, 115, 116, 101, 112, 95, 100, 111, 110, 101]))
noncomputable abbrev q120 : Str := (@Str.mk (Array.mk [71, 105, 118, 101, 83, 116, 101, 112, 46, 115, 117, 114, 101]))
noncomputable abbrev q121 : Str := (@Str.mk (Array.mk [71, 105, 118, 101, 83, 116, 101, 112, 46, 115, 112, 101, 108, 108, 101, 100]))
noncomputable abbrev q122 : Str := (@Str.mk (Array.mk [65, 100, 100, 83, 116, 101, 112]))
noncomputable abbrev q123 : Str := (@Str.mk (Array.mk [97, 109, 111, 117, 110, 116]))
noncomputable abbrev q124 : Str := (@Str.mk (Array.mk [65, 100, 100, 83, 116, 101, 112, 46, 95, 95, 105, 110, 105, 116, 95, 95]))
noncomputable abbrev q125 : Str := (@Str.mk (Array.mk [65, 100, 100, 83, 116, 101, 112, 46, 108, 111, 99, 107]))
noncomputable abbrev q126 : Str := (@Str.mk (Array.mk [65, 100, 100, 83, 116, 101, 112, 46, 115, 116, 101, 112, 95, 100, 111, 110, 101]))
noncomputable abbrev q127 : Str := (@Str.mk (Array.mk [65, 100, 100, 83, 116, 101, 112, 46, 98, 97, 99, 107]))
noncomputable abbrev q128 : Str := (@Str.mk (Array.mk [65, 100, 100, 83, 116, 101, 112, 46, 115, 112, 101, 108, 108, 101, 100]))
noncomputable abbrev q129 : Str := (@Str.mk (Array.mk [80, 108, 117, 115, 83, 116, 101, 112]))
noncomputable abbrev q130 : Str := (@Str.mk (Array.mk [80, 108, 117, 115, 83, 116, 101, 112, 46, 95, 95, 105, 110, 105, 116, 95, 95]))
noncomputable abbrev q131 : Str := (@Str.mk (Array.mk [80, 108, 117, 115, 83, 116, 101, 112, 46, 115, 116, 101, 112, 95, 100, 111, 110, 101]))
noncomputable abbrev q132 : Str := (@Str.mk (Array.mk [80, 108, 117, 115, 83, 116, 101, 112, 46, 115, 112, 101, 108, 108, 101, 100]))
noncomputable abbrev q133 : Str := (@Str.mk (Array.mk [112, 97, 99, 116, 114, 111, 111, 109, 46, 112, 97, 99, 116, 115]))
noncomputable abbrev q134 : Str := (@Str.mk (Array.mk [78, 101, 101, 100, 83, 116, 101, 112]))
noncomputable abbrev q135 : Str := (@Str.mk (Array.mk [115, 112, 101, 108, 108]))
noncomputable abbrev q136 : Str := (@Str.mk (Array.mk [114, 101, 97, 100, 95, 115, 116, 101, 112]))
noncomputable abbrev q137 : Str := (@Str.mk (Array.mk [109, 97, 100, 101, 95, 115, 116, 101, 112]))
noncomputable abbrev q138 : Str := (@Str.mk (Array.mk [109, 97, 100, 101, 95, 115, 117, 109]))
noncomputable abbrev q139 : Str := (@Str.mk (Array.mk [77, 65, 78, 78, 69, 82, 83]))
noncomputable abbrev q140 : Str := (@Str.mk (Array.mk [77, 79, 83, 84, 95, 83, 84, 69, 80, 83]))
noncomputable abbrev q141 : Str := (@Str.mk (Array.mk [78, 101, 101, 100, 83, 116, 101, 112, 46, 95, 95, 105, 110, 105, 116, 95, 95]))
noncomputable abbrev q142 : Str := (@Str.mk (Array.mk [78, 101, 101, 100, 83, 116, 101, 112, 46, 115, 116, 101, 112, 95, 100, 111, 110, 101]))
noncomputable abbrev q143 : Str := (@Str.mk (Array.mk [78, 101, 101, 100, 83, 116, 101, 112, 46, 115, 112, 101, 108, 108, 101, 100]))
noncomputable abbrev q144 : Str := (@Str.mk (Array.mk [119, 111, 114, 100]))
noncomputable abbrev q145 : Str := (@Str.mk (Array.mk [108, 101, 116, 116, 101, 114]))
noncomputable abbrev q146 : Str := (@Str.mk (Array.mk [110, 117, 109, 98, 101, 114, 115]))
noncomputable abbrev q147 : Str := (@Str.mk (Array.mk [104, 101, 108, 100]))
noncomputable abbrev q148 : Str := (@Str.mk (Array.mk [119, 97, 108, 107, 101, 100]))
noncomputable abbrev q149 : Str := (@Str.mk (Array.mk [108, 97, 119, 95, 112, 97, 99, 116, 114, 111, 111, 109, 95, 107, 50, 52, 95, 112, 97, 99, 116, 115, 95, 116, 104, 101, 114, 101, 95, 97, 110, 100, 95, 98, 97, 99, 107]))
noncomputable abbrev q150 : Str := (@Str.mk (Array.mk [80, 97, 99, 116]))
noncomputable abbrev q151 : Str := (@Str.mk (Array.mk [114, 101, 97, 100, 95, 112, 97, 99, 116]))
noncomputable abbrev q152 : Str := (@Str.mk (Array.mk [114, 101, 97, 100, 95, 112, 97, 114, 116]))
noncomputable abbrev q153 : Str := (@Str.mk (Array.mk [104, 111, 117, 115, 101, 115, 95, 111, 102]))
noncomputable abbrev q154 : Str := (@Str.mk (Array.mk [116, 117, 114, 110, 105, 110, 103]))
noncomputable abbrev q155 : Str := (@Str.mk (Array.mk [95, 108, 97, 119, 95, 99, 101, 108, 108]))
noncomputable abbrev q156 : Str := (@Str.mk (Array.mk [95, 108, 97, 119, 95, 119, 104, 111, 108, 101]))
noncomputable abbrev q157 : Str := (@Str.mk (Array.mk [95, 108, 97, 119, 95, 109, 105, 120, 101, 100]))
noncomputable abbrev q158 : Str := (@Str.mk (Array.mk [95, 108, 97, 119, 95, 110, 117, 109, 98, 101, 114]))
noncomputable abbrev q159 : Str := (@Str.mk (Array.mk [95, 108, 97, 119, 95, 101, 105, 116, 104, 101, 114]))
noncomputable abbrev q160 : Str := (@Str.mk (Array.mk [109, 97, 110, 110, 101, 114]))
noncomputable abbrev q161 : Str := (@Str.mk (Array.mk [115, 116, 101, 112, 115]))
noncomputable abbrev q162 : Str := (@Str.mk (Array.mk [80, 97, 99, 116, 46, 95, 95, 105, 110, 105, 116, 95, 95]))
noncomputable abbrev q163 : Str := (@Str.mk (Array.mk [80, 97, 99, 116, 46, 115, 112, 101, 108, 108, 101, 100]))
noncomputable abbrev q164 : Str := (@Str.mk (Array.mk [112, 97, 99, 116]))
noncomputable abbrev q165 : Str := (@Str.mk (Array.mk [95, 108, 97, 119, 95, 115, 99, 114, 105, 112, 116]))
noncomputable abbrev q166 : Str := (@Str.mk (Array.mk [95, 108, 97, 119, 95, 107]))
noncomputable abbrev q167 : Str := (@Str.mk (Array.mk [95, 108, 97, 119, 95, 102, 111, 117, 110, 100]))
noncomputable abbrev q168 : Str := (@Str.mk (Array.mk [95, 108, 97, 119, 95, 99, 101, 108, 108, 95, 104, 101, 114, 101]))
noncomputable abbrev q169 : Str := (@Str.mk (Array.mk [95, 108, 97, 119, 95, 110, 117, 109, 98, 101, 114, 95, 104, 101, 114, 101]))
noncomputable abbrev q170 : Str := (@Str.mk (Array.mk [95, 108, 97, 119, 95, 106]))
noncomputable abbrev q171 : Str := (@Str.mk (Array.mk [95, 108, 97, 119, 95, 115, 116, 101, 112]))
noncomputable abbrev q172 : Str := (@Str.mk (Array.mk [95, 108, 97, 119, 95, 116, 101, 120, 116]))
noncomputable abbrev q173 : Str := (@Str.mk (Array.mk [95, 108, 97, 119, 95, 104, 111, 117, 115, 101, 115]))
noncomputable abbrev q174 : Str := (@Str.mk (Array.mk [95, 108, 97, 119, 95, 116, 117, 114, 110, 105, 110, 103]))
noncomputable abbrev q175 : Str := (@Str.mk (Array.mk [95, 108, 97, 119, 95, 114, 105, 103, 104, 116]))
noncomputable abbrev q176 : Str := (@Str.mk (Array.mk [108, 97, 119]))
noncomputable abbrev q177 : Str := (@Str.mk (Array.mk [95, 108, 97, 119, 95, 119, 111, 114, 100]))
noncomputable abbrev q178 : Str := (@Str.mk (Array.mk [95, 108, 97, 119, 95, 119, 104, 101, 114, 101]))
noncomputable abbrev q179 : Str := (@Str.mk (Array.mk [95, 108, 97, 119, 95, 111, 110, 101]))
noncomputable abbrev q180 : Str := (@Str.mk (Array.mk [95, 108, 97, 119, 95, 111, 116, 104, 101, 114]))
noncomputable abbrev q181 : Str := (@Str.mk (Array.mk [95, 108, 97, 119, 95, 115, 116, 101, 112, 115]))
noncomputable abbrev q182 : Str := (@Str.mk (Array.mk [95, 108, 97, 119, 95, 115, 111, 109, 101]))
noncomputable abbrev q183 : Str := (@Str.mk (Array.mk [95, 108, 97, 119, 95, 115, 116, 101, 112, 95, 104, 101, 114, 101]))
noncomputable abbrev y0 : Value := (@Value.type SL.s2766695959194262286x5)
noncomputable abbrev y1 : Value := (@Value.type SL.s5856160107412720595x4)
noncomputable abbrev y2 : Value := (@Value.type SL.s658472552662922059x5)
noncomputable abbrev y3 : Value := (@Value.type SL.s14018661285674007319x4)
noncomputable abbrev y4 : Value := (@Value.builtin SL.s7097527257260152453x26)
noncomputable abbrev y5 : Value := (@Value.type SL.s7174869446012820540x8)
noncomputable abbrev y6 : Value := (@Value.type SL.s6070975301684473832x10)
noncomputable abbrev y7 : Value := (@Value.type SL.s11030030927630378310x26)
noncomputable abbrev y8 : Value := (@Value.builtin SL.s10062305145149207511x16)
noncomputable abbrev y9 : Value := (@Value.type SL.s17162191345867700912x4)
noncomputable abbrev y10 : Value := (@Value.type SL.s5946037652744460706x9)
noncomputable abbrev y11 : Value := (@Value.type SL.s4278001404047624695x13)
noncomputable abbrev y12 : Value := (@Value.type SL.s2742458400755230247x6)
noncomputable abbrev y13 : Value := (@Value.builtin SL.s4209523147560561109x18)
noncomputable abbrev y14 : Value := (@Value.type SL.s14755015743595814543x17)
noncomputable abbrev y15 : Value := (@Value.builtin SL.s10220274742760427390x26)
noncomputable abbrev y16 : Value := (@Value.type SL.s4290257624100764138x5)
noncomputable abbrev y17 : Value := (@Value.builtin SL.s4860613602091757760x24)
noncomputable abbrev y18 : Value := (@Value.builtin SL.s11443829558043349243x14)
noncomputable abbrev y19 : Value := (@Value.builtin SL.s6511155373996960695x17)
noncomputable abbrev y20 : Value := (@Value.builtin SL.s12411053484034534018x21)
noncomputable abbrev p0 : Program := PySem.Challenge.pw_pactroom_k24_pacts_there_and_back
noncomputable abbrev pq : Program := PySem.W.Fast.tw298052946812364163
theorem pe : p0 = pq := PySem.W.Fast.te298052946812364163
noncomputable def B (i : Nat) : Stmt := pq.main.body.getD i (.Pass ⟨0, 0, 0, 0⟩)
noncomputable def T (i : Nat) : Stmt := p0.main.body.getD i (.Pass ⟨0, 0, 0, 0⟩)
noncomputable def M (k j : Nat) : Stmt := L2.inClass (B k) j
noncomputable def N (k j : Nat) : Stmt := L2.inClass (T k) j
noncomputable abbrev fk (a b : Str) (s : Stmt) := FuncData.mk a b (L2.defArgs s) (.stmts (L2.defBody s)) (L2.defScope s)
noncomputable def a11 (P : Params) : Obj := (Obj.mk y0 none (Data.seq E 0) E)
noncomputable def a12 (P : Params) : Obj := (Obj.mk vn none (Data.fields E) E)
noncomputable def m0 (P : Params) (x0 : Str) (x1 : Nat) (x2 : Nat) (x3 : Nat) (x4 : Int) (x5 : Nat) (x6 : Nat) (x7 : Int) (x8 : Nat) : Obj := (Obj.mk y1 none (Data.fields (A [(vs x0 x1), (vs x0 x2), (vs q1 x3), (vi x4 0), (vi 0 0), (vi 0 0), (vi 0 0), (vi 0 0), (vr x5), vF, (vi 181 0), (vr x6), vn, vn, vn, vn, (vi x7 0), (vi x4 0), (vs q1 x8)])) E)
noncomputable def a13 (P : Params) : Obj := m0 P q0 182 183 184 1 11 12 185 186
noncomputable def m1 (P : Params) (x0 : Nat) (x1 : Nat) (x2 : Str) (x3 : Nat) : Obj := (Obj.mk y2 none Data.plain (A [(sr x0), (sr 3), (sr x1), none, (some (vs x2 x3)), none, (sr 0)]))
noncomputable def a14 (P : Params) : Obj := m1 P 13 3 q2 164
noncomputable def u0 (P : Params) : BT := (nd (boot_o_0 P) (nd (boot_o_1 P) (nd (boot_o_3 P) (l1 (boot_o_7 P)) (l1 (a11 P))) (nd (boot_o_5 P) (l1 (boot_o_9 P)) (l1 (a13 P)))) (nd (boot_o_2 P) (nd (boot_o_4 P) (l1 (boot_o_8 P)) (l1 (a12 P))) (nd (boot_o_6 P) (l1 (boot_o_10 P)) (l1 (a14 P)))))
noncomputable def ta (P : Params) : BT := (u0 P)
noncomputable def sa (w : World) (os : OsState) : SharedT := SharedT.mk (ta w.params) 15 (@Life.mk [] [] [] 0 [] [] Bool.false E [] 0 Bool.false Bool.false Bool.false 0 [2000, 10, 10] Bool.false 0 Bool.true [] [] 0 Bool.false) E (@Drawn.mk 0 0 0 0) 187 os
noncomputable def tb (P : Params) : BT := (u0 P)
noncomputable def sb (w : World) (os : OsState) : SharedT := SharedT.mk (tb w.params) 15 (@Life.mk [] [] [] 0 [] [] Bool.false E [] 0 Bool.false Bool.false Bool.false 0 [2000, 10, 10] Bool.false 0 Bool.true [] [] 0 Bool.false) E (@Drawn.mk 0 0 0 0) 187 os
noncomputable def c0_3 (P : Params) : Obj := (Obj.mk y3 none (Data.dict (A [(de P q3 165 (vs q4 194)), (de P q5 166 vn), (de P q6 167 vn), (de P q7 168 y4), (de P q8 169 vn), (de P q9 170 (vr 6)), (de P q10 171 (vr 4)), (de P q11 173 (vs q1 172)), (de P q12 174 vn), (de P q13 193 (vr 21)), (de P q14 213 (vr 31)), (de P q15 229 (vr 44))]) 12) E)
noncomputable def m2 (P : Params) (x0 : Int) (x1 : Int) (x2 : Nat) (x3 : Int) (x4 : Nat) (x5 : Int) (x6 : Nat) : Obj := (Obj.mk vn none (Data.fields (A [(vi x0 0), (vi x1 0), (vr x2), (vi x3 0), (vi x1 0), (vr x4), (vi x5 0), (vi x1 0), (vr x6)])) E)
noncomputable def c0_12 (P : Params) : Obj := m2 P 1 0 20 5 27 7 40
noncomputable def m3 (P : Params) (x0 : Str) (x1 : Nat) : Obj := (Obj.mk y0 none (Data.seq (A [(vs x0 x1)]) 0) E)
noncomputable def c0_17 (P : Params) : Obj := m3 P q16 190
noncomputable def m4 (P : Params) (x0 : Str) (x1 : Str) (x2 : Stmt) : Obj := (Obj.mk vn none (Data.func (fk x0 x1 x2 0 [] vn vn vn vn none vn vn 0)) E)
noncomputable def c0_19 (P : Params) : Obj := m4 P q13 q13 (B 0)
noncomputable def m5 (P : Params) (x0 : Str) (x1 : Nat) (x2 : Str) (x3 : Nat) (x4 : Nat) (x5 : Int) (x6 : Int) (x7 : Nat) (x8 : Nat) (x9 : Nat) (x10 : Nat) (x11 : Nat) (x12 : Int) (x13 : Nat) : Obj := (Obj.mk y1 none (Data.fields (A [(vs x0 x1), (vs x2 x3), (vs q1 x4), (vi x5 0), (vi x6 0), (vi 0 0), (vi 0 0), (vi 3 0), (vr x7), vT, (vi 181 0), (vr x8), vn, (vr x9), (vr x10), (vr x11), (vi x12 0), (vi x5 0), (vs q1 x13)])) E)
noncomputable def c0_20 (P : Params) : Obj := m5 P q13 187 q13 188 189 1 1 15 16 17 18 19 191 192
noncomputable def m6 (P : Params) (x0 : Str) (x1 : Str) (x2 : Stmt) (x3 : Str) (x4 : Nat) (x5 : Nat) : Obj := (Obj.mk y5 none (Data.func (fk x0 x1 x2 3 [] vn vn vn (vs x3 x4) none (vr x5) vn 0)) E)
noncomputable def c0_21 (P : Params) : Obj := m6 P q13 q13 (B 0) q2 164 20
noncomputable def c0_22 (P : Params) : Obj := (Obj.mk y0 none (Data.seq (A [y6]) 0) E)
noncomputable def c0_23 (P : Params) : Obj := (Obj.mk y7 none (Data.fields (A [y8, y9])) E)
noncomputable def c0_24 (P : Params) : Obj := (Obj.mk y3 none (Data.dict (A [(de P q17 203 (vs q4 194)), (de P q18 205 (vs q14 204)), (de P q19 207 (vi 5 206)), (de P q20 208 (vr 29))]) 4) E)
noncomputable def c0_27 (P : Params) : Obj := m0 P q14 198 199 200 5 25 26 201 202
noncomputable def c0_28 (P : Params) : Obj := m1 P 27 24 q4 194
noncomputable def c0_30 (P : Params) : Obj := (Obj.mk y3 none (Data.dict (A [(de P q17 203 (vs q4 194)), (de P q19 207 (vi 5 206)), (de P q20 208 (vr 29)), (de P q21 210 (vr 32)), (de P q5 211 vn)]) 3) E)
noncomputable def c0_31 (P : Params) : Obj := (Obj.mk y9 none (Data.cls (ClassData.mk q14 [y6] [(vr 31), y6, y10, y11, y12] 30 q14 Bool.true [] [(vr 44)] Bool.false none Bool.false)) (A [(sr 22), none, (some (vs q14 196)), (some (vs q14 204)), (some y13), (some vT)]))
noncomputable def m7 (P : Params) (x0 : Nat) (x1 : Nat) : Obj := (Obj.mk y14 none (Data.fields (A [(vs q21 x0), (vr x1), y15, vn])) E)
noncomputable def c0_32 (P : Params) : Obj := m7 P 209 31
noncomputable def m8 (P : Params) (x0 : Nat) : Obj := (Obj.mk y16 none (Data.fields (A [(vr x0), (vr x0), (vr x0)])) E)
noncomputable def c0_33 (P : Params) : Obj := m8 P 31
noncomputable def m9 (P : Params) (x0 : Nat) : Obj := (Obj.mk y7 none (Data.fields (A [y17, (vr x0)])) E)
noncomputable def c0_34 (P : Params) : Obj := m9 P 31
noncomputable def m10 (P : Params) (x0 : Nat) : Obj := (Obj.mk y0 none (Data.seq (A [(vr x0)]) 0) E)
noncomputable def c0_35 (P : Params) : Obj := m10 P 31
noncomputable def c0_37 (P : Params) : Obj := (Obj.mk y3 none (Data.dict (A [(de P q17 221 (vs q4 194)), (de P q18 223 (vs q15 222)), (de P q19 225 (vi 7 224)), (de P q20 226 (vr 42))]) 4) E)
noncomputable def c0_40 (P : Params) : Obj := m0 P q15 216 217 218 7 38 39 219 220
noncomputable def c0_41 (P : Params) : Obj := m1 P 40 37 q4 194
noncomputable def c0_43 (P : Params) : Obj := (Obj.mk y3 none (Data.dict (A [(de P q17 221 (vs q4 194)), (de P q19 225 (vi 7 224)), (de P q20 226 (vr 42)), (de P q5 227 vn)]) 2) E)
noncomputable def c0_44 (P : Params) : Obj := (Obj.mk y9 none (Data.cls (ClassData.mk q15 [(vr 31)] [(vr 44), (vr 31), y6, y10, y11, y12] 43 q15 Bool.true [] [] Bool.false none Bool.false)) (A [(sr 35), none, (some (vs q15 214)), (some (vs q15 222)), (some y13), (some vT)]))
noncomputable def c0_45 (P : Params) : Obj := m8 P 44
noncomputable def c0_46 (P : Params) : Obj := m9 P 44
noncomputable def tc0_ (P : Params) : BT := (nd (boot_o_0 P) (nd (boot_o_1 P) (nd (c0_3 P) (nd (boot_o_7 P) (nd (a11 P) (l1 (c0_31 P)) .nil) (nd (c0_23 P) (l1 (a12 P)) .nil)) (nd (a11 P) (nd (c0_19 P) (l1 (c0_35 P)) .nil) (nd (c0_27 P) (l1 (c0_43 P)) .nil))) (nd (boot_o_5 P) (nd (boot_o_9 P) (nd (c0_17 P) (l1 (c0_33 P)) .nil) (nd (a11 P) (l1 (c0_41 P)) .nil)) (nd (a13 P) (nd (c0_21 P) (l1 (c0_37 P)) .nil) (nd (a11 P) (l1 (c0_45 P)) .nil)))) (nd (boot_o_2 P) (nd (boot_o_4 P) (nd (boot_o_8 P) (nd (a12 P) (l1 (c0_32 P)) .nil) (nd (c0_24 P) (l1 (c0_40 P)) .nil)) (nd (c0_12 P) (nd (c0_20 P) (l1 (c0_23 P)) .nil) (nd (c0_28 P) (l1 (c0_44 P)) .nil))) (nd (boot_o_6 P) (nd (boot_o_10 P) (nd (a11 P) (l1 (c0_34 P)) .nil) (nd (a12 P) (l1 (a11 P)) .nil)) (nd (a14 P) (nd (c0_22 P) (l1 (a11 P)) .nil) (nd (c0_30 P) (l1 (c0_46 P)) .nil)))))
noncomputable def sc0_ (w : World) (os : OsState) : SharedT := SharedT.mk (tc0_ w.params) 47 (@Life.mk [] [] [] 0 [] [] Bool.false E [] 0 Bool.false Bool.false Bool.false 0 [2000, 10, 10] Bool.false 0 Bool.true [] [] 0 Bool.false) E (@Drawn.mk 0 0 0 0) 230 os
noncomputable def c1_3 (P : Params) : Obj := (Obj.mk y3 none (Data.dict (A [(de P q3 165 (vs q22 255)), (de P q5 166 vn), (de P q6 167 vn), (de P q7 168 y4), (de P q8 169 vn), (de P q9 170 (vr 6)), (de P q10 171 (vr 4)), (de P q11 173 (vs q1 172)), (de P q12 174 vn), (de P q13 193 (vr 21)), (de P q14 213 (vr 31)), (de P q15 229 (vr 44)), (de P q23 254 (vr 63)), (de P q24 258 (vi 400 257)), (de P q25 260 (vi 2000 259)), (de P q26 262 (vi 2000 261)), (de P q27 264 (vi 8 263)), (de P q28 266 (vi 100000 265)), (de P q29 268 (vi 32 267)), (de P q30 270 (vi 37 269)), (de P q31 272 (vi 126 271)), (de P q32 279 (vr 72)), (de P q33 285 (vr 77)), (de P q34 291 (vr 82)), (de P q35 299 (vr 89))]) 25) E)
noncomputable def c1_12 (P : Params) : Obj := (Obj.mk vn none (Data.fields (A [(vi 1 0), (vi 0 0), (vr 20), (vi 5 0), (vi 0 0), (vr 27), (vi 7 0), (vi 0 0), (vr 40), (vi 9 0), (vi 0 0), (vr 52), (vi 22 0), (vi 0 0), (vr 71), (vi 24 0), (vi 0 0), (vr 76), (vi 30 0), (vi 0 0), (vr 81), (vi 40 0), (vi 0 0), (vr 88)])) E)
noncomputable def c1_31 (P : Params) : Obj := (Obj.mk y9 none (Data.cls (ClassData.mk q14 [y6] [(vr 31), y6, y10, y11, y12] 30 q14 Bool.true [] [(vr 44), (vr 63)] Bool.false none Bool.false)) (A [(sr 22), none, (some (vs q14 196)), (some (vs q14 204)), (some y13), (some vT)]))
noncomputable def c1_49 (P : Params) : Obj := (Obj.mk y3 none (Data.dict (A [(de P q17 237 (vs q4 194)), (de P q18 239 (vs q23 238)), (de P q19 241 (vi 9 240)), (de P q36 249 (vr 60)), (de P q20 251 (vr 61))]) 5) E)
noncomputable def c1_51 (P : Params) : Obj := (Obj.mk vn none (Data.fields (A [(vi 11 0), (vi 4 0), (vr 59)])) E)
noncomputable def c1_52 (P : Params) : Obj := m0 P q23 232 233 234 9 50 51 235 236
noncomputable def c1_53 (P : Params) : Obj := m1 P 52 49 q4 194
noncomputable def m11 (P : Params) (x0 : Str) (x1 : Nat) (x2 : Str) (x3 : Nat) : Obj := (Obj.mk y0 none (Data.seq (A [(vs x0 x1), (vs x2 x3)]) 0) E)
noncomputable def c1_56 (P : Params) : Obj := m11 P q37 245 q38 246
noncomputable def c1_58 (P : Params) : Obj := m4 P q36 q39 (M 4 0)
noncomputable def c1_59 (P : Params) : Obj := m5 P q36 242 q39 243 244 11 2 54 55 56 57 58 247 248
noncomputable def c1_60 (P : Params) : Obj := m6 P q36 q39 (M 4 0) q4 194 59
noncomputable def c1_61 (P : Params) : Obj := m3 P q38 250
noncomputable def c1_62 (P : Params) : Obj := (Obj.mk y3 none (Data.dict (A [(de P q17 237 (vs q4 194)), (de P q19 241 (vi 9 240)), (de P q36 249 (vr 60)), (de P q20 251 (vr 61)), (de P q5 252 vn)]) 2) E)
noncomputable def c1_63 (P : Params) : Obj := (Obj.mk y9 none (Data.cls (ClassData.mk q23 [(vr 31)] [(vr 63), (vr 31), y6, y10, y11, y12] 62 q23 Bool.true [] [] Bool.false none Bool.false)) (A [(sr 47), none, (some (vs q23 230)), (some (vs q23 238)), (some y13), (some vT)]))
noncomputable def c1_64 (P : Params) : Obj := m8 P 63
noncomputable def c1_65 (P : Params) : Obj := m9 P 63
noncomputable def c1_68 (P : Params) : Obj := m3 P q40 276
noncomputable def c1_70 (P : Params) : Obj := m4 P q32 q32 (B 14)
noncomputable def c1_71 (P : Params) : Obj := m5 P q32 273 q32 274 275 22 1 66 67 68 69 70 277 278
noncomputable def c1_72 (P : Params) : Obj := m6 P q32 q32 (B 14) q22 255 71
noncomputable def c1_75 (P : Params) : Obj := m4 P q33 q33 (B 15)
noncomputable def m12 (P : Params) (x0 : Str) (x1 : Nat) (x2 : Str) (x3 : Nat) (x4 : Nat) (x5 : Int) (x6 : Int) (x7 : Nat) (x8 : Nat) (x9 : Nat) (x10 : Int) (x11 : Nat) : Obj := (Obj.mk y1 none (Data.fields (A [(vs x0 x1), (vs x2 x3), (vs q1 x4), (vi x5 0), (vi x6 0), (vi 0 0), (vi 0 0), (vi 3 0), (vr x7), vT, (vi 181 0), (vr x8), vn, vn, vn, (vr x9), (vi x10 0), (vi x5 0), (vs q1 x11)])) E)
noncomputable def c1_76 (P : Params) : Obj := m12 P q33 280 q33 281 282 24 1 73 74 75 283 284
noncomputable def c1_77 (P : Params) : Obj := m6 P q33 q33 (B 15) q22 255 76
noncomputable def c1_80 (P : Params) : Obj := m4 P q34 q34 (B 16)
noncomputable def c1_81 (P : Params) : Obj := m12 P q34 286 q34 287 288 30 1 78 79 80 289 290
noncomputable def c1_82 (P : Params) : Obj := m6 P q34 q34 (B 16) q22 255 81
noncomputable def c1_85 (P : Params) : Obj := m11 P q41 295 q42 296
noncomputable def c1_87 (P : Params) : Obj := m4 P q35 q35 (B 17)
noncomputable def c1_88 (P : Params) : Obj := m5 P q35 292 q35 293 294 40 1 83 84 85 86 87 297 298
noncomputable def c1_89 (P : Params) : Obj := m6 P q35 q35 (B 17) q22 255 88
noncomputable def tc1_ (P : Params) : BT := (nd (boot_o_0 P) (nd (boot_o_1 P) (nd (c1_3 P) (nd (boot_o_7 P) (nd (a11 P) (nd (c1_31 P) (l1 (c1_63 P)) .nil) (nd (c0_35 P) (l1 (a12 P)) .nil)) (nd (c0_23 P) (nd (a12 P) (l1 (c1_71 P)) .nil) (nd (a12 P) (l1 (c1_87 P)) .nil))) (nd (a11 P) (nd (c0_19 P) (nd (c0_35 P) (l1 (a12 P)) .nil) (nd (c1_51 P) (l1 (a11 P)) .nil)) (nd (c0_27 P) (nd (c0_43 P) (l1 (c1_75 P)) .nil) (l1 (c1_59 P))))) (nd (boot_o_5 P) (nd (boot_o_9 P) (nd (c0_17 P) (nd (c0_33 P) (l1 (c1_65 P)) .nil) (nd (c1_49 P) (l1 (c1_81 P)) .nil)) (nd (a11 P) (nd (c0_41 P) (l1 (a11 P)) .nil) (nd (a11 P) (l1 (c1_89 P)) .nil))) (nd (a13 P) (nd (c0_21 P) (nd (c0_37 P) (l1 (a11 P)) .nil) (nd (c1_53 P) (l1 (c1_85 P)) .nil)) (nd (a11 P) (nd (c0_45 P) (l1 (c1_77 P)) .nil) (l1 (c1_61 P)))))) (nd (boot_o_2 P) (nd (boot_o_4 P) (nd (boot_o_8 P) (nd (a12 P) (nd (c0_32 P) (l1 (c1_64 P)) .nil) (nd (c0_23 P) (l1 (c1_80 P)) .nil)) (nd (c0_24 P) (nd (c0_40 P) (l1 (c1_72 P)) .nil) (nd (c1_56 P) (l1 (c1_88 P)) .nil))) (nd (c1_12 P) (nd (c0_20 P) (nd (c0_23 P) (l1 (c1_68 P)) .nil) (nd (c1_52 P) (l1 (a12 P)) .nil)) (nd (c0_28 P) (nd (c0_44 P) (l1 (c1_76 P)) .nil) (l1 (c1_60 P))))) (nd (boot_o_6 P) (nd (boot_o_10 P) (nd (a11 P) (nd (c0_34 P) (l1 (a11 P)) .nil) (nd (a11 P) (l1 (c1_82 P)) .nil)) (nd (a12 P) (nd (a11 P) (l1 (a12 P)) .nil) (l1 (c1_58 P)))) (nd (a14 P) (nd (c0_22 P) (nd (a11 P) (l1 (c1_70 P)) .nil) (nd (a11 P) (l1 (a11 P)) .nil)) (nd (c0_30 P) (nd (c0_46 P) (l1 (a11 P)) .nil) (l1 (c1_62 P)))))))
noncomputable def sc1_ (w : World) (os : OsState) : SharedT := SharedT.mk (tc1_ w.params) 90 (@Life.mk [] [] [] 0 [] [] Bool.false E [] 0 Bool.false Bool.false Bool.false 0 [2000, 10, 10] Bool.false 0 Bool.true [] [] 0 Bool.false) E (@Drawn.mk 0 0 0 0) 300 os
noncomputable def c2_3 (P : Params) : Obj := (Obj.mk y3 none (Data.dict (A [(de P q3 165 (vs q43 383)), (de P q5 166 vn), (de P q6 167 vn), (de P q7 168 y4), (de P q8 169 vn), (de P q9 170 (vr 6)), (de P q10 171 (vr 4)), (de P q11 173 (vs q1 172)), (de P q12 174 vn), (de P q13 193 (vr 21)), (de P q14 213 (vr 31)), (de P q15 229 (vr 44)), (de P q23 254 (vr 63)), (de P q24 258 (vi 400 257)), (de P q25 260 (vi 2000 259)), (de P q26 262 (vi 2000 261)), (de P q27 264 (vi 8 263)), (de P q28 266 (vi 100000 265)), (de P q29 268 (vi 32 267)), (de P q30 270 (vi 37 269)), (de P q31 272 (vi 126 271)), (de P q32 279 (vr 72)), (de P q33 285 (vr 77)), (de P q34 291 (vr 82)), (de P q35 299 (vr 89)), (de P q44 382 (vr 148)), (de P q45 386 (vi 40 385))]) 27) E)
noncomputable def c2_12 (P : Params) : Obj := (Obj.mk vn none (Data.fields (A [(vi 1 0), (vi 0 0), (vr 20), (vi 5 0), (vi 0 0), (vr 27), (vi 7 0), (vi 0 0), (vr 40), (vi 9 0), (vi 0 0), (vr 52), (vi 22 0), (vi 0 0), (vr 71), (vi 24 0), (vi 0 0), (vr 76), (vi 30 0), (vi 0 0), (vr 81), (vi 40 0), (vi 0 0), (vr 88), (vi 43 0), (vi 0 0), (vr 95)])) E)
noncomputable def c2_92 (P : Params) : Obj := (Obj.mk y3 none (Data.dict (A [(de P q17 307 (vs q22 255)), (de P q18 309 (vs q44 308)), (de P q19 311 (vi 43 310)), (de P q36 319 (vr 103)), (de P q46 327 (vr 110)), (de P q47 336 (vr 117)), (de P q48 345 (vr 124)), (de P q49 353 (vr 131)), (de P q50 362 (vr 138)), (de P q51 372 (vr 145)), (de P q20 375 (vr 146))]) 11) E)
noncomputable def c2_94 (P : Params) : Obj := (Obj.mk vn none (Data.fields (A [(vi 45 0), (vi 4 0), (vr 102), (vi 49 0), (vi 4 0), (vr 109), (vi 55 0), (vi 4 0), (vr 116), (vi 65 0), (vi 4 0), (vr 123), (vi 79 0), (vi 4 0), (vr 130), (vi 85 0), (vi 4 0), (vr 137), (vi 98 0), (vi 4 0), (vr 144)])) E)
noncomputable def c2_95 (P : Params) : Obj := m0 P q44 302 303 304 43 93 94 305 306
noncomputable def c2_96 (P : Params) : Obj := m1 P 95 92 q22 255
noncomputable def c2_99 (P : Params) : Obj := m11 P q37 315 q52 316
noncomputable def c2_101 (P : Params) : Obj := m4 P q36 q53 (M 18 0)
noncomputable def c2_102 (P : Params) : Obj := m5 P q36 312 q53 313 314 45 2 97 98 99 100 101 317 318
noncomputable def c2_103 (P : Params) : Obj := m6 P q36 q53 (M 18 0) q22 255 102
noncomputable def c2_106 (P : Params) : Obj := m11 P q37 323 q41 324
noncomputable def c2_108 (P : Params) : Obj := m4 P q46 q54 (M 18 1)
noncomputable def c2_109 (P : Params) : Obj := m5 P q46 320 q54 321 322 49 2 104 105 106 107 108 325 326
noncomputable def c2_110 (P : Params) : Obj := m6 P q46 q54 (M 18 1) q22 255 109
noncomputable def m13 (P : Params) (x0 : Str) (x1 : Nat) (x2 : Str) (x3 : Nat) (x4 : Str) (x5 : Nat) : Obj := (Obj.mk y0 none (Data.seq (A [(vs x0 x1), (vs x2 x3), (vs x4 x5)]) 0) E)
noncomputable def c2_113 (P : Params) : Obj := m13 P q37 331 q55 332 q42 333
noncomputable def c2_115 (P : Params) : Obj := m4 P q47 q56 (M 18 2)
noncomputable def c2_116 (P : Params) : Obj := m5 P q47 328 q56 329 330 55 2 111 112 113 114 115 334 335
noncomputable def c2_117 (P : Params) : Obj := m6 P q47 q56 (M 18 2) q22 255 116
noncomputable def c2_120 (P : Params) : Obj := m13 P q37 340 q55 341 q57 342
noncomputable def c2_122 (P : Params) : Obj := m4 P q48 q58 (M 18 3)
noncomputable def c2_123 (P : Params) : Obj := m5 P q48 337 q58 338 339 65 2 118 119 120 121 122 343 344
noncomputable def c2_124 (P : Params) : Obj := m6 P q48 q58 (M 18 3) q22 255 123
noncomputable def c2_127 (P : Params) : Obj := m11 P q37 349 q42 350
noncomputable def c2_129 (P : Params) : Obj := m4 P q49 q59 (M 18 4)
noncomputable def c2_130 (P : Params) : Obj := m5 P q49 346 q59 347 348 79 1 125 126 127 128 129 351 352
noncomputable def c2_131 (P : Params) : Obj := m6 P q49 q59 (M 18 4) q22 255 130
noncomputable def c2_134 (P : Params) : Obj := m13 P q37 357 q60 358 q61 359
noncomputable def c2_136 (P : Params) : Obj := m4 P q50 q62 (M 18 5)
noncomputable def c2_137 (P : Params) : Obj := m5 P q50 354 q62 355 356 85 1 132 133 134 135 136 360 361
noncomputable def c2_138 (P : Params) : Obj := m6 P q50 q62 (M 18 5) q22 255 137
noncomputable def m14 (P : Params) (x0 : Str) (x1 : Nat) (x2 : Str) (x3 : Nat) (x4 : Str) (x5 : Nat) (x6 : Str) (x7 : Nat) : Obj := (Obj.mk y0 none (Data.seq (A [(vs x0 x1), (vs x2 x3), (vs x4 x5), (vs x6 x7)]) 0) E)
noncomputable def c2_141 (P : Params) : Obj := m14 P q37 366 q63 367 q64 368 q65 369
noncomputable def c2_143 (P : Params) : Obj := m4 P q51 q66 (M 18 6)
noncomputable def c2_144 (P : Params) : Obj := m5 P q51 363 q66 364 365 98 2 139 140 141 142 143 370 371
noncomputable def c2_145 (P : Params) : Obj := m6 P q51 q66 (M 18 6) q22 255 144
noncomputable def c2_146 (P : Params) : Obj := m11 P q67 373 q52 374
noncomputable def c2_147 (P : Params) : Obj := (Obj.mk y3 none (Data.dict (A [(de P q17 307 (vs q22 255)), (de P q19 311 (vi 43 310)), (de P q36 319 (vr 103)), (de P q46 327 (vr 110)), (de P q47 336 (vr 117)), (de P q48 345 (vr 124)), (de P q49 353 (vr 131)), (de P q50 362 (vr 138)), (de P q51 372 (vr 145)), (de P q20 375 (vr 146)), (de P q68 377 (vr 149)), (de P q21 379 (vr 150)), (de P q5 380 vn)]) 4) E)
noncomputable def c2_148 (P : Params) : Obj := (Obj.mk y9 none (Data.cls (ClassData.mk q44 [y12] [(vr 148), y12] 147 q44 Bool.true [] [] Bool.false none Bool.false)) (A [none, none, (some (vs q44 300)), (some (vs q44 308)), (some y18), (some vT)]))
noncomputable def m15 (P : Params) (x0 : Nat) (x1 : Nat) : Obj := (Obj.mk y14 none (Data.fields (A [(vs q68 x0), (vr x1), y19, y20])) E)
noncomputable def c2_149 (P : Params) : Obj := m15 P 376 148
noncomputable def c2_150 (P : Params) : Obj := m7 P 378 148
noncomputable def c2_151 (P : Params) : Obj := m8 P 148
noncomputable def c2_152 (P : Params) : Obj := m9 P 148
noncomputable def tc2_ (P : Params) : BT := (nd (boot_o_0 P) (nd (boot_o_1 P) (nd (c2_3 P) (nd (boot_o_7 P) (nd (a11 P) (nd (c1_31 P) (nd (c1_63 P) (l1 (c2_127 P)) .nil) (l1 (c2_95 P))) (nd (c0_35 P) (nd (a12 P) (l1 (c2_143 P)) .nil) (l1 (a11 P)))) (nd (c0_23 P) (nd (a12 P) (nd (c1_71 P) (l1 (a11 P)) .nil) (l1 (c2_103 P))) (nd (a12 P) (nd (c1_87 P) (l1 (c2_151 P)) .nil) (l1 (a12 P))))) (nd (a11 P) (nd (c0_19 P) (nd (c0_35 P) (nd (a12 P) (l1 (c2_131 P)) .nil) (l1 (c2_99 P))) (nd (c1_51 P) (nd (a11 P) (l1 (c2_147 P)) .nil) (l1 (c2_115 P)))) (nd (c0_27 P) (nd (c0_43 P) (nd (c1_75 P) (l1 (a11 P)) .nil) (l1 (a11 P))) (nd (c1_59 P) (l1 (c0_23 P)) (l1 (c2_123 P)))))) (nd (boot_o_5 P) (nd (boot_o_9 P) (nd (c0_17 P) (nd (c0_33 P) (nd (c1_65 P) (l1 (c2_129 P)) .nil) (l1 (a11 P))) (nd (c1_49 P) (nd (c1_81 P) (l1 (c2_145 P)) .nil) (l1 (c2_113 P)))) (nd (a11 P) (nd (c0_41 P) (nd (a11 P) (l1 (c2_137 P)) .nil) (l1 (a12 P))) (nd (a11 P) (l1 (c1_89 P)) (l1 (a11 P))))) (nd (a13 P) (nd (c0_21 P) (nd (c0_37 P) (nd (a11 P) (l1 (a12 P)) .nil) (l1 (c2_101 P))) (nd (c1_53 P) (nd (c1_85 P) (l1 (c2_149 P)) .nil) (l1 (c2_117 P)))) (nd (a11 P) (nd (c0_45 P) (nd (c1_77 P) (l1 (c2_141 P)) .nil) (l1 (c2_109 P))) (nd (c1_61 P) (l1 (a11 P)) (l1 (a11 P))))))) (nd (boot_o_2 P) (nd (boot_o_4 P) (nd (boot_o_8 P) (nd (a12 P) (nd (c0_32 P) (nd (c1_64 P) (l1 (a11 P)) .nil) (l1 (c2_96 P))) (nd (c0_23 P) (nd (c1_80 P) (l1 (c2_144 P)) .nil) (l1 (a12 P)))) (nd (c0_24 P) (nd (c0_40 P) (nd (c1_72 P) (l1 (c2_136 P)) .nil) (l1 (a11 P))) (nd (c1_56 P) (nd (c1_88 P) (l1 (c2_152 P)) .nil) (l1 (c2_120 P))))) (nd (c2_12 P) (nd (c0_20 P) (nd (c0_23 P) (nd (c1_68 P) (l1 (a11 P)) .nil) (l1 (a11 P))) (nd (c1_52 P) (nd (a12 P) (l1 (c2_148 P)) .nil) (l1 (c2_116 P)))) (nd (c0_28 P) (nd (c0_44 P) (nd (c1_76 P) (l1 (a12 P)) .nil) (l1 (c2_108 P))) (nd (c1_60 P) (l1 (c2_92 P)) (l1 (c2_124 P)))))) (nd (boot_o_6 P) (nd (boot_o_10 P) (nd (a11 P) (nd (c0_34 P) (nd (a11 P) (l1 (c2_130 P)) .nil) (l1 (a12 P))) (nd (a11 P) (nd (c1_82 P) (l1 (c2_146 P)) .nil) (l1 (a11 P)))) (nd (a12 P) (nd (a11 P) (nd (a12 P) (l1 (c2_138 P)) .nil) (l1 (c2_106 P))) (nd (c1_58 P) (l1 (a11 P)) (l1 (c2_122 P))))) (nd (a14 P) (nd (c0_22 P) (nd (a11 P) (nd (c1_70 P) (l1 (c2_134 P)) .nil) (l1 (c2_102 P))) (nd (a11 P) (nd (a11 P) (l1 (c2_150 P)) .nil) (l1 (a11 P)))) (nd (c0_30 P) (nd (c0_46 P) (nd (a11 P) (l1 (a11 P)) .nil) (l1 (c2_110 P))) (nd (c1_62 P) (l1 (c2_94 P)) (l1 (a12 P))))))))
noncomputable def sc2_ (w : World) (os : OsState) : SharedT := SharedT.mk (tc2_ w.params) 153 (@Life.mk [] [] [] 0 [] [] Bool.false E [] 0 Bool.false Bool.false Bool.false 0 [2000, 10, 10] Bool.false 0 Bool.true [] [] 0 Bool.false) E (@Drawn.mk 0 0 0 0) 387 os
noncomputable def c3_3 (P : Params) : Obj := (Obj.mk y3 none (Data.dict (A [(de P q3 165 (vs q43 383)), (de P q5 166 vn), (de P q6 167 vn), (de P q7 168 y4), (de P q8 169 vn), (de P q9 170 (vr 6)), (de P q10 171 (vr 4)), (de P q11 173 (vs q1 172)), (de P q12 174 vn), (de P q13 193 (vr 21)), (de P q14 213 (vr 31)), (de P q15 229 (vr 44)), (de P q23 254 (vr 63)), (de P q24 258 (vi 400 257)), (de P q25 260 (vi 2000 259)), (de P q26 262 (vi 2000 261)), (de P q27 264 (vi 8 263)), (de P q28 266 (vi 100000 265)), (de P q29 268 (vi 32 267)), (de P q30 270 (vi 37 269)), (de P q31 272 (vi 126 271)), (de P q32 279 (vr 72)), (de P q33 285 (vr 77)), (de P q34 291 (vr 82)), (de P q35 299 (vr 89)), (de P q44 382 (vr 148)), (de P q45 386 (vi 40 385)), (de P q69 408 (vr 153)), (de P q70 473 (vr 205))]) 29) E)
noncomputable def c3_12 (P : Params) : Obj := (Obj.mk vn none (Data.fields (A [(vi 1 0), (vi 0 0), (vr 20), (vi 5 0), (vi 0 0), (vr 27), (vi 7 0), (vi 0 0), (vr 40), (vi 9 0), (vi 0 0), (vr 52), (vi 22 0), (vi 0 0), (vr 71), (vi 24 0), (vi 0 0), (vr 76), (vi 30 0), (vi 0 0), (vr 81), (vi 40 0), (vi 0 0), (vr 88), (vi 43 0), (vi 0 0), (vr 95), (vi 110 0), (vi 0 0), (vr 159)])) E)
noncomputable def c3_153 (P : Params) : Obj := (Obj.mk y3 none (Data.dict (A [(de P q71 387 (vs q72 388)), (de P q73 389 (vs q72 390)), (de P q74 391 (vs q75 392)), (de P q76 393 (vs q72 394)), (de P q77 395 (vs q78 396)), (de P q79 397 (vs q80 398)), (de P q81 399 (vs q80 400))]) 7) E)
noncomputable def c3_156 (P : Params) : Obj := (Obj.mk y3 none (Data.dict (A [(de P q17 416 (vs q43 383)), (de P q18 418 (vs q70 417)), (de P q19 420 (vi 110 419)), (de P q82 427 (vr 167)), (de P q83 434 (vr 174)), (de P q84 443 (vr 181)), (de P q85 451 (vr 188)), (de P q86 458 (vr 195)), (de P q87 465 (vr 202)), (de P q20 466 (vr 203))]) 10) E)
noncomputable def c3_158 (P : Params) : Obj := (Obj.mk vn none (Data.fields (A [(vi 112 0), (vi 4 0), (vr 166), (vi 115 0), (vi 4 0), (vr 173), (vi 118 0), (vi 4 0), (vr 180), (vi 121 0), (vi 4 0), (vr 187), (vi 124 0), (vi 4 0), (vr 194), (vi 127 0), (vi 4 0), (vr 201)])) E)
noncomputable def c3_159 (P : Params) : Obj := m0 P q70 411 412 413 110 157 158 414 415
noncomputable def c3_160 (P : Params) : Obj := m1 P 159 156 q43 383
noncomputable def c3_163 (P : Params) : Obj := m3 P q37 424
noncomputable def c3_165 (P : Params) : Obj := m4 P q82 q88 (M 22 0)
noncomputable def c3_166 (P : Params) : Obj := m5 P q82 421 q88 422 423 112 1 161 162 163 164 165 425 426
noncomputable def c3_167 (P : Params) : Obj := m6 P q82 q88 (M 22 0) q43 383 166
noncomputable def c3_170 (P : Params) : Obj := m3 P q37 431
noncomputable def c3_172 (P : Params) : Obj := m4 P q83 q89 (M 22 1)
noncomputable def c3_173 (P : Params) : Obj := m5 P q83 428 q89 429 430 115 1 168 169 170 171 172 432 433
noncomputable def c3_174 (P : Params) : Obj := m6 P q83 q89 (M 22 1) q43 383 173
noncomputable def c3_177 (P : Params) : Obj := m13 P q37 438 q90 439 q91 440
noncomputable def c3_179 (P : Params) : Obj := m4 P q84 q92 (M 22 2)
noncomputable def c3_180 (P : Params) : Obj := m5 P q84 435 q92 436 437 118 3 175 176 177 178 179 441 442
noncomputable def c3_181 (P : Params) : Obj := m6 P q84 q92 (M 22 2) q43 383 180
noncomputable def c3_184 (P : Params) : Obj := m11 P q37 447 q91 448
noncomputable def c3_186 (P : Params) : Obj := m4 P q85 q93 (M 22 3)
noncomputable def c3_187 (P : Params) : Obj := m5 P q85 444 q93 445 446 121 2 182 183 184 185 186 449 450
noncomputable def c3_188 (P : Params) : Obj := m6 P q85 q93 (M 22 3) q43 383 187
noncomputable def c3_191 (P : Params) : Obj := m3 P q37 455
noncomputable def c3_193 (P : Params) : Obj := m4 P q86 q94 (M 22 4)
noncomputable def c3_194 (P : Params) : Obj := m5 P q86 452 q94 453 454 124 1 189 190 191 192 193 456 457
noncomputable def c3_195 (P : Params) : Obj := m6 P q86 q94 (M 22 4) q43 383 194
noncomputable def c3_198 (P : Params) : Obj := m3 P q37 462
noncomputable def c3_200 (P : Params) : Obj := m4 P q87 q95 (M 22 5)
noncomputable def c3_201 (P : Params) : Obj := m5 P q87 459 q95 460 461 127 1 196 197 198 199 200 463 464
noncomputable def c3_202 (P : Params) : Obj := m6 P q87 q95 (M 22 5) q43 383 201
noncomputable def c3_204 (P : Params) : Obj := (Obj.mk y3 none (Data.dict (A [(de P q17 416 (vs q43 383)), (de P q19 420 (vi 110 419)), (de P q82 427 (vr 167)), (de P q83 434 (vr 174)), (de P q84 443 (vr 181)), (de P q85 451 (vr 188)), (de P q86 458 (vr 195)), (de P q87 465 (vr 202)), (de P q20 466 (vr 203)), (de P q68 468 (vr 206)), (de P q21 470 (vr 207)), (de P q5 471 vn)]) 4) E)
noncomputable def c3_205 (P : Params) : Obj := (Obj.mk y9 none (Data.cls (ClassData.mk q70 [y12] [(vr 205), y12] 204 q70 Bool.true [] [] Bool.false none Bool.false)) (A [none, none, (some (vs q70 409)), (some (vs q70 417)), (some y18), (some vT)]))
noncomputable def c3_206 (P : Params) : Obj := m15 P 467 205
noncomputable def c3_207 (P : Params) : Obj := m7 P 469 205
noncomputable def c3_208 (P : Params) : Obj := m8 P 205
noncomputable def c3_209 (P : Params) : Obj := m9 P 205
noncomputable def u1 (P : Params) : BT := (nd (c0_35 P) (nd (a12 P) (l1 (c2_143 P)) (l1 (c3_207 P))) (nd (a11 P) (l1 (a11 P)) .nil))
noncomputable def u2 (P : Params) : BT := (nd (c1_49 P) (nd (c1_81 P) (l1 (c2_145 P)) (l1 (c3_209 P))) (nd (c2_113 P) (l1 (c3_177 P)) .nil))
noncomputable def u3 (P : Params) : BT := (nd (c0_23 P) (nd (c1_80 P) (l1 (c2_144 P)) (l1 (c3_208 P))) (nd (a12 P) (l1 (a12 P)) .nil))
noncomputable def u4 (P : Params) : BT := (nd (c0_44 P) (nd (c1_76 P) (l1 (a12 P)) (l1 (c3_204 P))) (nd (c2_108 P) (l1 (c3_172 P)) .nil))
noncomputable def u5 (P : Params) : BT := (nd (c0_46 P) (nd (a11 P) (l1 (a11 P)) (l1 (c3_206 P))) (nd (c2_110 P) (l1 (c3_174 P)) .nil))
noncomputable def tc3_ (P : Params) : BT := (nd (boot_o_0 P) (nd (boot_o_1 P) (nd (c3_3 P) (nd (boot_o_7 P) (nd (a11 P) (nd (c1_31 P) (nd (c1_63 P) (l1 (c2_127 P)) (l1 (c3_191 P))) (nd (c2_95 P) (l1 (c3_159 P)) .nil)) (u1 P)) (nd (c0_23 P) (nd (a12 P) (nd (c1_71 P) (l1 (a11 P)) (l1 (a11 P))) (nd (c2_103 P) (l1 (c3_167 P)) .nil)) (nd (a12 P) (nd (c1_87 P) (l1 (c2_151 P)) .nil) (nd (a12 P) (l1 (a12 P)) .nil)))) (nd (a11 P) (nd (c0_19 P) (nd (c0_35 P) (nd (a12 P) (l1 (c2_131 P)) (l1 (c3_195 P))) (nd (c2_99 P) (l1 (c3_163 P)) .nil)) (nd (c1_51 P) (nd (a11 P) (l1 (c2_147 P)) .nil) (nd (c2_115 P) (l1 (c3_179 P)) .nil))) (nd (c0_27 P) (nd (c0_43 P) (nd (c1_75 P) (l1 (a11 P)) (l1 (a11 P))) (nd (a11 P) (l1 (a11 P)) .nil)) (nd (c1_59 P) (nd (c0_23 P) (l1 (c0_23 P)) .nil) (nd (c2_123 P) (l1 (c3_187 P)) .nil))))) (nd (boot_o_5 P) (nd (boot_o_9 P) (nd (c0_17 P) (nd (c0_33 P) (nd (c1_65 P) (l1 (c2_129 P)) (l1 (c3_193 P))) (nd (a11 P) (l1 (a11 P)) .nil)) (u2 P)) (nd (a11 P) (nd (c0_41 P) (nd (a11 P) (l1 (c2_137 P)) (l1 (c3_201 P))) (nd (a12 P) (l1 (a12 P)) .nil)) (nd (a11 P) (nd (c1_89 P) (l1 (c3_153 P)) .nil) (nd (a11 P) (l1 (a11 P)) .nil)))) (nd (a13 P) (nd (c0_21 P) (nd (c0_37 P) (nd (a11 P) (l1 (a12 P)) (l1 (a12 P))) (nd (c2_101 P) (l1 (c3_165 P)) .nil)) (nd (c1_53 P) (nd (c1_85 P) (l1 (c2_149 P)) .nil) (nd (c2_117 P) (l1 (c3_181 P)) .nil))) (nd (a11 P) (nd (c0_45 P) (nd (c1_77 P) (l1 (c2_141 P)) (l1 (c3_205 P))) (nd (c2_109 P) (l1 (c3_173 P)) .nil)) (nd (c1_61 P) (nd (a11 P) (l1 (a11 P)) .nil) (nd (a11 P) (l1 (a11 P)) .nil)))))) (nd (boot_o_2 P) (nd (boot_o_4 P) (nd (boot_o_8 P) (nd (a12 P) (nd (c0_32 P) (nd (c1_64 P) (l1 (a11 P)) (l1 (a11 P))) (nd (c2_96 P) (l1 (c3_160 P)) .nil)) (u3 P)) (nd (c0_24 P) (nd (c0_40 P) (nd (c1_72 P) (l1 (c2_136 P)) (l1 (c3_200 P))) (nd (a11 P) (l1 (a11 P)) .nil)) (nd (c1_56 P) (nd (c1_88 P) (l1 (c2_152 P)) .nil) (nd (c2_120 P) (l1 (c3_184 P)) .nil)))) (nd (c3_12 P) (nd (c0_20 P) (nd (c0_23 P) (nd (c1_68 P) (l1 (a11 P)) (l1 (a11 P))) (nd (a11 P) (l1 (a11 P)) .nil)) (nd (c1_52 P) (nd (a12 P) (l1 (c2_148 P)) .nil) (nd (c2_116 P) (l1 (c3_180 P)) .nil))) (nd (c0_28 P) (u4 P) (nd (c1_60 P) (nd (c2_92 P) (l1 (c3_156 P)) .nil) (nd (c2_124 P) (l1 (c3_188 P)) .nil))))) (nd (boot_o_6 P) (nd (boot_o_10 P) (nd (a11 P) (nd (c0_34 P) (nd (a11 P) (l1 (c2_130 P)) (l1 (c3_194 P))) (nd (a12 P) (l1 (a12 P)) .nil)) (nd (a11 P) (nd (c1_82 P) (l1 (c2_146 P)) .nil) (nd (a11 P) (l1 (a11 P)) .nil))) (nd (a12 P) (nd (a11 P) (nd (a12 P) (l1 (c2_138 P)) (l1 (c3_202 P))) (nd (c2_106 P) (l1 (c3_170 P)) .nil)) (nd (c1_58 P) (nd (a11 P) (l1 (a11 P)) .nil) (nd (c2_122 P) (l1 (c3_186 P)) .nil)))) (nd (a14 P) (nd (c0_22 P) (nd (a11 P) (nd (c1_70 P) (l1 (c2_134 P)) (l1 (c3_198 P))) (nd (c2_102 P) (l1 (c3_166 P)) .nil)) (nd (a11 P) (nd (a11 P) (l1 (c2_150 P)) .nil) (nd (a11 P) (l1 (a11 P)) .nil))) (nd (c0_30 P) (u5 P) (nd (c1_62 P) (nd (c2_94 P) (l1 (c3_158 P)) .nil) (nd (a12 P) (l1 (a12 P)) .nil)))))))
noncomputable def sc3_ (w : World) (os : OsState) : SharedT := SharedT.mk (tc3_ w.params) 210 (@Life.mk [] [] [] 0 [] [] Bool.false E [] 0 Bool.false Bool.false Bool.false 0 [2000, 10, 10] Bool.false 0 Bool.true [] [] 0 Bool.false) E (@Drawn.mk 0 0 0 0) 474 os
noncomputable def c4_3 (P : Params) : Obj := (Obj.mk y3 none (Data.dict (A [(de P q3 165 (vs q43 383)), (de P q5 166 vn), (de P q6 167 vn), (de P q7 168 y4), (de P q8 169 vn), (de P q9 170 (vr 6)), (de P q10 171 (vr 4)), (de P q11 173 (vs q1 172)), (de P q12 174 vn), (de P q13 193 (vr 21)), (de P q14 213 (vr 31)), (de P q15 229 (vr 44)), (de P q23 254 (vr 63)), (de P q24 258 (vi 400 257)), (de P q25 260 (vi 2000 259)), (de P q26 262 (vi 2000 261)), (de P q27 264 (vi 8 263)), (de P q28 266 (vi 100000 265)), (de P q29 268 (vi 32 267)), (de P q30 270 (vi 37 269)), (de P q31 272 (vi 126 271)), (de P q32 279 (vr 72)), (de P q33 285 (vr 77)), (de P q34 291 (vr 82)), (de P q35 299 (vr 89)), (de P q44 382 (vr 148)), (de P q45 386 (vi 40 385)), (de P q69 408 (vr 153)), (de P q70 473 (vr 205)), (de P q96 507 (vr 233))]) 30) E)
noncomputable def c4_12 (P : Params) : Obj := (Obj.mk vn none (Data.fields (A [(vi 1 0), (vi 0 0), (vr 20), (vi 5 0), (vi 0 0), (vr 27), (vi 7 0), (vi 0 0), (vr 40), (vi 9 0), (vi 0 0), (vr 52), (vi 22 0), (vi 0 0), (vr 71), (vi 24 0), (vi 0 0), (vr 76), (vi 30 0), (vi 0 0), (vr 81), (vi 40 0), (vi 0 0), (vr 88), (vi 43 0), (vi 0 0), (vr 95), (vi 110 0), (vi 0 0), (vr 159), (vi 129 0), (vi 0 0), (vr 215)])) E)
noncomputable def c4_205 (P : Params) : Obj := (Obj.mk y9 none (Data.cls (ClassData.mk q70 [y12] [(vr 205), y12] 204 q70 Bool.true [] [(vr 233)] Bool.false none Bool.false)) (A [none, none, (some (vs q70 409)), (some (vs q70 417)), (some y18), (some vT)]))
noncomputable def c4_210 (P : Params) : Obj := m10 P 205
noncomputable def c4_212 (P : Params) : Obj := (Obj.mk y3 none (Data.dict (A [(de P q17 481 (vs q43 383)), (de P q18 483 (vs q96 482)), (de P q19 485 (vi 129 484)), (de P q36 494 (vr 223)), (de P q82 501 (vr 230)), (de P q20 504 (vr 231))]) 6) E)
noncomputable def c4_214 (P : Params) : Obj := (Obj.mk vn none (Data.fields (A [(vi 131 0), (vi 4 0), (vr 222), (vi 135 0), (vi 4 0), (vr 229)])) E)
noncomputable def c4_215 (P : Params) : Obj := m0 P q96 476 477 478 129 213 214 479 480
noncomputable def c4_216 (P : Params) : Obj := m1 P 215 212 q43 383
noncomputable def c4_219 (P : Params) : Obj := m13 P q37 489 q97 490 q98 491
noncomputable def c4_221 (P : Params) : Obj := m4 P q36 q99 (M 23 0)
noncomputable def c4_222 (P : Params) : Obj := m5 P q36 486 q99 487 488 131 3 217 218 219 220 221 492 493
noncomputable def c4_223 (P : Params) : Obj := m6 P q36 q99 (M 23 0) q43 383 222
noncomputable def c4_226 (P : Params) : Obj := m3 P q37 498
noncomputable def c4_228 (P : Params) : Obj := m4 P q82 q100 (M 23 1)
noncomputable def c4_229 (P : Params) : Obj := m5 P q82 495 q100 496 497 135 1 224 225 226 227 228 499 500
noncomputable def c4_230 (P : Params) : Obj := m6 P q82 q100 (M 23 1) q43 383 229
noncomputable def c4_231 (P : Params) : Obj := m11 P q98 502 q97 503
noncomputable def c4_232 (P : Params) : Obj := (Obj.mk y3 none (Data.dict (A [(de P q17 481 (vs q43 383)), (de P q19 485 (vi 129 484)), (de P q36 494 (vr 223)), (de P q82 501 (vr 230)), (de P q20 504 (vr 231)), (de P q5 505 vn)]) 2) E)
noncomputable def c4_233 (P : Params) : Obj := (Obj.mk y9 none (Data.cls (ClassData.mk q96 [(vr 205)] [(vr 233), (vr 205), y12] 232 q96 Bool.true [] [] Bool.false none Bool.false)) (A [(sr 210), none, (some (vs q96 474)), (some (vs q96 482)), (some y18), (some vT)]))
noncomputable def c4_234 (P : Params) : Obj := m8 P 233
noncomputable def c4_235 (P : Params) : Obj := m9 P 233
noncomputable def tc4_ (P : Params) : BT := (nd (boot_o_0 P) (nd (boot_o_1 P) (nd (c4_3 P) (nd (boot_o_7 P) (nd (a11 P) (nd (c1_31 P) (nd (c1_63 P) (l1 (c2_127 P)) (l1 (c3_191 P))) (nd (c2_95 P) (l1 (c3_159 P)) (l1 (c4_223 P)))) (u1 P)) (nd (c0_23 P) (nd (a12 P) (nd (c1_71 P) (l1 (a11 P)) (l1 (a11 P))) (nd (c2_103 P) (l1 (c3_167 P)) (l1 (c4_231 P)))) (nd (a12 P) (nd (c1_87 P) (l1 (c2_151 P)) (l1 (c4_215 P))) (nd (a12 P) (l1 (a12 P)) .nil)))) (nd (a11 P) (nd (c0_19 P) (nd (c0_35 P) (nd (a12 P) (l1 (c2_131 P)) (l1 (c3_195 P))) (nd (c2_99 P) (l1 (c3_163 P)) (l1 (a11 P)))) (nd (c1_51 P) (nd (a11 P) (l1 (c2_147 P)) (l1 (c0_23 P))) (nd (c2_115 P) (l1 (c3_179 P)) .nil))) (nd (c0_27 P) (nd (c0_43 P) (nd (c1_75 P) (l1 (a11 P)) (l1 (a11 P))) (nd (a11 P) (l1 (a11 P)) (l1 (c4_235 P)))) (nd (c1_59 P) (nd (c0_23 P) (l1 (c0_23 P)) (l1 (c4_219 P))) (nd (c2_123 P) (l1 (c3_187 P)) .nil))))) (nd (boot_o_5 P) (nd (boot_o_9 P) (nd (c0_17 P) (nd (c0_33 P) (nd (c1_65 P) (l1 (c2_129 P)) (l1 (c3_193 P))) (nd (a11 P) (l1 (a11 P)) (l1 (a12 P)))) (u2 P)) (nd (a11 P) (nd (c0_41 P) (nd (a11 P) (l1 (c2_137 P)) (l1 (c3_201 P))) (nd (a12 P) (l1 (a12 P)) (l1 (c4_233 P)))) (nd (a11 P) (nd (c1_89 P) (l1 (c3_153 P)) (l1 (a11 P))) (nd (a11 P) (l1 (a11 P)) .nil)))) (nd (a13 P) (nd (c0_21 P) (nd (c0_37 P) (nd (a11 P) (l1 (a12 P)) (l1 (a12 P))) (nd (c2_101 P) (l1 (c3_165 P)) (l1 (c4_229 P)))) (nd (c1_53 P) (nd (c1_85 P) (l1 (c2_149 P)) (l1 (a11 P))) (nd (c2_117 P) (l1 (c3_181 P)) .nil))) (nd (a11 P) (nd (c0_45 P) (nd (c1_77 P) (l1 (c2_141 P)) (l1 (c4_205 P))) (nd (c2_109 P) (l1 (c3_173 P)) .nil)) (nd (c1_61 P) (nd (a11 P) (l1 (a11 P)) (l1 (c4_221 P))) (nd (a11 P) (l1 (a11 P)) .nil)))))) (nd (boot_o_2 P) (nd (boot_o_4 P) (nd (boot_o_8 P) (nd (a12 P) (nd (c0_32 P) (nd (c1_64 P) (l1 (a11 P)) (l1 (a11 P))) (nd (c2_96 P) (l1 (c3_160 P)) (l1 (a11 P)))) (u3 P)) (nd (c0_24 P) (nd (c0_40 P) (nd (c1_72 P) (l1 (c2_136 P)) (l1 (c3_200 P))) (nd (a11 P) (l1 (a11 P)) (l1 (c4_232 P)))) (nd (c1_56 P) (nd (c1_88 P) (l1 (c2_152 P)) (l1 (c4_216 P))) (nd (c2_120 P) (l1 (c3_184 P)) .nil)))) (nd (c4_12 P) (nd (c0_20 P) (nd (c0_23 P) (nd (c1_68 P) (l1 (a11 P)) (l1 (a11 P))) (nd (a11 P) (l1 (a11 P)) (l1 (c4_228 P)))) (nd (c1_52 P) (nd (a12 P) (l1 (c2_148 P)) (l1 (c4_212 P))) (nd (c2_116 P) (l1 (c3_180 P)) .nil))) (nd (c0_28 P) (u4 P) (nd (c1_60 P) (nd (c2_92 P) (l1 (c3_156 P)) (l1 (a11 P))) (nd (c2_124 P) (l1 (c3_188 P)) .nil))))) (nd (boot_o_6 P) (nd (boot_o_10 P) (nd (a11 P) (nd (c0_34 P) (nd (a11 P) (l1 (c2_130 P)) (l1 (c3_194 P))) (nd (a12 P) (l1 (a12 P)) (l1 (c4_226 P)))) (nd (a11 P) (nd (c1_82 P) (l1 (c2_146 P)) (l1 (c4_210 P))) (nd (a11 P) (l1 (a11 P)) .nil))) (nd (a12 P) (nd (a11 P) (nd (a12 P) (l1 (c2_138 P)) (l1 (c3_202 P))) (nd (c2_106 P) (l1 (c3_170 P)) (l1 (c4_234 P)))) (nd (c1_58 P) (nd (a11 P) (l1 (a11 P)) (l1 (a12 P))) (nd (c2_122 P) (l1 (c3_186 P)) .nil)))) (nd (a14 P) (nd (c0_22 P) (nd (a11 P) (nd (c1_70 P) (l1 (c2_134 P)) (l1 (c3_198 P))) (nd (c2_102 P) (l1 (c3_166 P)) (l1 (c4_230 P)))) (nd (a11 P) (nd (a11 P) (l1 (c2_150 P)) (l1 (c4_214 P))) (nd (a11 P) (l1 (a11 P)) .nil))) (nd (c0_30 P) (u5 P) (nd (c1_62 P) (nd (c2_94 P) (l1 (c3_158 P)) (l1 (c4_222 P))) (nd (a12 P) (l1 (a12 P)) .nil)))))))
noncomputable def sc4_ (w : World) (os : OsState) : SharedT := SharedT.mk (tc4_ w.params) 236 (@Life.mk [] [] [] 0 [] [] Bool.false E [] 0 Bool.false Bool.false Bool.false 0 [2000, 10, 10] Bool.false 0 Bool.true [] [] 0 Bool.false) E (@Drawn.mk 0 0 0 0) 508 os
noncomputable def c5_3 (P : Params) : Obj := (Obj.mk y3 none (Data.dict (A [(de P q3 165 (vs q43 383)), (de P q5 166 vn), (de P q6 167 vn), (de P q7 168 y4), (de P q8 169 vn), (de P q9 170 (vr 6)), (de P q10 171 (vr 4)), (de P q11 173 (vs q1 172)), (de P q12 174 vn), (de P q13 193 (vr 21)), (de P q14 213 (vr 31)), (de P q15 229 (vr 44)), (de P q23 254 (vr 63)), (de P q24 258 (vi 400 257)), (de P q25 260 (vi 2000 259)), (de P q26 262 (vi 2000 261)), (de P q27 264 (vi 8 263)), (de P q28 266 (vi 100000 265)), (de P q29 268 (vi 32 267)), (de P q30 270 (vi 37 269)), (de P q31 272 (vi 126 271)), (de P q32 279 (vr 72)), (de P q33 285 (vr 77)), (de P q34 291 (vr 82)), (de P q35 299 (vr 89)), (de P q44 382 (vr 148)), (de P q45 386 (vi 40 385)), (de P q69 408 (vr 153)), (de P q70 473 (vr 205)), (de P q96 507 (vr 233)), (de P q101 546 (vr 266))]) 31) E)
noncomputable def c5_12 (P : Params) : Obj := (Obj.mk vn none (Data.fields (A [(vi 1 0), (vi 0 0), (vr 20), (vi 5 0), (vi 0 0), (vr 27), (vi 7 0), (vi 0 0), (vr 40), (vi 9 0), (vi 0 0), (vr 52), (vi 22 0), (vi 0 0), (vr 71), (vi 24 0), (vi 0 0), (vr 76), (vi 30 0), (vi 0 0), (vr 81), (vi 40 0), (vi 0 0), (vr 88), (vi 43 0), (vi 0 0), (vr 95), (vi 110 0), (vi 0 0), (vr 159), (vi 129 0), (vi 0 0), (vr 215), (vi 137 0), (vi 0 0), (vr 241)])) E)
noncomputable def c5_233 (P : Params) : Obj := (Obj.mk y9 none (Data.cls (ClassData.mk q96 [(vr 205)] [(vr 233), (vr 205), y12] 232 q96 Bool.true [] [(vr 266)] Bool.false none Bool.false)) (A [(sr 210), none, (some (vs q96 474)), (some (vs q96 482)), (some y18), (some vT)]))
noncomputable def c5_236 (P : Params) : Obj := m10 P 233
noncomputable def m16 (P : Params) (x0 : Nat) (x1 : Nat) (x2 : Str) (x3 : Nat) (x4 : Nat) (x5 : Int) (x6 : Nat) (x7 : Str) (x8 : Nat) (x9 : Nat) (x10 : Nat) (x11 : Nat) (x12 : Nat) (x13 : Nat) (x14 : Nat) (x15 : Nat) : Obj := (Obj.mk y3 none (Data.dict (A [(de P q17 x0 (vs q43 383)), (de P q18 x1 (vs x2 x3)), (de P q19 x4 (vi x5 x6)), (de P x7 x8 (vr x9)), (de P q84 x10 (vr x11)), (de P q87 x12 (vr x13)), (de P q20 x14 (vr x15))]) 7) E)
noncomputable def c5_238 (P : Params) : Obj := m16 P 515 517 q101 516 519 137 518 q83 526 249 535 256 542 263 543 264
noncomputable def c5_240 (P : Params) : Obj := m2 P 139 4 248 142 255 145 262
noncomputable def c5_241 (P : Params) : Obj := m0 P q101 510 511 512 137 239 240 513 514
noncomputable def c5_242 (P : Params) : Obj := m1 P 241 238 q43 383
noncomputable def c5_245 (P : Params) : Obj := m3 P q37 523
noncomputable def c5_247 (P : Params) : Obj := m4 P q83 q102 (M 24 0)
noncomputable def c5_248 (P : Params) : Obj := m5 P q83 520 q102 521 522 139 1 243 244 245 246 247 524 525
noncomputable def c5_249 (P : Params) : Obj := m6 P q83 q102 (M 24 0) q43 383 248
noncomputable def c5_252 (P : Params) : Obj := m13 P q37 530 q90 531 q91 532
noncomputable def c5_254 (P : Params) : Obj := m4 P q84 q103 (M 24 1)
noncomputable def c5_255 (P : Params) : Obj := m5 P q84 527 q103 528 529 142 3 250 251 252 253 254 533 534
noncomputable def c5_256 (P : Params) : Obj := m6 P q84 q103 (M 24 1) q43 383 255
noncomputable def c5_259 (P : Params) : Obj := m3 P q37 539
noncomputable def c5_261 (P : Params) : Obj := m4 P q87 q104 (M 24 2)
noncomputable def c5_262 (P : Params) : Obj := m5 P q87 536 q104 537 538 145 1 257 258 259 260 261 540 541
noncomputable def c5_263 (P : Params) : Obj := m6 P q87 q104 (M 24 2) q43 383 262
noncomputable def m17 (P : Params) (x0 : Nat) (x1 : Nat) (x2 : Int) (x3 : Nat) (x4 : Str) (x5 : Nat) (x6 : Nat) (x7 : Nat) (x8 : Nat) (x9 : Nat) (x10 : Nat) (x11 : Nat) (x12 : Nat) (x13 : Nat) : Obj := (Obj.mk y3 none (Data.dict (A [(de P q17 x0 (vs q43 383)), (de P q19 x1 (vi x2 x3)), (de P x4 x5 (vr x6)), (de P q84 x7 (vr x8)), (de P q87 x9 (vr x10)), (de P q20 x11 (vr x12)), (de P q5 x13 vn)]) 2) E)
noncomputable def c5_265 (P : Params) : Obj := m17 P 515 519 137 518 q83 526 249 535 256 542 263 543 264 544
noncomputable def c5_266 (P : Params) : Obj := (Obj.mk y9 none (Data.cls (ClassData.mk q101 [(vr 233)] [(vr 266), (vr 233), (vr 205), y12] 265 q101 Bool.true [] [] Bool.false none Bool.false)) (A [(sr 236), none, (some (vs q101 508)), (some (vs q101 516)), (some y18), (some vT)]))
noncomputable def c5_267 (P : Params) : Obj := m8 P 266
noncomputable def c5_268 (P : Params) : Obj := m9 P 266
noncomputable def u6 (P : Params) : BT := (nd (c1_63 P) (nd (c2_127 P) (l1 (c5_255 P)) .nil) (l1 (c3_191 P)))
noncomputable def u7 (P : Params) : BT := (nd (c1_71 P) (nd (a11 P) (l1 (c5_263 P)) .nil) (l1 (a11 P)))
noncomputable def u8 (P : Params) : BT := (nd (a12 P) (nd (c2_131 P) (l1 (c5_259 P)) .nil) (l1 (c3_195 P)))
noncomputable def u9 (P : Params) : BT := (nd (c1_75 P) (nd (a11 P) (l1 (c5_267 P)) .nil) (l1 (a11 P)))
noncomputable def u10 (P : Params) : BT := (nd (c1_65 P) (nd (c2_129 P) (l1 (a11 P)) .nil) (l1 (c3_193 P)))
noncomputable def u11 (P : Params) : BT := (nd (a11 P) (nd (c2_137 P) (l1 (c5_265 P)) .nil) (l1 (c3_201 P)))
noncomputable def u12 (P : Params) : BT := (nd (c1_64 P) (nd (a11 P) (l1 (c5_256 P)) .nil) (l1 (a11 P)))
noncomputable def u13 (P : Params) : BT := (nd (c1_72 P) (nd (c2_136 P) (l1 (a11 P)) .nil) (l1 (c3_200 P)))
noncomputable def u14 (P : Params) : BT := (nd (c1_76 P) (nd (a12 P) (l1 (c5_268 P)) .nil) (l1 (c3_204 P)))
noncomputable def u15 (P : Params) : BT := (nd (a11 P) (nd (c2_130 P) (l1 (a12 P)) .nil) (l1 (c3_194 P)))
noncomputable def u16 (P : Params) : BT := (nd (a12 P) (nd (c2_138 P) (l1 (c5_266 P)) .nil) (l1 (c3_202 P)))
noncomputable def u17 (P : Params) : BT := (nd (c1_70 P) (nd (c2_134 P) (l1 (c5_262 P)) .nil) (l1 (c3_198 P)))
noncomputable def tc5_ (P : Params) : BT := (nd (boot_o_0 P) (nd (boot_o_1 P) (nd (c5_3 P) (nd (boot_o_7 P) (nd (a11 P) (nd (c1_31 P) (u6 P) (nd (c2_95 P) (l1 (c3_159 P)) (l1 (c4_223 P)))) (nd (c0_35 P) (nd (a12 P) (l1 (c2_143 P)) (l1 (c3_207 P))) (nd (a11 P) (l1 (a11 P)) (l1 (a11 P))))) (nd (c0_23 P) (nd (a12 P) (u7 P) (nd (c2_103 P) (l1 (c3_167 P)) (l1 (c4_231 P)))) (nd (a12 P) (nd (c1_87 P) (l1 (c2_151 P)) (l1 (c4_215 P))) (nd (a12 P) (l1 (a12 P)) (l1 (c5_247 P)))))) (nd (a11 P) (nd (c0_19 P) (nd (c0_35 P) (u8 P) (nd (c2_99 P) (l1 (c3_163 P)) (l1 (a11 P)))) (nd (c1_51 P) (nd (a11 P) (l1 (c2_147 P)) (l1 (c0_23 P))) (nd (c2_115 P) (l1 (c3_179 P)) (l1 (a11 P))))) (nd (c0_27 P) (nd (c0_43 P) (u9 P) (nd (a11 P) (l1 (a11 P)) (l1 (c4_235 P)))) (nd (c1_59 P) (nd (c0_23 P) (l1 (c0_23 P)) (l1 (c4_219 P))) (nd (c2_123 P) (l1 (c3_187 P)) (l1 (a12 P))))))) (nd (boot_o_5 P) (nd (boot_o_9 P) (nd (c0_17 P) (nd (c0_33 P) (u10 P) (nd (a11 P) (l1 (a11 P)) (l1 (a12 P)))) (nd (c1_49 P) (nd (c1_81 P) (l1 (c2_145 P)) (l1 (c3_209 P))) (nd (c2_113 P) (l1 (c3_177 P)) (l1 (c5_241 P))))) (nd (a11 P) (nd (c0_41 P) (u11 P) (nd (a12 P) (l1 (a12 P)) (l1 (c5_233 P)))) (nd (a11 P) (nd (c1_89 P) (l1 (c3_153 P)) (l1 (a11 P))) (nd (a11 P) (l1 (a11 P)) (l1 (c5_249 P)))))) (nd (a13 P) (nd (c0_21 P) (nd (c0_37 P) (nd (a11 P) (nd (a12 P) (l1 (c5_261 P)) .nil) (l1 (a12 P))) (nd (c2_101 P) (l1 (c3_165 P)) (l1 (c4_229 P)))) (nd (c1_53 P) (nd (c1_85 P) (l1 (c2_149 P)) (l1 (a11 P))) (nd (c2_117 P) (l1 (c3_181 P)) (l1 (c5_245 P))))) (nd (a11 P) (nd (c0_45 P) (nd (c1_77 P) (l1 (c2_141 P)) (l1 (c4_205 P))) (nd (c2_109 P) (l1 (c3_173 P)) (l1 (c0_23 P)))) (nd (c1_61 P) (nd (a11 P) (l1 (a11 P)) (l1 (c4_221 P))) (nd (a11 P) (l1 (a11 P)) (l1 (a11 P)))))))) (nd (boot_o_2 P) (nd (boot_o_4 P) (nd (boot_o_8 P) (nd (a12 P) (nd (c0_32 P) (u12 P) (nd (c2_96 P) (l1 (c3_160 P)) (l1 (a11 P)))) (nd (c0_23 P) (nd (c1_80 P) (l1 (c2_144 P)) (l1 (c3_208 P))) (nd (a12 P) (l1 (a12 P)) (l1 (c5_240 P))))) (nd (c0_24 P) (nd (c0_40 P) (u13 P) (nd (a11 P) (l1 (a11 P)) (l1 (c4_232 P)))) (nd (c1_56 P) (nd (c1_88 P) (l1 (c2_152 P)) (l1 (c4_216 P))) (nd (c2_120 P) (l1 (c3_184 P)) (l1 (c5_248 P)))))) (nd (c5_12 P) (nd (c0_20 P) (nd (c0_23 P) (nd (c1_68 P) (nd (a11 P) (l1 (a11 P)) .nil) (l1 (a11 P))) (nd (a11 P) (l1 (a11 P)) (l1 (c4_228 P)))) (nd (c1_52 P) (nd (a12 P) (l1 (c2_148 P)) (l1 (c4_212 P))) (nd (c2_116 P) (l1 (c3_180 P)) (l1 (a12 P))))) (nd (c0_28 P) (nd (c0_44 P) (u14 P) (nd (c2_108 P) (l1 (c3_172 P)) (l1 (c5_236 P)))) (nd (c1_60 P) (nd (c2_92 P) (l1 (c3_156 P)) (l1 (a11 P))) (nd (c2_124 P) (l1 (c3_188 P)) (l1 (c5_252 P))))))) (nd (boot_o_6 P) (nd (boot_o_10 P) (nd (a11 P) (nd (c0_34 P) (u15 P) (nd (a12 P) (l1 (a12 P)) (l1 (c4_226 P)))) (nd (a11 P) (nd (c1_82 P) (l1 (c2_146 P)) (l1 (c4_210 P))) (nd (a11 P) (l1 (a11 P)) (l1 (c5_242 P))))) (nd (a12 P) (nd (a11 P) (u16 P) (nd (c2_106 P) (l1 (c3_170 P)) (l1 (c4_234 P)))) (nd (c1_58 P) (nd (a11 P) (l1 (a11 P)) (l1 (a12 P))) (nd (c2_122 P) (l1 (c3_186 P)) (l1 (a11 P)))))) (nd (a14 P) (nd (c0_22 P) (nd (a11 P) (u17 P) (nd (c2_102 P) (l1 (c3_166 P)) (l1 (c4_230 P)))) (nd (a11 P) (nd (a11 P) (l1 (c2_150 P)) (l1 (c4_214 P))) (nd (a11 P) (l1 (a11 P)) (l1 (a11 P))))) (nd (c0_30 P) (nd (c0_46 P) (nd (a11 P) (l1 (a11 P)) (l1 (c3_206 P))) (nd (c2_110 P) (l1 (c3_174 P)) (l1 (c5_238 P)))) (nd (c1_62 P) (nd (c2_94 P) (l1 (c3_158 P)) (l1 (c4_222 P))) (nd (a12 P) (l1 (a12 P)) (l1 (c5_254 P)))))))))
noncomputable def sc5_ (w : World) (os : OsState) : SharedT := SharedT.mk (tc5_ w.params) 269 (@Life.mk [] [] [] 0 [] [] Bool.false E [] 0 Bool.false Bool.false Bool.false 0 [2000, 10, 10] Bool.false 0 Bool.true [] [] 0 Bool.false) E (@Drawn.mk 0 0 0 0) 547 os
noncomputable def c6_3 (P : Params) : Obj := (Obj.mk y3 none (Data.dict (A [(de P q3 165 (vs q43 383)), (de P q5 166 vn), (de P q6 167 vn), (de P q7 168 y4), (de P q8 169 vn), (de P q9 170 (vr 6)), (de P q10 171 (vr 4)), (de P q11 173 (vs q1 172)), (de P q12 174 vn), (de P q13 193 (vr 21)), (de P q14 213 (vr 31)), (de P q15 229 (vr 44)), (de P q23 254 (vr 63)), (de P q24 258 (vi 400 257)), (de P q25 260 (vi 2000 259)), (de P q26 262 (vi 2000 261)), (de P q27 264 (vi 8 263)), (de P q28 266 (vi 100000 265)), (de P q29 268 (vi 32 267)), (de P q30 270 (vi 37 269)), (de P q31 272 (vi 126 271)), (de P q32 279 (vr 72)), (de P q33 285 (vr 77)), (de P q34 291 (vr 82)), (de P q35 299 (vr 89)), (de P q44 382 (vr 148)), (de P q45 386 (vi 40 385)), (de P q69 408 (vr 153)), (de P q70 473 (vr 205)), (de P q96 507 (vr 233)), (de P q101 546 (vr 266)), (de P q105 585 (vr 299))]) 32) E)
noncomputable def c6_12 (P : Params) : Obj := (Obj.mk vn none (Data.fields (A [(vi 1 0), (vi 0 0), (vr 20), (vi 5 0), (vi 0 0), (vr 27), (vi 7 0), (vi 0 0), (vr 40), (vi 9 0), (vi 0 0), (vr 52), (vi 22 0), (vi 0 0), (vr 71), (vi 24 0), (vi 0 0), (vr 76), (vi 30 0), (vi 0 0), (vr 81), (vi 40 0), (vi 0 0), (vr 88), (vi 43 0), (vi 0 0), (vr 95), (vi 110 0), (vi 0 0), (vr 159), (vi 129 0), (vi 0 0), (vr 215), (vi 137 0), (vi 0 0), (vr 241), (vi 147 0), (vi 0 0), (vr 274)])) E)
noncomputable def c6_233 (P : Params) : Obj := (Obj.mk y9 none (Data.cls (ClassData.mk q96 [(vr 205)] [(vr 233), (vr 205), y12] 232 q96 Bool.true [] [(vr 266), (vr 299)] Bool.false none Bool.false)) (A [(sr 210), none, (some (vs q96 474)), (some (vs q96 482)), (some y18), (some vT)]))
noncomputable def c6_271 (P : Params) : Obj := m16 P 554 556 q105 555 558 147 557 q83 565 282 574 289 581 296 582 297
noncomputable def c6_273 (P : Params) : Obj := m2 P 149 4 281 152 288 155 295
noncomputable def c6_274 (P : Params) : Obj := m0 P q105 549 550 551 147 272 273 552 553
noncomputable def c6_275 (P : Params) : Obj := m1 P 274 271 q43 383
noncomputable def c6_278 (P : Params) : Obj := m3 P q37 562
noncomputable def c6_280 (P : Params) : Obj := m4 P q83 q106 (M 25 0)
noncomputable def c6_281 (P : Params) : Obj := m5 P q83 559 q106 560 561 149 1 276 277 278 279 280 563 564
noncomputable def c6_282 (P : Params) : Obj := m6 P q83 q106 (M 25 0) q43 383 281
noncomputable def c6_285 (P : Params) : Obj := m13 P q37 569 q90 570 q91 571
noncomputable def c6_287 (P : Params) : Obj := m4 P q84 q107 (M 25 1)
noncomputable def c6_288 (P : Params) : Obj := m5 P q84 566 q107 567 568 152 3 283 284 285 286 287 572 573
noncomputable def c6_289 (P : Params) : Obj := m6 P q84 q107 (M 25 1) q43 383 288
noncomputable def c6_292 (P : Params) : Obj := m3 P q37 578
noncomputable def c6_294 (P : Params) : Obj := m4 P q87 q108 (M 25 2)
noncomputable def c6_295 (P : Params) : Obj := m5 P q87 575 q108 576 577 155 1 290 291 292 293 294 579 580
noncomputable def c6_296 (P : Params) : Obj := m6 P q87 q108 (M 25 2) q43 383 295
noncomputable def c6_298 (P : Params) : Obj := m17 P 554 558 147 557 q83 565 282 574 289 581 296 582 297 583
noncomputable def c6_299 (P : Params) : Obj := (Obj.mk y9 none (Data.cls (ClassData.mk q105 [(vr 233)] [(vr 299), (vr 233), (vr 205), y12] 298 q105 Bool.true [] [] Bool.false none Bool.false)) (A [(sr 269), none, (some (vs q105 547)), (some (vs q105 555)), (some y18), (some vT)]))
noncomputable def c6_300 (P : Params) : Obj := m8 P 299
noncomputable def c6_301 (P : Params) : Obj := m9 P 299
noncomputable def u18 (P : Params) : BT := (nd (c2_95 P) (nd (c3_159 P) (l1 (c6_287 P)) .nil) (l1 (c4_223 P)))
noncomputable def u19 (P : Params) : BT := (nd (c2_103 P) (nd (c3_167 P) (l1 (c6_295 P)) .nil) (l1 (c4_231 P)))
noncomputable def u20 (P : Params) : BT := (nd (c2_99 P) (nd (c3_163 P) (l1 (a12 P)) .nil) (l1 (a11 P)))
noncomputable def u21 (P : Params) : BT := (nd (a11 P) (nd (a11 P) (l1 (c6_299 P)) .nil) (l1 (c4_235 P)))
noncomputable def u22 (P : Params) : BT := (nd (c2_101 P) (nd (c3_165 P) (l1 (a11 P)) .nil) (l1 (c4_229 P)))
noncomputable def u23 (P : Params) : BT := (nd (c2_109 P) (nd (c3_173 P) (l1 (c6_301 P)) .nil) (l1 (c0_23 P)))
noncomputable def u24 (P : Params) : BT := (nd (a11 P) (nd (a11 P) (l1 (c6_285 P)) .nil) (l1 (c4_221 P)))
noncomputable def u25 (P : Params) : BT := (nd (c2_96 P) (nd (c3_160 P) (l1 (c6_288 P)) .nil) (l1 (a11 P)))
noncomputable def u26 (P : Params) : BT := (nd (a11 P) (nd (a11 P) (l1 (c6_296 P)) .nil) (l1 (c4_232 P)))
noncomputable def u27 (P : Params) : BT := (nd (a11 P) (nd (a11 P) (l1 (c6_292 P)) .nil) (l1 (c4_228 P)))
noncomputable def u28 (P : Params) : BT := (nd (c2_108 P) (nd (c3_172 P) (l1 (c6_300 P)) .nil) (l1 (c5_236 P)))
noncomputable def u29 (P : Params) : BT := (nd (c2_106 P) (nd (c3_170 P) (l1 (c6_298 P)) .nil) (l1 (c4_234 P)))
noncomputable def u30 (P : Params) : BT := (nd (c2_102 P) (nd (c3_166 P) (l1 (c6_294 P)) .nil) (l1 (c4_230 P)))
noncomputable def u31 (P : Params) : BT := (nd (c2_94 P) (nd (c3_158 P) (l1 (a11 P)) .nil) (l1 (c4_222 P)))
noncomputable def tc6_ (P : Params) : BT := (nd (boot_o_0 P) (nd (boot_o_1 P) (nd (c6_3 P) (nd (boot_o_7 P) (nd (a11 P) (nd (c1_31 P) (u6 P) (u18 P)) (nd (c0_35 P) (nd (a12 P) (nd (c2_143 P) (l1 (c6_271 P)) .nil) (l1 (c3_207 P))) (nd (a11 P) (l1 (a11 P)) (l1 (a11 P))))) (nd (c0_23 P) (nd (a12 P) (u7 P) (u19 P)) (nd (a12 P) (nd (c1_87 P) (nd (c2_151 P) (l1 (a11 P)) .nil) (l1 (c4_215 P))) (nd (a12 P) (l1 (a12 P)) (l1 (c5_247 P)))))) (nd (a11 P) (nd (c0_19 P) (nd (c0_35 P) (u8 P) (u20 P)) (nd (c1_51 P) (nd (a11 P) (nd (c2_147 P) (l1 (c6_275 P)) .nil) (l1 (c0_23 P))) (nd (c2_115 P) (l1 (c3_179 P)) (l1 (a11 P))))) (nd (c0_27 P) (nd (c0_43 P) (u9 P) (u21 P)) (nd (c1_59 P) (nd (c0_23 P) (nd (c0_23 P) (l1 (a11 P)) .nil) (l1 (c4_219 P))) (nd (c2_123 P) (l1 (c3_187 P)) (l1 (a12 P))))))) (nd (boot_o_5 P) (nd (boot_o_9 P) (nd (c0_17 P) (nd (c0_33 P) (u10 P) (nd (a11 P) (nd (a11 P) (l1 (c6_289 P)) .nil) (l1 (a12 P)))) (nd (c1_49 P) (nd (c1_81 P) (nd (c2_145 P) (l1 (c6_273 P)) .nil) (l1 (c3_209 P))) (nd (c2_113 P) (l1 (c3_177 P)) (l1 (c5_241 P))))) (nd (a11 P) (nd (c0_41 P) (u11 P) (nd (a12 P) (nd (a12 P) (l1 (a11 P)) .nil) (l1 (c6_233 P)))) (nd (a11 P) (nd (c1_89 P) (nd (c3_153 P) (l1 (c6_281 P)) .nil) (l1 (a11 P))) (nd (a11 P) (l1 (a11 P)) (l1 (c5_249 P)))))) (nd (a13 P) (nd (c0_21 P) (nd (c0_37 P) (nd (a11 P) (nd (a12 P) (l1 (c5_261 P)) .nil) (l1 (a12 P))) (u22 P)) (nd (c1_53 P) (nd (c1_85 P) (nd (c2_149 P) (l1 (a12 P)) .nil) (l1 (a11 P))) (nd (c2_117 P) (l1 (c3_181 P)) (l1 (c5_245 P))))) (nd (a11 P) (nd (c0_45 P) (nd (c1_77 P) (nd (c2_141 P) (l1 (c5_236 P)) .nil) (l1 (c4_205 P))) (u23 P)) (nd (c1_61 P) (u24 P) (nd (a11 P) (l1 (a11 P)) (l1 (a11 P)))))))) (nd (boot_o_2 P) (nd (boot_o_4 P) (nd (boot_o_8 P) (nd (a12 P) (nd (c0_32 P) (u12 P) (u25 P)) (nd (c0_23 P) (nd (c1_80 P) (nd (c2_144 P) (l1 (a11 P)) .nil) (l1 (c3_208 P))) (nd (a12 P) (l1 (a12 P)) (l1 (c5_240 P))))) (nd (c0_24 P) (nd (c0_40 P) (u13 P) (u26 P)) (nd (c1_56 P) (nd (c1_88 P) (nd (c2_152 P) (l1 (c6_280 P)) .nil) (l1 (c4_216 P))) (nd (c2_120 P) (l1 (c3_184 P)) (l1 (c5_248 P)))))) (nd (c6_12 P) (nd (c0_20 P) (nd (c0_23 P) (nd (c1_68 P) (nd (a11 P) (l1 (a11 P)) .nil) (l1 (a11 P))) (u27 P)) (nd (c1_52 P) (nd (a12 P) (nd (c2_148 P) (l1 (a11 P)) .nil) (l1 (c4_212 P))) (nd (c2_116 P) (l1 (c3_180 P)) (l1 (a12 P))))) (nd (c0_28 P) (nd (c0_44 P) (u14 P) (u28 P)) (nd (c1_60 P) (nd (c2_92 P) (nd (c3_156 P) (l1 (a12 P)) .nil) (l1 (a11 P))) (nd (c2_124 P) (l1 (c3_188 P)) (l1 (c5_252 P))))))) (nd (boot_o_6 P) (nd (boot_o_10 P) (nd (a11 P) (nd (c0_34 P) (u15 P) (nd (a12 P) (nd (a12 P) (l1 (a11 P)) .nil) (l1 (c4_226 P)))) (nd (a11 P) (nd (c1_82 P) (nd (c2_146 P) (l1 (c6_274 P)) .nil) (l1 (c4_210 P))) (nd (a11 P) (l1 (a11 P)) (l1 (c5_242 P))))) (nd (a12 P) (nd (a11 P) (u16 P) (u29 P)) (nd (c1_58 P) (nd (a11 P) (nd (a11 P) (l1 (c6_282 P)) .nil) (l1 (a12 P))) (nd (c2_122 P) (l1 (c3_186 P)) (l1 (a11 P)))))) (nd (a14 P) (nd (c0_22 P) (nd (a11 P) (u17 P) (u30 P)) (nd (a11 P) (nd (a11 P) (nd (c2_150 P) (l1 (c6_278 P)) .nil) (l1 (c4_214 P))) (nd (a11 P) (l1 (a11 P)) (l1 (a11 P))))) (nd (c0_30 P) (nd (c0_46 P) (nd (a11 P) (nd (a11 P) (l1 (c0_23 P)) .nil) (l1 (c3_206 P))) (nd (c2_110 P) (l1 (c3_174 P)) (l1 (c5_238 P)))) (nd (c1_62 P) (u31 P) (nd (a12 P) (l1 (a12 P)) (l1 (c5_254 P)))))))))
noncomputable def sc6_ (w : World) (os : OsState) : SharedT := SharedT.mk (tc6_ w.params) 302 (@Life.mk [] [] [] 0 [] [] Bool.false E [] 0 Bool.false Bool.false Bool.false 0 [2000, 10, 10] Bool.false 0 Bool.true [] [] 0 Bool.false) E (@Drawn.mk 0 0 0 0) 586 os
noncomputable def c7_3 (P : Params) : Obj := (Obj.mk y3 none (Data.dict (A [(de P q3 165 (vs q43 383)), (de P q5 166 vn), (de P q6 167 vn), (de P q7 168 y4), (de P q8 169 vn), (de P q9 170 (vr 6)), (de P q10 171 (vr 4)), (de P q11 173 (vs q1 172)), (de P q12 174 vn), (de P q13 193 (vr 21)), (de P q14 213 (vr 31)), (de P q15 229 (vr 44)), (de P q23 254 (vr 63)), (de P q24 258 (vi 400 257)), (de P q25 260 (vi 2000 259)), (de P q26 262 (vi 2000 261)), (de P q27 264 (vi 8 263)), (de P q28 266 (vi 100000 265)), (de P q29 268 (vi 32 267)), (de P q30 270 (vi 37 269)), (de P q31 272 (vi 126 271)), (de P q32 279 (vr 72)), (de P q33 285 (vr 77)), (de P q34 291 (vr 82)), (de P q35 299 (vr 89)), (de P q44 382 (vr 148)), (de P q45 386 (vi 40 385)), (de P q69 408 (vr 153)), (de P q70 473 (vr 205)), (de P q96 507 (vr 233)), (de P q101 546 (vr 266)), (de P q105 585 (vr 299)), (de P q109 644 (vr 346))]) 33) E)
noncomputable def c7_12 (P : Params) : Obj := (Obj.mk vn none (Data.fields (A [(vi 1 0), (vi 0 0), (vr 20), (vi 5 0), (vi 0 0), (vr 27), (vi 7 0), (vi 0 0), (vr 40), (vi 9 0), (vi 0 0), (vr 52), (vi 22 0), (vi 0 0), (vr 71), (vi 24 0), (vi 0 0), (vr 76), (vi 30 0), (vi 0 0), (vr 81), (vi 40 0), (vi 0 0), (vr 88), (vi 43 0), (vi 0 0), (vr 95), (vi 110 0), (vi 0 0), (vr 159), (vi 129 0), (vi 0 0), (vr 215), (vi 137 0), (vi 0 0), (vr 241), (vi 147 0), (vi 0 0), (vr 274), (vi 157 0), (vi 0 0), (vr 307)])) E)
noncomputable def c7_205 (P : Params) : Obj := (Obj.mk y9 none (Data.cls (ClassData.mk q70 [y12] [(vr 205), y12] 204 q70 Bool.true [] [(vr 233), (vr 346)] Bool.false none Bool.false)) (A [none, none, (some (vs q70 409)), (some (vs q70 417)), (some y18), (some vT)]))
noncomputable def c7_304 (P : Params) : Obj := (Obj.mk y3 none (Data.dict (A [(de P q17 593 (vs q43 383)), (de P q18 595 (vs q109 594)), (de P q19 597 (vi 157 596)), (de P q36 607 (vr 315)), (de P q82 614 (vr 322)), (de P q83 621 (vr 329)), (de P q84 630 (vr 336)), (de P q87 637 (vr 343)), (de P q20 641 (vr 344))]) 9) E)
noncomputable def c7_306 (P : Params) : Obj := (Obj.mk vn none (Data.fields (A [(vi 159 0), (vi 4 0), (vr 314), (vi 164 0), (vi 4 0), (vr 321), (vi 167 0), (vi 4 0), (vr 328), (vi 170 0), (vi 4 0), (vr 335), (vi 173 0), (vi 4 0), (vr 342)])) E)
noncomputable def c7_307 (P : Params) : Obj := m0 P q109 588 589 590 157 305 306 591 592
noncomputable def c7_308 (P : Params) : Obj := m1 P 307 304 q43 383
noncomputable def c7_311 (P : Params) : Obj := m14 P q37 601 q97 602 q110 603 q111 604
noncomputable def c7_313 (P : Params) : Obj := m4 P q36 q112 (M 26 0)
noncomputable def c7_314 (P : Params) : Obj := m5 P q36 598 q112 599 600 159 4 309 310 311 312 313 605 606
noncomputable def c7_315 (P : Params) : Obj := m6 P q36 q112 (M 26 0) q43 383 314
noncomputable def c7_318 (P : Params) : Obj := m3 P q37 611
noncomputable def c7_320 (P : Params) : Obj := m4 P q82 q113 (M 26 1)
noncomputable def c7_321 (P : Params) : Obj := m5 P q82 608 q113 609 610 164 1 316 317 318 319 320 612 613
noncomputable def c7_322 (P : Params) : Obj := m6 P q82 q113 (M 26 1) q43 383 321
noncomputable def c7_325 (P : Params) : Obj := m3 P q37 618
noncomputable def c7_327 (P : Params) : Obj := m4 P q83 q114 (M 26 2)
noncomputable def c7_328 (P : Params) : Obj := m5 P q83 615 q114 616 617 167 1 323 324 325 326 327 619 620
noncomputable def c7_329 (P : Params) : Obj := m6 P q83 q114 (M 26 2) q43 383 328
noncomputable def c7_332 (P : Params) : Obj := m13 P q37 625 q90 626 q91 627
noncomputable def c7_334 (P : Params) : Obj := m4 P q84 q115 (M 26 3)
noncomputable def c7_335 (P : Params) : Obj := m5 P q84 622 q115 623 624 170 3 330 331 332 333 334 628 629
noncomputable def c7_336 (P : Params) : Obj := m6 P q84 q115 (M 26 3) q43 383 335
noncomputable def c7_339 (P : Params) : Obj := m3 P q37 634
noncomputable def c7_341 (P : Params) : Obj := m4 P q87 q116 (M 26 4)
noncomputable def c7_342 (P : Params) : Obj := m5 P q87 631 q116 632 633 173 1 337 338 339 340 341 635 636
noncomputable def c7_343 (P : Params) : Obj := m6 P q87 q116 (M 26 4) q43 383 342
noncomputable def c7_344 (P : Params) : Obj := m13 P q111 638 q110 639 q97 640
noncomputable def c7_345 (P : Params) : Obj := (Obj.mk y3 none (Data.dict (A [(de P q17 593 (vs q43 383)), (de P q19 597 (vi 157 596)), (de P q36 607 (vr 315)), (de P q82 614 (vr 322)), (de P q83 621 (vr 329)), (de P q84 630 (vr 336)), (de P q87 637 (vr 343)), (de P q20 641 (vr 344)), (de P q5 642 vn)]) 2) E)
noncomputable def c7_346 (P : Params) : Obj := (Obj.mk y9 none (Data.cls (ClassData.mk q109 [(vr 205)] [(vr 346), (vr 205), y12] 345 q109 Bool.true [] [] Bool.false none Bool.false)) (A [(sr 302), none, (some (vs q109 586)), (some (vs q109 594)), (some y18), (some vT)]))
noncomputable def c7_347 (P : Params) : Obj := m8 P 346
noncomputable def c7_348 (P : Params) : Obj := m9 P 346
noncomputable def u32 (P : Params) : BT := (nd (a12 P) (nd (c2_143 P) (l1 (c6_271 P)) .nil) (nd (c3_207 P) (l1 (c7_335 P)) .nil))
noncomputable def u33 (P : Params) : BT := (nd (c1_71 P) (nd (a11 P) (l1 (c5_263 P)) .nil) (nd (a11 P) (l1 (c7_327 P)) .nil))
noncomputable def u34 (P : Params) : BT := (nd (c1_87 P) (nd (c2_151 P) (l1 (a11 P)) .nil) (nd (c4_215 P) (l1 (c7_343 P)) .nil))
noncomputable def u35 (P : Params) : BT := (nd (a11 P) (nd (c2_147 P) (l1 (c6_275 P)) .nil) (nd (c0_23 P) (l1 (c7_339 P)) .nil))
noncomputable def u36 (P : Params) : BT := (nd (c1_75 P) (nd (a11 P) (l1 (c5_267 P)) .nil) (nd (a11 P) (l1 (a12 P)) .nil))
noncomputable def u37 (P : Params) : BT := (nd (c0_23 P) (nd (c0_23 P) (l1 (a11 P)) .nil) (nd (c4_219 P) (l1 (c7_347 P)) .nil))
noncomputable def u38 (P : Params) : BT := (nd (c1_81 P) (nd (c2_145 P) (l1 (c6_273 P)) .nil) (nd (c3_209 P) (l1 (a11 P)) .nil))
noncomputable def u39 (P : Params) : BT := (nd (a11 P) (nd (c2_137 P) (l1 (c5_265 P)) .nil) (nd (c3_201 P) (l1 (c7_329 P)) .nil))
noncomputable def u40 (P : Params) : BT := (nd (c1_89 P) (nd (c3_153 P) (l1 (c6_281 P)) .nil) (nd (a11 P) (l1 (c7_345 P)) .nil))
noncomputable def u41 (P : Params) : BT := (nd (a11 P) (nd (a12 P) (l1 (c5_261 P)) .nil) (nd (a12 P) (l1 (c7_325 P)) .nil))
noncomputable def u42 (P : Params) : BT := (nd (c1_85 P) (nd (c2_149 P) (l1 (a12 P)) .nil) (nd (a11 P) (l1 (c7_341 P)) .nil))
noncomputable def u43 (P : Params) : BT := (nd (c1_77 P) (nd (c2_141 P) (l1 (c5_236 P)) .nil) (nd (c7_205 P) (l1 (a11 P)) .nil))
noncomputable def u44 (P : Params) : BT := (nd (c1_80 P) (nd (c2_144 P) (l1 (a11 P)) .nil) (nd (c3_208 P) (l1 (c7_336 P)) .nil))
noncomputable def u45 (P : Params) : BT := (nd (c1_72 P) (nd (c2_136 P) (l1 (a11 P)) .nil) (nd (c3_200 P) (l1 (c7_328 P)) .nil))
noncomputable def u46 (P : Params) : BT := (nd (c1_88 P) (nd (c2_152 P) (l1 (c6_280 P)) .nil) (nd (c4_216 P) (l1 (c7_344 P)) .nil))
noncomputable def u47 (P : Params) : BT := (nd (a12 P) (nd (c2_148 P) (l1 (a11 P)) .nil) (nd (c4_212 P) (l1 (a11 P)) .nil))
noncomputable def u48 (P : Params) : BT := (nd (c1_76 P) (nd (a12 P) (l1 (c5_268 P)) .nil) (nd (c3_204 P) (l1 (c7_332 P)) .nil))
noncomputable def u49 (P : Params) : BT := (nd (c2_92 P) (nd (c3_156 P) (l1 (a12 P)) .nil) (nd (a11 P) (l1 (c7_348 P)) .nil))
noncomputable def u50 (P : Params) : BT := (nd (c1_82 P) (nd (c2_146 P) (l1 (c6_274 P)) .nil) (nd (c4_210 P) (l1 (a12 P)) .nil))
noncomputable def u51 (P : Params) : BT := (nd (a12 P) (nd (c2_138 P) (l1 (c5_266 P)) .nil) (nd (c3_202 P) (l1 (a11 P)) .nil))
noncomputable def u52 (P : Params) : BT := (nd (a11 P) (nd (a11 P) (l1 (c6_282 P)) .nil) (nd (a12 P) (l1 (c7_346 P)) .nil))
noncomputable def u53 (P : Params) : BT := (nd (c1_70 P) (nd (c2_134 P) (l1 (c5_262 P)) .nil) (nd (c3_198 P) (l1 (a11 P)) .nil))
noncomputable def u54 (P : Params) : BT := (nd (a11 P) (nd (c2_150 P) (l1 (c6_278 P)) .nil) (nd (c4_214 P) (l1 (c7_342 P)) .nil))
noncomputable def u55 (P : Params) : BT := (nd (a11 P) (nd (a11 P) (l1 (c0_23 P)) .nil) (nd (c3_206 P) (l1 (c7_334 P)) .nil))
noncomputable def tc7_ (P : Params) : BT := (nd (boot_o_0 P) (nd (boot_o_1 P) (nd (c7_3 P) (nd (boot_o_7 P) (nd (a11 P) (nd (c1_31 P) (nd (c1_63 P) (nd (c2_127 P) (l1 (c5_255 P)) .nil) (nd (c3_191 P) (l1 (a11 P)) .nil)) (u18 P)) (nd (c0_35 P) (u32 P) (nd (a11 P) (nd (a11 P) (l1 (c0_23 P)) .nil) (l1 (a11 P))))) (nd (c0_23 P) (nd (a12 P) (u33 P) (u19 P)) (nd (a12 P) (u34 P) (nd (a12 P) (nd (a12 P) (l1 (c7_311 P)) .nil) (l1 (c5_247 P)))))) (nd (a11 P) (nd (c0_19 P) (nd (c0_35 P) (nd (a12 P) (nd (c2_131 P) (l1 (c5_259 P)) .nil) (nd (c3_195 P) (l1 (a11 P)) .nil)) (u20 P)) (nd (c1_51 P) (u35 P) (nd (c2_115 P) (nd (c3_179 P) (l1 (c7_307 P)) .nil) (l1 (a11 P))))) (nd (c0_27 P) (nd (c0_43 P) (u36 P) (u21 P)) (nd (c1_59 P) (u37 P) (nd (c2_123 P) (nd (c3_187 P) (l1 (c7_315 P)) .nil) (l1 (a12 P))))))) (nd (boot_o_5 P) (nd (boot_o_9 P) (nd (c0_17 P) (nd (c0_33 P) (nd (c1_65 P) (nd (c2_129 P) (l1 (a11 P)) .nil) (nd (c3_193 P) (l1 (c7_321 P)) .nil)) (nd (a11 P) (nd (a11 P) (l1 (c6_289 P)) .nil) (l1 (a12 P)))) (nd (c1_49 P) (u38 P) (nd (c2_113 P) (nd (c3_177 P) (l1 (a11 P)) .nil) (l1 (c5_241 P))))) (nd (a11 P) (nd (c0_41 P) (u39 P) (nd (a12 P) (nd (a12 P) (l1 (a11 P)) .nil) (l1 (c6_233 P)))) (nd (a11 P) (u40 P) (nd (a11 P) (nd (a11 P) (l1 (c7_313 P)) .nil) (l1 (c5_249 P)))))) (nd (a13 P) (nd (c0_21 P) (nd (c0_37 P) (u41 P) (u22 P)) (nd (c1_53 P) (u42 P) (nd (c2_117 P) (nd (c3_181 P) (l1 (a11 P)) .nil) (l1 (c5_245 P))))) (nd (a11 P) (nd (c0_45 P) (u43 P) (u23 P)) (nd (c1_61 P) (u24 P) (nd (a11 P) (nd (a11 P) (l1 (a12 P)) .nil) (l1 (a11 P)))))))) (nd (boot_o_2 P) (nd (boot_o_4 P) (nd (boot_o_8 P) (nd (a12 P) (nd (c0_32 P) (nd (c1_64 P) (nd (a11 P) (l1 (c5_256 P)) .nil) (nd (a11 P) (l1 (c7_320 P)) .nil)) (u25 P)) (nd (c0_23 P) (u44 P) (nd (a12 P) (nd (a12 P) (l1 (c7_304 P)) .nil) (l1 (c5_240 P))))) (nd (c0_24 P) (nd (c0_40 P) (u45 P) (u26 P)) (nd (c1_56 P) (u46 P) (nd (c2_120 P) (nd (c3_184 P) (l1 (a11 P)) .nil) (l1 (c5_248 P)))))) (nd (c7_12 P) (nd (c0_20 P) (nd (c0_23 P) (nd (c1_68 P) (nd (a11 P) (l1 (a11 P)) .nil) (nd (a11 P) (l1 (a12 P)) .nil)) (u27 P)) (nd (c1_52 P) (u47 P) (nd (c2_116 P) (nd (c3_180 P) (l1 (c7_308 P)) .nil) (l1 (a12 P))))) (nd (c0_28 P) (nd (c0_44 P) (u48 P) (u28 P)) (nd (c1_60 P) (u49 P) (nd (c2_124 P) (nd (c3_188 P) (l1 (a11 P)) .nil) (l1 (c5_252 P))))))) (nd (boot_o_6 P) (nd (boot_o_10 P) (nd (a11 P) (nd (c0_34 P) (nd (a11 P) (nd (c2_130 P) (l1 (a12 P)) .nil) (nd (c3_194 P) (l1 (c7_322 P)) .nil)) (nd (a12 P) (nd (a12 P) (l1 (a11 P)) .nil) (l1 (c4_226 P)))) (nd (a11 P) (u50 P) (nd (a11 P) (nd (a11 P) (l1 (c7_306 P)) .nil) (l1 (c5_242 P))))) (nd (a12 P) (nd (a11 P) (u51 P) (u29 P)) (nd (c1_58 P) (u52 P) (nd (c2_122 P) (nd (c3_186 P) (l1 (c7_314 P)) .nil) (l1 (a11 P)))))) (nd (a14 P) (nd (c0_22 P) (nd (a11 P) (u53 P) (u30 P)) (nd (a11 P) (u54 P) (nd (a11 P) (nd (a11 P) (l1 (a12 P)) .nil) (l1 (a11 P))))) (nd (c0_30 P) (nd (c0_46 P) (u55 P) (nd (c2_110 P) (nd (c3_174 P) (l1 (c4_210 P)) .nil) (l1 (c5_238 P)))) (nd (c1_62 P) (u31 P) (nd (a12 P) (nd (a12 P) (l1 (c7_318 P)) .nil) (l1 (c5_254 P)))))))))
noncomputable def sc7_ (w : World) (os : OsState) : SharedT := SharedT.mk (tc7_ w.params) 349 (@Life.mk [] [] [] 0 [] [] Bool.false E [] 0 Bool.false Bool.false Bool.false 0 [2000, 10, 10] Bool.false 0 Bool.true [] [] 0 Bool.false) E (@Drawn.mk 0 0 0 0) 645 os
noncomputable def c8_3 (P : Params) : Obj := (Obj.mk y3 none (Data.dict (A [(de P q3 165 (vs q43 383)), (de P q5 166 vn), (de P q6 167 vn), (de P q7 168 y4), (de P q8 169 vn), (de P q9 170 (vr 6)), (de P q10 171 (vr 4)), (de P q11 173 (vs q1 172)), (de P q12 174 vn), (de P q13 193 (vr 21)), (de P q14 213 (vr 31)), (de P q15 229 (vr 44)), (de P q23 254 (vr 63)), (de P q24 258 (vi 400 257)), (de P q25 260 (vi 2000 259)), (de P q26 262 (vi 2000 261)), (de P q27 264 (vi 8 263)), (de P q28 266 (vi 100000 265)), (de P q29 268 (vi 32 267)), (de P q30 270 (vi 37 269)), (de P q31 272 (vi 126 271)), (de P q32 279 (vr 72)), (de P q33 285 (vr 77)), (de P q34 291 (vr 82)), (de P q35 299 (vr 89)), (de P q44 382 (vr 148)), (de P q45 386 (vi 40 385)), (de P q69 408 (vr 153)), (de P q70 473 (vr 205)), (de P q96 507 (vr 233)), (de P q101 546 (vr 266)), (de P q105 585 (vr 299)), (de P q109 644 (vr 346)), (de P q117 690 (vr 386))]) 34) E)
noncomputable def c8_12 (P : Params) : Obj := (Obj.mk vn none (Data.fields (A [(vi 1 0), (vi 0 0), (vr 20), (vi 5 0), (vi 0 0), (vr 27), (vi 7 0), (vi 0 0), (vr 40), (vi 9 0), (vi 0 0), (vr 52), (vi 22 0), (vi 0 0), (vr 71), (vi 24 0), (vi 0 0), (vr 76), (vi 30 0), (vi 0 0), (vr 81), (vi 40 0), (vi 0 0), (vr 88), (vi 43 0), (vi 0 0), (vr 95), (vi 110 0), (vi 0 0), (vr 159), (vi 129 0), (vi 0 0), (vr 215), (vi 137 0), (vi 0 0), (vr 241), (vi 147 0), (vi 0 0), (vr 274), (vi 157 0), (vi 0 0), (vr 307), (vi 175 0), (vi 0 0), (vr 354)])) E)
noncomputable def c8_233 (P : Params) : Obj := (Obj.mk y9 none (Data.cls (ClassData.mk q96 [(vr 205)] [(vr 233), (vr 205), y12] 232 q96 Bool.true [] [(vr 266), (vr 299), (vr 386)] Bool.false none Bool.false)) (A [(sr 210), none, (some (vs q96 474)), (some (vs q96 482)), (some y18), (some vT)]))
noncomputable def c8_351 (P : Params) : Obj := (Obj.mk y3 none (Data.dict (A [(de P q17 652 (vs q43 383)), (de P q18 654 (vs q117 653)), (de P q19 656 (vi 175 655)), (de P q83 663 (vr 362)), (de P q84 672 (vr 369)), (de P q86 679 (vr 376)), (de P q87 686 (vr 383)), (de P q20 687 (vr 384))]) 8) E)
noncomputable def c8_353 (P : Params) : Obj := (Obj.mk vn none (Data.fields (A [(vi 177 0), (vi 4 0), (vr 361), (vi 180 0), (vi 4 0), (vr 368), (vi 183 0), (vi 4 0), (vr 375), (vi 186 0), (vi 4 0), (vr 382)])) E)
noncomputable def c8_354 (P : Params) : Obj := m0 P q117 647 648 649 175 352 353 650 651
noncomputable def c8_355 (P : Params) : Obj := m1 P 354 351 q43 383
noncomputable def c8_358 (P : Params) : Obj := m3 P q37 660
noncomputable def c8_360 (P : Params) : Obj := m4 P q83 q118 (M 27 0)
noncomputable def c8_361 (P : Params) : Obj := m5 P q83 657 q118 658 659 177 1 356 357 358 359 360 661 662
noncomputable def c8_362 (P : Params) : Obj := m6 P q83 q118 (M 27 0) q43 383 361
noncomputable def c8_365 (P : Params) : Obj := m13 P q37 667 q90 668 q91 669
noncomputable def c8_367 (P : Params) : Obj := m4 P q84 q119 (M 27 1)
noncomputable def c8_368 (P : Params) : Obj := m5 P q84 664 q119 665 666 180 3 363 364 365 366 367 670 671
noncomputable def c8_369 (P : Params) : Obj := m6 P q84 q119 (M 27 1) q43 383 368
noncomputable def c8_372 (P : Params) : Obj := m3 P q37 676
noncomputable def c8_374 (P : Params) : Obj := m4 P q86 q120 (M 27 2)
noncomputable def c8_375 (P : Params) : Obj := m5 P q86 673 q120 674 675 183 1 370 371 372 373 374 677 678
noncomputable def c8_376 (P : Params) : Obj := m6 P q86 q120 (M 27 2) q43 383 375
noncomputable def c8_379 (P : Params) : Obj := m3 P q37 683
noncomputable def c8_381 (P : Params) : Obj := m4 P q87 q121 (M 27 3)
noncomputable def c8_382 (P : Params) : Obj := m5 P q87 680 q121 681 682 186 1 377 378 379 380 381 684 685
noncomputable def c8_383 (P : Params) : Obj := m6 P q87 q121 (M 27 3) q43 383 382
noncomputable def c8_385 (P : Params) : Obj := (Obj.mk y3 none (Data.dict (A [(de P q17 652 (vs q43 383)), (de P q19 656 (vi 175 655)), (de P q83 663 (vr 362)), (de P q84 672 (vr 369)), (de P q86 679 (vr 376)), (de P q87 686 (vr 383)), (de P q20 687 (vr 384)), (de P q5 688 vn)]) 2) E)
noncomputable def c8_386 (P : Params) : Obj := (Obj.mk y9 none (Data.cls (ClassData.mk q117 [(vr 233)] [(vr 386), (vr 233), (vr 205), y12] 385 q117 Bool.true [] [] Bool.false none Bool.false)) (A [(sr 349), none, (some (vs q117 645)), (some (vs q117 653)), (some y18), (some vT)]))
noncomputable def c8_387 (P : Params) : Obj := m8 P 386
noncomputable def c8_388 (P : Params) : Obj := m9 P 386
noncomputable def u56 (P : Params) : BT := (nd (c1_63 P) (nd (c2_127 P) (l1 (c5_255 P)) (l1 (c8_383 P))) (nd (c3_191 P) (l1 (a11 P)) .nil))
noncomputable def u57 (P : Params) : BT := (nd (a12 P) (nd (a12 P) (l1 (c7_311 P)) .nil) (nd (c5_247 P) (l1 (c8_375 P)) .nil))
noncomputable def u58 (P : Params) : BT := (nd (a12 P) (nd (c2_131 P) (l1 (c5_259 P)) (l1 (c8_387 P))) (nd (c3_195 P) (l1 (a11 P)) .nil))
noncomputable def u59 (P : Params) : BT := (nd (c2_123 P) (nd (c3_187 P) (l1 (c7_315 P)) .nil) (nd (a12 P) (l1 (c8_379 P)) .nil))
noncomputable def u60 (P : Params) : BT := (nd (c1_65 P) (nd (c2_129 P) (l1 (a11 P)) (l1 (c8_385 P))) (nd (c3_193 P) (l1 (c7_321 P)) .nil))
noncomputable def u61 (P : Params) : BT := (nd (a11 P) (nd (a11 P) (l1 (c7_313 P)) .nil) (nd (c5_249 P) (l1 (a11 P)) .nil))
noncomputable def u62 (P : Params) : BT := (nd (c2_117 P) (nd (c3_181 P) (l1 (a11 P)) .nil) (nd (c5_245 P) (l1 (a11 P)) .nil))
noncomputable def u63 (P : Params) : BT := (nd (a11 P) (nd (a11 P) (l1 (a12 P)) .nil) (nd (a11 P) (l1 (c8_381 P)) .nil))
noncomputable def u64 (P : Params) : BT := (nd (c1_64 P) (nd (a11 P) (l1 (c5_256 P)) (l1 (a11 P))) (nd (a11 P) (l1 (c7_320 P)) .nil))
noncomputable def u65 (P : Params) : BT := (nd (c2_120 P) (nd (c3_184 P) (l1 (a11 P)) .nil) (nd (c5_248 P) (l1 (c8_376 P)) .nil))
noncomputable def u66 (P : Params) : BT := (nd (c1_68 P) (nd (a11 P) (l1 (a11 P)) (l1 (c8_388 P))) (nd (a11 P) (l1 (a12 P)) .nil))
noncomputable def u67 (P : Params) : BT := (nd (c2_116 P) (nd (c3_180 P) (l1 (c7_308 P)) .nil) (nd (a12 P) (l1 (c8_372 P)) .nil))
noncomputable def u68 (P : Params) : BT := (nd (c2_124 P) (nd (c3_188 P) (l1 (a11 P)) .nil) (nd (c5_252 P) (l1 (a11 P)) .nil))
noncomputable def u69 (P : Params) : BT := (nd (a11 P) (nd (c2_130 P) (l1 (a12 P)) (l1 (c8_386 P))) (nd (c3_194 P) (l1 (c7_322 P)) .nil))
noncomputable def u70 (P : Params) : BT := (nd (c2_122 P) (nd (c3_186 P) (l1 (c7_314 P)) .nil) (nd (a11 P) (l1 (a12 P)) .nil))
noncomputable def u71 (P : Params) : BT := (nd (a11 P) (nd (a11 P) (l1 (a12 P)) .nil) (nd (a11 P) (l1 (c8_374 P)) .nil))
noncomputable def u72 (P : Params) : BT := (nd (a12 P) (nd (a12 P) (l1 (c7_318 P)) .nil) (nd (c5_254 P) (l1 (c8_382 P)) .nil))
noncomputable def tc8_ (P : Params) : BT := (nd (boot_o_0 P) (nd (boot_o_1 P) (nd (c8_3 P) (nd (boot_o_7 P) (nd (a11 P) (nd (c1_31 P) (u56 P) (nd (c2_95 P) (nd (c3_159 P) (l1 (c6_287 P)) .nil) (nd (c4_223 P) (l1 (c8_351 P)) .nil))) (nd (c0_35 P) (u32 P) (nd (a11 P) (nd (a11 P) (l1 (c0_23 P)) .nil) (nd (a11 P) (l1 (c8_367 P)) .nil)))) (nd (c0_23 P) (nd (a12 P) (u33 P) (nd (c2_103 P) (nd (c3_167 P) (l1 (c6_295 P)) .nil) (nd (c4_231 P) (l1 (a11 P)) .nil))) (nd (a12 P) (u34 P) (u57 P)))) (nd (a11 P) (nd (c0_19 P) (nd (c0_35 P) (u58 P) (nd (c2_99 P) (nd (c3_163 P) (l1 (a12 P)) .nil) (nd (a11 P) (l1 (c8_355 P)) .nil))) (nd (c1_51 P) (u35 P) (nd (c2_115 P) (nd (c3_179 P) (l1 (c7_307 P)) .nil) (nd (a11 P) (l1 (a12 P)) .nil)))) (nd (c0_27 P) (nd (c0_43 P) (u36 P) (nd (a11 P) (nd (a11 P) (l1 (c6_299 P)) .nil) (nd (c4_235 P) (l1 (a11 P)) .nil))) (nd (c1_59 P) (u37 P) (u59 P))))) (nd (boot_o_5 P) (nd (boot_o_9 P) (nd (c0_17 P) (nd (c0_33 P) (u60 P) (nd (a11 P) (nd (a11 P) (l1 (c6_289 P)) .nil) (nd (a12 P) (l1 (c8_353 P)) .nil))) (nd (c1_49 P) (u38 P) (nd (c2_113 P) (nd (c3_177 P) (l1 (a11 P)) .nil) (nd (c5_241 P) (l1 (c8_369 P)) .nil)))) (nd (a11 P) (nd (c0_41 P) (u39 P) (nd (a12 P) (nd (a12 P) (l1 (a11 P)) .nil) (nd (c8_233 P) (l1 (c8_361 P)) .nil))) (nd (a11 P) (u40 P) (u61 P)))) (nd (a13 P) (nd (c0_21 P) (nd (c0_37 P) (u41 P) (nd (c2_101 P) (nd (c3_165 P) (l1 (a11 P)) .nil) (nd (c4_229 P) (l1 (a12 P)) .nil))) (nd (c1_53 P) (u42 P) (u62 P))) (nd (a11 P) (nd (c0_45 P) (u43 P) (nd (c2_109 P) (nd (c3_173 P) (l1 (c6_301 P)) .nil) (nd (c0_23 P) (l1 (c8_365 P)) .nil))) (nd (c1_61 P) (nd (a11 P) (nd (a11 P) (l1 (c6_285 P)) .nil) (nd (c4_221 P) (l1 (c5_236 P)) .nil)) (u63 P)))))) (nd (boot_o_2 P) (nd (boot_o_4 P) (nd (boot_o_8 P) (nd (a12 P) (nd (c0_32 P) (u64 P) (nd (c2_96 P) (nd (c3_160 P) (l1 (c6_288 P)) .nil) (nd (a11 P) (l1 (a11 P)) .nil))) (nd (c0_23 P) (u44 P) (nd (a12 P) (nd (a12 P) (l1 (c7_304 P)) .nil) (nd (c5_240 P) (l1 (c8_368 P)) .nil)))) (nd (c0_24 P) (nd (c0_40 P) (u45 P) (nd (a11 P) (nd (a11 P) (l1 (c6_296 P)) .nil) (nd (c4_232 P) (l1 (c8_360 P)) .nil))) (nd (c1_56 P) (u46 P) (u65 P)))) (nd (c8_12 P) (nd (c0_20 P) (nd (c0_23 P) (u66 P) (nd (a11 P) (nd (a11 P) (l1 (c6_292 P)) .nil) (nd (c4_228 P) (l1 (a11 P)) .nil))) (nd (c1_52 P) (u47 P) (u67 P))) (nd (c0_28 P) (nd (c0_44 P) (u48 P) (nd (c2_108 P) (nd (c3_172 P) (l1 (c6_300 P)) .nil) (nd (c5_236 P) (l1 (a12 P)) .nil))) (nd (c1_60 P) (u49 P) (u68 P))))) (nd (boot_o_6 P) (nd (boot_o_10 P) (nd (a11 P) (nd (c0_34 P) (u69 P) (nd (a12 P) (nd (a12 P) (l1 (a11 P)) .nil) (nd (c4_226 P) (l1 (c8_354 P)) .nil))) (nd (a11 P) (u50 P) (nd (a11 P) (nd (a11 P) (l1 (c7_306 P)) .nil) (nd (c5_242 P) (l1 (a11 P)) .nil)))) (nd (a12 P) (nd (a11 P) (u51 P) (nd (c2_106 P) (nd (c3_170 P) (l1 (c6_298 P)) .nil) (nd (c4_234 P) (l1 (c8_362 P)) .nil))) (nd (c1_58 P) (u52 P) (u70 P)))) (nd (a14 P) (nd (c0_22 P) (nd (a11 P) (u53 P) (nd (c2_102 P) (nd (c3_166 P) (l1 (c6_294 P)) .nil) (nd (c4_230 P) (l1 (c8_358 P)) .nil))) (nd (a11 P) (u54 P) (u71 P))) (nd (c0_30 P) (nd (c0_46 P) (u55 P) (nd (c2_110 P) (nd (c3_174 P) (l1 (c4_210 P)) .nil) (nd (c5_238 P) (l1 (a11 P)) .nil))) (nd (c1_62 P) (nd (c2_94 P) (nd (c3_158 P) (l1 (a11 P)) .nil) (nd (c4_222 P) (l1 (c0_23 P)) .nil)) (u72 P)))))))
noncomputable def sc8_ (w : World) (os : OsState) : SharedT := SharedT.mk (tc8_ w.params) 389 (@Life.mk [] [] [] 0 [] [] Bool.false E [] 0 Bool.false Bool.false Bool.false 0 [2000, 10, 10] Bool.false 0 Bool.true [] [] 0 Bool.false) E (@Drawn.mk 0 0 0 0) 691 os
noncomputable def c9_3 (P : Params) : Obj := (Obj.mk y3 none (Data.dict (A [(de P q3 165 (vs q43 383)), (de P q5 166 vn), (de P q6 167 vn), (de P q7 168 y4), (de P q8 169 vn), (de P q9 170 (vr 6)), (de P q10 171 (vr 4)), (de P q11 173 (vs q1 172)), (de P q12 174 vn), (de P q13 193 (vr 21)), (de P q14 213 (vr 31)), (de P q15 229 (vr 44)), (de P q23 254 (vr 63)), (de P q24 258 (vi 400 257)), (de P q25 260 (vi 2000 259)), (de P q26 262 (vi 2000 261)), (de P q27 264 (vi 8 263)), (de P q28 266 (vi 100000 265)), (de P q29 268 (vi 32 267)), (de P q30 270 (vi 37 269)), (de P q31 272 (vi 126 271)), (de P q32 279 (vr 72)), (de P q33 285 (vr 77)), (de P q34 291 (vr 82)), (de P q35 299 (vr 89)), (de P q44 382 (vr 148)), (de P q45 386 (vi 40 385)), (de P q69 408 (vr 153)), (de P q70 473 (vr 205)), (de P q96 507 (vr 233)), (de P q101 546 (vr 266)), (de P q105 585 (vr 299)), (de P q109 644 (vr 346)), (de P q117 690 (vr 386)), (de P q122 748 (vr 433))]) 35) E)
noncomputable def c9_12 (P : Params) : Obj := (Obj.mk vn none (Data.fields (A [(vi 1 0), (vi 0 0), (vr 20), (vi 5 0), (vi 0 0), (vr 27), (vi 7 0), (vi 0 0), (vr 40), (vi 9 0), (vi 0 0), (vr 52), (vi 22 0), (vi 0 0), (vr 71), (vi 24 0), (vi 0 0), (vr 76), (vi 30 0), (vi 0 0), (vr 81), (vi 40 0), (vi 0 0), (vr 88), (vi 43 0), (vi 0 0), (vr 95), (vi 110 0), (vi 0 0), (vr 159), (vi 129 0), (vi 0 0), (vr 215), (vi 137 0), (vi 0 0), (vr 241), (vi 147 0), (vi 0 0), (vr 274), (vi 157 0), (vi 0 0), (vr 307), (vi 175 0), (vi 0 0), (vr 354), (vi 188 0), (vi 0 0), (vr 394)])) E)
noncomputable def c9_233 (P : Params) : Obj := (Obj.mk y9 none (Data.cls (ClassData.mk q96 [(vr 205)] [(vr 233), (vr 205), y12] 232 q96 Bool.true [] [(vr 266), (vr 299), (vr 386), (vr 433)] Bool.false none Bool.false)) (A [(sr 210), none, (some (vs q96 474)), (some (vs q96 482)), (some y18), (some vT)]))
noncomputable def c9_391 (P : Params) : Obj := (Obj.mk y3 none (Data.dict (A [(de P q17 698 (vs q43 383)), (de P q18 700 (vs q122 699)), (de P q19 702 (vi 188 701)), (de P q36 712 (vr 402)), (de P q83 719 (vr 409)), (de P q84 728 (vr 416)), (de P q85 736 (vr 423)), (de P q87 743 (vr 430)), (de P q20 745 (vr 431))]) 9) E)
noncomputable def c9_393 (P : Params) : Obj := (Obj.mk vn none (Data.fields (A [(vi 190 0), (vi 4 0), (vr 401), (vi 194 0), (vi 4 0), (vr 408), (vi 197 0), (vi 4 0), (vr 415), (vi 200 0), (vi 4 0), (vr 422), (vi 203 0), (vi 4 0), (vr 429)])) E)
noncomputable def c9_394 (P : Params) : Obj := m0 P q122 693 694 695 188 392 393 696 697
noncomputable def c9_395 (P : Params) : Obj := m1 P 394 391 q43 383
noncomputable def c9_398 (P : Params) : Obj := m14 P q37 706 q97 707 q98 708 q123 709
noncomputable def c9_400 (P : Params) : Obj := m4 P q36 q124 (M 28 0)
noncomputable def c9_401 (P : Params) : Obj := m5 P q36 703 q124 704 705 190 4 396 397 398 399 400 710 711
noncomputable def c9_402 (P : Params) : Obj := m6 P q36 q124 (M 28 0) q43 383 401
noncomputable def c9_405 (P : Params) : Obj := m3 P q37 716
noncomputable def c9_407 (P : Params) : Obj := m4 P q83 q125 (M 28 1)
noncomputable def c9_408 (P : Params) : Obj := m5 P q83 713 q125 714 715 194 1 403 404 405 406 407 717 718
noncomputable def c9_409 (P : Params) : Obj := m6 P q83 q125 (M 28 1) q43 383 408
noncomputable def c9_412 (P : Params) : Obj := m13 P q37 723 q90 724 q91 725
noncomputable def c9_414 (P : Params) : Obj := m4 P q84 q126 (M 28 2)
noncomputable def c9_415 (P : Params) : Obj := m5 P q84 720 q126 721 722 197 3 410 411 412 413 414 726 727
noncomputable def c9_416 (P : Params) : Obj := m6 P q84 q126 (M 28 2) q43 383 415
noncomputable def c9_419 (P : Params) : Obj := m11 P q37 732 q91 733
noncomputable def c9_421 (P : Params) : Obj := m4 P q85 q127 (M 28 3)
noncomputable def c9_422 (P : Params) : Obj := m5 P q85 729 q127 730 731 200 2 417 418 419 420 421 734 735
noncomputable def c9_423 (P : Params) : Obj := m6 P q85 q127 (M 28 3) q43 383 422
noncomputable def c9_426 (P : Params) : Obj := m3 P q37 740
noncomputable def c9_428 (P : Params) : Obj := m4 P q87 q128 (M 28 4)
noncomputable def c9_429 (P : Params) : Obj := m5 P q87 737 q128 738 739 203 1 424 425 426 427 428 741 742
noncomputable def c9_430 (P : Params) : Obj := m6 P q87 q128 (M 28 4) q43 383 429
noncomputable def c9_431 (P : Params) : Obj := m3 P q123 744
noncomputable def c9_432 (P : Params) : Obj := (Obj.mk y3 none (Data.dict (A [(de P q17 698 (vs q43 383)), (de P q19 702 (vi 188 701)), (de P q36 712 (vr 402)), (de P q83 719 (vr 409)), (de P q84 728 (vr 416)), (de P q85 736 (vr 423)), (de P q87 743 (vr 430)), (de P q20 745 (vr 431)), (de P q5 746 vn)]) 2) E)
noncomputable def c9_433 (P : Params) : Obj := (Obj.mk y9 none (Data.cls (ClassData.mk q122 [(vr 233)] [(vr 433), (vr 233), (vr 205), y12] 432 q122 Bool.true [] [] Bool.false none Bool.false)) (A [(sr 389), none, (some (vs q122 691)), (some (vs q122 699)), (some y18), (some vT)]))
noncomputable def c9_434 (P : Params) : Obj := m8 P 433
noncomputable def c9_435 (P : Params) : Obj := m9 P 433
noncomputable def u73 (P : Params) : BT := (nd (c2_95 P) (nd (c3_159 P) (l1 (c6_287 P)) (l1 (c9_415 P))) (nd (c4_223 P) (l1 (c8_351 P)) .nil))
noncomputable def u74 (P : Params) : BT := (nd (a11 P) (nd (a11 P) (l1 (c0_23 P)) (l1 (c9_431 P))) (nd (a11 P) (l1 (c8_367 P)) .nil))
noncomputable def u75 (P : Params) : BT := (nd (c2_103 P) (nd (c3_167 P) (l1 (c6_295 P)) (l1 (c9_423 P))) (nd (c4_231 P) (l1 (a11 P)) .nil))
noncomputable def u76 (P : Params) : BT := (nd (c1_87 P) (nd (c2_151 P) (l1 (a11 P)) (l1 (c9_407 P))) (nd (c4_215 P) (l1 (c7_343 P)) .nil))
noncomputable def u77 (P : Params) : BT := (nd (c2_99 P) (nd (c3_163 P) (l1 (a12 P)) (l1 (c9_419 P))) (nd (a11 P) (l1 (c8_355 P)) .nil))
noncomputable def u78 (P : Params) : BT := (nd (c2_115 P) (nd (c3_179 P) (l1 (c7_307 P)) (l1 (c9_435 P))) (nd (a11 P) (l1 (a12 P)) .nil))
noncomputable def u79 (P : Params) : BT := (nd (a11 P) (nd (a11 P) (l1 (c6_299 P)) (l1 (a11 P))) (nd (c4_235 P) (l1 (a11 P)) .nil))
noncomputable def u80 (P : Params) : BT := (nd (c0_23 P) (nd (c0_23 P) (l1 (a11 P)) (l1 (a12 P))) (nd (c4_219 P) (l1 (c7_347 P)) .nil))
noncomputable def u81 (P : Params) : BT := (nd (a11 P) (nd (a11 P) (l1 (c6_289 P)) (l1 (a11 P))) (nd (a12 P) (l1 (c8_353 P)) .nil))
noncomputable def u82 (P : Params) : BT := (nd (c2_113 P) (nd (c3_177 P) (l1 (a11 P)) (l1 (c9_433 P))) (nd (c5_241 P) (l1 (c8_369 P)) .nil))
noncomputable def u83 (P : Params) : BT := (nd (a12 P) (nd (a12 P) (l1 (a11 P)) (l1 (a12 P))) (nd (c9_233 P) (l1 (c8_361 P)) .nil))
noncomputable def u84 (P : Params) : BT := (nd (c1_89 P) (nd (c3_153 P) (l1 (c6_281 P)) (l1 (c9_409 P))) (nd (a11 P) (l1 (c7_345 P)) .nil))
noncomputable def u85 (P : Params) : BT := (nd (c2_101 P) (nd (c3_165 P) (l1 (a11 P)) (l1 (c9_421 P))) (nd (c4_229 P) (l1 (a12 P)) .nil))
noncomputable def u86 (P : Params) : BT := (nd (c1_85 P) (nd (c2_149 P) (l1 (a12 P)) (l1 (c9_405 P))) (nd (a11 P) (l1 (c7_341 P)) .nil))
noncomputable def u87 (P : Params) : BT := (nd (c2_109 P) (nd (c3_173 P) (l1 (c6_301 P)) (l1 (c9_429 P))) (nd (c0_23 P) (l1 (c8_365 P)) .nil))
noncomputable def u88 (P : Params) : BT := (nd (a11 P) (nd (a11 P) (l1 (c6_285 P)) (l1 (a11 P))) (nd (c4_221 P) (l1 (c5_236 P)) .nil))
noncomputable def u89 (P : Params) : BT := (nd (c2_96 P) (nd (c3_160 P) (l1 (c6_288 P)) (l1 (c9_416 P))) (nd (a11 P) (l1 (a11 P)) .nil))
noncomputable def u90 (P : Params) : BT := (nd (a12 P) (nd (a12 P) (l1 (c7_304 P)) (l1 (c9_432 P))) (nd (c5_240 P) (l1 (c8_368 P)) .nil))
noncomputable def u91 (P : Params) : BT := (nd (a11 P) (nd (a11 P) (l1 (c6_296 P)) (l1 (a11 P))) (nd (c4_232 P) (l1 (c8_360 P)) .nil))
noncomputable def u92 (P : Params) : BT := (nd (c1_88 P) (nd (c2_152 P) (l1 (c6_280 P)) (l1 (c9_408 P))) (nd (c4_216 P) (l1 (c7_344 P)) .nil))
noncomputable def u93 (P : Params) : BT := (nd (a11 P) (nd (a11 P) (l1 (c6_292 P)) (l1 (a11 P))) (nd (c4_228 P) (l1 (a11 P)) .nil))
noncomputable def u94 (P : Params) : BT := (nd (c2_108 P) (nd (c3_172 P) (l1 (c6_300 P)) (l1 (c9_428 P))) (nd (c5_236 P) (l1 (a12 P)) .nil))
noncomputable def u95 (P : Params) : BT := (nd (c2_92 P) (nd (c3_156 P) (l1 (a12 P)) (l1 (c9_412 P))) (nd (a11 P) (l1 (c7_348 P)) .nil))
noncomputable def u96 (P : Params) : BT := (nd (a12 P) (nd (a12 P) (l1 (a11 P)) (l1 (a12 P))) (nd (c4_226 P) (l1 (c8_354 P)) .nil))
noncomputable def u97 (P : Params) : BT := (nd (a11 P) (nd (a11 P) (l1 (c7_306 P)) (l1 (c9_434 P))) (nd (c5_242 P) (l1 (a11 P)) .nil))
noncomputable def u98 (P : Params) : BT := (nd (c2_106 P) (nd (c3_170 P) (l1 (c6_298 P)) (l1 (c9_426 P))) (nd (c4_234 P) (l1 (c8_362 P)) .nil))
noncomputable def u99 (P : Params) : BT := (nd (a11 P) (nd (a11 P) (l1 (c6_282 P)) (l1 (a11 P))) (nd (a12 P) (l1 (c7_346 P)) .nil))
noncomputable def u100 (P : Params) : BT := (nd (c2_102 P) (nd (c3_166 P) (l1 (c6_294 P)) (l1 (c9_422 P))) (nd (c4_230 P) (l1 (c8_358 P)) .nil))
noncomputable def u101 (P : Params) : BT := (nd (a11 P) (nd (c2_150 P) (l1 (c6_278 P)) (l1 (a11 P))) (nd (c4_214 P) (l1 (c7_342 P)) .nil))
noncomputable def u102 (P : Params) : BT := (nd (c2_110 P) (nd (c3_174 P) (l1 (c4_210 P)) (l1 (c9_430 P))) (nd (c5_238 P) (l1 (a11 P)) .nil))
noncomputable def u103 (P : Params) : BT := (nd (c2_94 P) (nd (c3_158 P) (l1 (a11 P)) (l1 (c9_414 P))) (nd (c4_222 P) (l1 (c0_23 P)) .nil))
noncomputable def tc9_ (P : Params) : BT := (nd (boot_o_0 P) (nd (boot_o_1 P) (nd (c9_3 P) (nd (boot_o_7 P) (nd (a11 P) (nd (c1_31 P) (u56 P) (u73 P)) (nd (c0_35 P) (nd (a12 P) (nd (c2_143 P) (l1 (c6_271 P)) (l1 (a11 P))) (nd (c3_207 P) (l1 (c7_335 P)) .nil)) (u74 P))) (nd (c0_23 P) (nd (a12 P) (nd (c1_71 P) (nd (a11 P) (l1 (c5_263 P)) (l1 (c9_391 P))) (nd (a11 P) (l1 (c7_327 P)) .nil)) (u75 P)) (nd (a12 P) (u76 P) (u57 P)))) (nd (a11 P) (nd (c0_19 P) (nd (c0_35 P) (u58 P) (u77 P)) (nd (c1_51 P) (nd (a11 P) (nd (c2_147 P) (l1 (c6_275 P)) (l1 (a11 P))) (nd (c0_23 P) (l1 (c7_339 P)) .nil)) (u78 P))) (nd (c0_27 P) (nd (c0_43 P) (nd (c1_75 P) (nd (a11 P) (l1 (c5_267 P)) (l1 (c9_395 P))) (nd (a11 P) (l1 (a12 P)) .nil)) (u79 P)) (nd (c1_59 P) (u80 P) (u59 P))))) (nd (boot_o_5 P) (nd (boot_o_9 P) (nd (c0_17 P) (nd (c0_33 P) (u60 P) (u81 P)) (nd (c1_49 P) (nd (c1_81 P) (nd (c2_145 P) (l1 (c6_273 P)) (l1 (c9_401 P))) (nd (c3_209 P) (l1 (a11 P)) .nil)) (u82 P))) (nd (a11 P) (nd (c0_41 P) (nd (a11 P) (nd (c2_137 P) (l1 (c5_265 P)) (l1 (c9_393 P))) (nd (c3_201 P) (l1 (c7_329 P)) .nil)) (u83 P)) (nd (a11 P) (u84 P) (u61 P)))) (nd (a13 P) (nd (c0_21 P) (nd (c0_37 P) (nd (a11 P) (nd (a12 P) (l1 (c5_261 P)) (l1 (c5_236 P))) (nd (a12 P) (l1 (c7_325 P)) .nil)) (u85 P)) (nd (c1_53 P) (u86 P) (u62 P))) (nd (a11 P) (nd (c0_45 P) (nd (c1_77 P) (nd (c2_141 P) (l1 (c5_236 P)) (l1 (a12 P))) (nd (c7_205 P) (l1 (a11 P)) .nil)) (u87 P)) (nd (c1_61 P) (u88 P) (u63 P)))))) (nd (boot_o_2 P) (nd (boot_o_4 P) (nd (boot_o_8 P) (nd (a12 P) (nd (c0_32 P) (u64 P) (u89 P)) (nd (c0_23 P) (nd (c1_80 P) (nd (c2_144 P) (l1 (a11 P)) (l1 (c9_400 P))) (nd (c3_208 P) (l1 (c7_336 P)) .nil)) (u90 P))) (nd (c0_24 P) (nd (c0_40 P) (nd (c1_72 P) (nd (c2_136 P) (l1 (a11 P)) (l1 (a11 P))) (nd (c3_200 P) (l1 (c7_328 P)) .nil)) (u91 P)) (nd (c1_56 P) (u92 P) (u65 P)))) (nd (c9_12 P) (nd (c0_20 P) (nd (c0_23 P) (u66 P) (u93 P)) (nd (c1_52 P) (nd (a12 P) (nd (c2_148 P) (l1 (a11 P)) (l1 (a12 P))) (nd (c4_212 P) (l1 (a11 P)) .nil)) (u67 P))) (nd (c0_28 P) (nd (c0_44 P) (nd (c1_76 P) (nd (a12 P) (l1 (c5_268 P)) (l1 (a11 P))) (nd (c3_204 P) (l1 (c7_332 P)) .nil)) (u94 P)) (nd (c1_60 P) (u95 P) (u68 P))))) (nd (boot_o_6 P) (nd (boot_o_10 P) (nd (a11 P) (nd (c0_34 P) (u69 P) (u96 P)) (nd (a11 P) (nd (c1_82 P) (nd (c2_146 P) (l1 (c6_274 P)) (l1 (c9_402 P))) (nd (c4_210 P) (l1 (a12 P)) .nil)) (u97 P))) (nd (a12 P) (nd (a11 P) (nd (a12 P) (nd (c2_138 P) (l1 (c5_266 P)) (l1 (c9_394 P))) (nd (c3_202 P) (l1 (a11 P)) .nil)) (u98 P)) (nd (c1_58 P) (u99 P) (u70 P)))) (nd (a14 P) (nd (c0_22 P) (nd (a11 P) (nd (c1_70 P) (nd (c2_134 P) (l1 (c5_262 P)) (l1 (c0_23 P))) (nd (c3_198 P) (l1 (a11 P)) .nil)) (u100 P)) (nd (a11 P) (u101 P) (u71 P))) (nd (c0_30 P) (nd (c0_46 P) (nd (a11 P) (nd (a11 P) (l1 (c0_23 P)) (l1 (c9_398 P))) (nd (c3_206 P) (l1 (c7_334 P)) .nil)) (u102 P)) (nd (c1_62 P) (u103 P) (u72 P)))))))
noncomputable def sc9_ (w : World) (os : OsState) : SharedT := SharedT.mk (tc9_ w.params) 436 (@Life.mk [] [] [] 0 [] [] Bool.false E [] 0 Bool.false Bool.false Bool.false 0 [2000, 10, 10] Bool.false 0 Bool.true [] [] 0 Bool.false) E (@Drawn.mk 0 0 0 0) 749 os
noncomputable def c10_3 (P : Params) : Obj := (Obj.mk y3 none (Data.dict (A [(de P q3 165 (vs q43 383)), (de P q5 166 vn), (de P q6 167 vn), (de P q7 168 y4), (de P q8 169 vn), (de P q9 170 (vr 6)), (de P q10 171 (vr 4)), (de P q11 173 (vs q1 172)), (de P q12 174 vn), (de P q13 193 (vr 21)), (de P q14 213 (vr 31)), (de P q15 229 (vr 44)), (de P q23 254 (vr 63)), (de P q24 258 (vi 400 257)), (de P q25 260 (vi 2000 259)), (de P q26 262 (vi 2000 261)), (de P q27 264 (vi 8 263)), (de P q28 266 (vi 100000 265)), (de P q29 268 (vi 32 267)), (de P q30 270 (vi 37 269)), (de P q31 272 (vi 126 271)), (de P q32 279 (vr 72)), (de P q33 285 (vr 77)), (de P q34 291 (vr 82)), (de P q35 299 (vr 89)), (de P q44 382 (vr 148)), (de P q45 386 (vi 40 385)), (de P q69 408 (vr 153)), (de P q70 473 (vr 205)), (de P q96 507 (vr 233)), (de P q101 546 (vr 266)), (de P q105 585 (vr 299)), (de P q109 644 (vr 346)), (de P q117 690 (vr 386)), (de P q122 748 (vr 433)), (de P q129 789 (vr 466))]) 36) E)
noncomputable def c10_12 (P : Params) : Obj := (Obj.mk vn none (Data.fields (A [(vi 1 0), (vi 0 0), (vr 20), (vi 5 0), (vi 0 0), (vr 27), (vi 7 0), (vi 0 0), (vr 40), (vi 9 0), (vi 0 0), (vr 52), (vi 22 0), (vi 0 0), (vr 71), (vi 24 0), (vi 0 0), (vr 76), (vi 30 0), (vi 0 0), (vr 81), (vi 40 0), (vi 0 0), (vr 88), (vi 43 0), (vi 0 0), (vr 95), (vi 110 0), (vi 0 0), (vr 159), (vi 129 0), (vi 0 0), (vr 215), (vi 137 0), (vi 0 0), (vr 241), (vi 147 0), (vi 0 0), (vr 274), (vi 157 0), (vi 0 0), (vr 307), (vi 175 0), (vi 0 0), (vr 354), (vi 188 0), (vi 0 0), (vr 394), (vi 205 0), (vi 0 0), (vr 441)])) E)
noncomputable def c10_205 (P : Params) : Obj := (Obj.mk y9 none (Data.cls (ClassData.mk q70 [y12] [(vr 205), y12] 204 q70 Bool.true [] [(vr 233), (vr 346), (vr 466)] Bool.false none Bool.false)) (A [none, none, (some (vs q70 409)), (some (vs q70 417)), (some y18), (some vT)]))
noncomputable def c10_438 (P : Params) : Obj := m16 P 756 758 q129 757 760 205 759 q36 768 449 777 456 784 463 786 464
noncomputable def c10_440 (P : Params) : Obj := m2 P 207 4 448 210 455 213 462
noncomputable def c10_441 (P : Params) : Obj := m0 P q129 751 752 753 205 439 440 754 755
noncomputable def c10_442 (P : Params) : Obj := m1 P 441 438 q43 383
noncomputable def c10_445 (P : Params) : Obj := m11 P q37 764 q123 765
noncomputable def c10_447 (P : Params) : Obj := m4 P q36 q130 (M 29 0)
noncomputable def c10_448 (P : Params) : Obj := m5 P q36 761 q130 762 763 207 2 443 444 445 446 447 766 767
noncomputable def c10_449 (P : Params) : Obj := m6 P q36 q130 (M 29 0) q43 383 448
noncomputable def c10_452 (P : Params) : Obj := m13 P q37 772 q90 773 q91 774
noncomputable def c10_454 (P : Params) : Obj := m4 P q84 q131 (M 29 1)
noncomputable def c10_455 (P : Params) : Obj := m5 P q84 769 q131 770 771 210 3 450 451 452 453 454 775 776
noncomputable def c10_456 (P : Params) : Obj := m6 P q84 q131 (M 29 1) q43 383 455
noncomputable def c10_459 (P : Params) : Obj := m3 P q37 781
noncomputable def c10_461 (P : Params) : Obj := m4 P q87 q132 (M 29 2)
noncomputable def c10_462 (P : Params) : Obj := m5 P q87 778 q132 779 780 213 1 457 458 459 460 461 782 783
noncomputable def c10_463 (P : Params) : Obj := m6 P q87 q132 (M 29 2) q43 383 462
noncomputable def c10_464 (P : Params) : Obj := m3 P q123 785
noncomputable def c10_465 (P : Params) : Obj := m17 P 756 760 205 759 q36 768 449 777 456 784 463 786 464 787
noncomputable def c10_466 (P : Params) : Obj := (Obj.mk y9 none (Data.cls (ClassData.mk q129 [(vr 205)] [(vr 466), (vr 205), y12] 465 q129 Bool.true [] [] Bool.false none Bool.false)) (A [(sr 436), none, (some (vs q129 749)), (some (vs q129 757)), (some y18), (some vT)]))
noncomputable def c10_467 (P : Params) : Obj := m8 P 466
noncomputable def c10_468 (P : Params) : Obj := m9 P 466
noncomputable def tc10_ (P : Params) : BT := (nd (boot_o_0 P) (nd (boot_o_1 P) (nd (c10_3 P) (nd (boot_o_7 P) (nd (a11 P) (nd (c1_31 P) (nd (c1_63 P) (nd (c2_127 P) (l1 (c5_255 P)) (l1 (c8_383 P))) (nd (c3_191 P) (l1 (a11 P)) (l1 (c10_447 P)))) (u73 P)) (nd (c0_35 P) (nd (a12 P) (nd (c2_143 P) (l1 (c6_271 P)) (l1 (a11 P))) (nd (c3_207 P) (l1 (c7_335 P)) (l1 (c10_463 P)))) (u74 P))) (nd (c0_23 P) (nd (a12 P) (nd (c1_71 P) (nd (a11 P) (l1 (c5_263 P)) (l1 (c9_391 P))) (nd (a11 P) (l1 (c7_327 P)) (l1 (c10_455 P)))) (u75 P)) (nd (a12 P) (u76 P) (nd (a12 P) (nd (a12 P) (l1 (c7_311 P)) (l1 (a11 P))) (nd (c5_247 P) (l1 (c8_375 P)) .nil))))) (nd (a11 P) (nd (c0_19 P) (nd (c0_35 P) (nd (a12 P) (nd (c2_131 P) (l1 (c5_259 P)) (l1 (c8_387 P))) (nd (c3_195 P) (l1 (a11 P)) (l1 (a12 P)))) (u77 P)) (nd (c1_51 P) (nd (a11 P) (nd (c2_147 P) (l1 (c6_275 P)) (l1 (a11 P))) (nd (c0_23 P) (l1 (c7_339 P)) (l1 (c10_467 P)))) (u78 P))) (nd (c0_27 P) (nd (c0_43 P) (nd (c1_75 P) (nd (a11 P) (l1 (c5_267 P)) (l1 (c9_395 P))) (nd (a11 P) (l1 (a12 P)) (l1 (c10_459 P)))) (u79 P)) (nd (c1_59 P) (u80 P) (nd (c2_123 P) (nd (c3_187 P) (l1 (c7_315 P)) (l1 (a11 P))) (nd (a12 P) (l1 (c8_379 P)) .nil)))))) (nd (boot_o_5 P) (nd (boot_o_9 P) (nd (c0_17 P) (nd (c0_33 P) (nd (c1_65 P) (nd (c2_129 P) (l1 (a11 P)) (l1 (c8_385 P))) (nd (c3_193 P) (l1 (c7_321 P)) (l1 (c10_449 P)))) (u81 P)) (nd (c1_49 P) (nd (c1_81 P) (nd (c2_145 P) (l1 (c6_273 P)) (l1 (c9_401 P))) (nd (c3_209 P) (l1 (a11 P)) (l1 (c10_465 P)))) (u82 P))) (nd (a11 P) (nd (c0_41 P) (nd (a11 P) (nd (c2_137 P) (l1 (c5_265 P)) (l1 (c9_393 P))) (nd (c3_201 P) (l1 (c7_329 P)) (l1 (a11 P)))) (u83 P)) (nd (a11 P) (u84 P) (nd (a11 P) (nd (a11 P) (l1 (c7_313 P)) (l1 (c10_441 P))) (nd (c5_249 P) (l1 (a11 P)) .nil))))) (nd (a13 P) (nd (c0_21 P) (nd (c0_37 P) (nd (a11 P) (nd (a12 P) (l1 (c5_261 P)) (l1 (c5_236 P))) (nd (a12 P) (l1 (c7_325 P)) (l1 (a11 P)))) (u85 P)) (nd (c1_53 P) (u86 P) (nd (c2_117 P) (nd (c3_181 P) (l1 (a11 P)) (l1 (c0_23 P))) (nd (c5_245 P) (l1 (a11 P)) .nil)))) (nd (a11 P) (nd (c0_45 P) (nd (c1_77 P) (nd (c2_141 P) (l1 (c5_236 P)) (l1 (a12 P))) (nd (c10_205 P) (l1 (a11 P)) (l1 (c10_461 P)))) (u87 P)) (nd (c1_61 P) (u88 P) (nd (a11 P) (nd (a11 P) (l1 (a12 P)) (l1 (c10_445 P))) (nd (a11 P) (l1 (c8_381 P)) .nil))))))) (nd (boot_o_2 P) (nd (boot_o_4 P) (nd (boot_o_8 P) (nd (a12 P) (nd (c0_32 P) (nd (c1_64 P) (nd (a11 P) (l1 (c5_256 P)) (l1 (a11 P))) (nd (a11 P) (l1 (c7_320 P)) (l1 (c10_448 P)))) (u89 P)) (nd (c0_23 P) (nd (c1_80 P) (nd (c2_144 P) (l1 (a11 P)) (l1 (c9_400 P))) (nd (c3_208 P) (l1 (c7_336 P)) (l1 (c10_464 P)))) (u90 P))) (nd (c0_24 P) (nd (c0_40 P) (nd (c1_72 P) (nd (c2_136 P) (l1 (a11 P)) (l1 (a11 P))) (nd (c3_200 P) (l1 (c7_328 P)) (l1 (c10_456 P)))) (u91 P)) (nd (c1_56 P) (u92 P) (nd (c2_120 P) (nd (c3_184 P) (l1 (a11 P)) (l1 (c10_440 P))) (nd (c5_248 P) (l1 (c8_376 P)) .nil))))) (nd (c10_12 P) (nd (c0_20 P) (nd (c0_23 P) (nd (c1_68 P) (nd (a11 P) (l1 (a11 P)) (l1 (c8_388 P))) (nd (a11 P) (l1 (a12 P)) (l1 (c10_452 P)))) (u93 P)) (nd (c1_52 P) (nd (a12 P) (nd (c2_148 P) (l1 (a11 P)) (l1 (a12 P))) (nd (c4_212 P) (l1 (a11 P)) (l1 (c10_468 P)))) (nd (c2_116 P) (nd (c3_180 P) (l1 (c7_308 P)) (l1 (c4_210 P))) (nd (a12 P) (l1 (c8_372 P)) .nil)))) (nd (c0_28 P) (nd (c0_44 P) (nd (c1_76 P) (nd (a12 P) (l1 (c5_268 P)) (l1 (a11 P))) (nd (c3_204 P) (l1 (c7_332 P)) (l1 (a11 P)))) (u94 P)) (nd (c1_60 P) (u95 P) (nd (c2_124 P) (nd (c3_188 P) (l1 (a11 P)) (l1 (a12 P))) (nd (c5_252 P) (l1 (a11 P)) .nil)))))) (nd (boot_o_6 P) (nd (boot_o_10 P) (nd (a11 P) (nd (c0_34 P) (nd (a11 P) (nd (c2_130 P) (l1 (a12 P)) (l1 (c8_386 P))) (nd (c3_194 P) (l1 (c7_322 P)) (l1 (a11 P)))) (u96 P)) (nd (a11 P) (nd (c1_82 P) (nd (c2_146 P) (l1 (c6_274 P)) (l1 (c9_402 P))) (nd (c4_210 P) (l1 (a12 P)) (l1 (c10_466 P)))) (u97 P))) (nd (a12 P) (nd (a11 P) (nd (a12 P) (nd (c2_138 P) (l1 (c5_266 P)) (l1 (c9_394 P))) (nd (c3_202 P) (l1 (a11 P)) (l1 (a12 P)))) (u98 P)) (nd (c1_58 P) (u99 P) (nd (c2_122 P) (nd (c3_186 P) (l1 (c7_314 P)) (l1 (c10_442 P))) (nd (a11 P) (l1 (a12 P)) .nil))))) (nd (a14 P) (nd (c0_22 P) (nd (a11 P) (nd (c1_70 P) (nd (c2_134 P) (l1 (c5_262 P)) (l1 (c0_23 P))) (nd (c3_198 P) (l1 (a11 P)) (l1 (c10_454 P)))) (u100 P)) (nd (a11 P) (u101 P) (nd (a11 P) (nd (a11 P) (l1 (a12 P)) (l1 (c10_438 P))) (nd (a11 P) (l1 (c8_374 P)) .nil)))) (nd (c0_30 P) (nd (c0_46 P) (nd (a11 P) (nd (a11 P) (l1 (c0_23 P)) (l1 (c9_398 P))) (nd (c3_206 P) (l1 (c7_334 P)) (l1 (c10_462 P)))) (u102 P)) (nd (c1_62 P) (u103 P) (nd (a12 P) (nd (a12 P) (l1 (c7_318 P)) (l1 (a11 P))) (nd (c5_254 P) (l1 (c8_382 P)) .nil))))))))
noncomputable def sc10_ (w : World) (os : OsState) : SharedT := SharedT.mk (tc10_ w.params) 469 (@Life.mk [] [] [] 0 [] [] Bool.false E [] 0 Bool.false Bool.false Bool.false 0 [2000, 10, 10] Bool.false 0 Bool.true [] [] 0 Bool.false) E (@Drawn.mk 0 0 0 0) 790 os
noncomputable def c11_3 (P : Params) : Obj := (Obj.mk y3 none (Data.dict (A [(de P q3 165 (vs q133 869)), (de P q5 166 vn), (de P q6 167 vn), (de P q7 168 y4), (de P q8 169 vn), (de P q9 170 (vr 6)), (de P q10 171 (vr 4)), (de P q11 173 (vs q1 172)), (de P q12 174 vn), (de P q13 193 (vr 21)), (de P q14 213 (vr 31)), (de P q15 229 (vr 44)), (de P q23 254 (vr 63)), (de P q24 258 (vi 400 257)), (de P q25 260 (vi 2000 259)), (de P q26 262 (vi 2000 261)), (de P q27 264 (vi 8 263)), (de P q28 266 (vi 100000 265)), (de P q29 268 (vi 32 267)), (de P q30 270 (vi 37 269)), (de P q31 272 (vi 126 271)), (de P q32 279 (vr 72)), (de P q33 285 (vr 77)), (de P q34 291 (vr 82)), (de P q35 299 (vr 89)), (de P q44 382 (vr 148)), (de P q45 386 (vi 40 385)), (de P q69 408 (vr 153)), (de P q70 473 (vr 205)), (de P q96 507 (vr 233)), (de P q101 546 (vr 266)), (de P q105 585 (vr 299)), (de P q109 644 (vr 346)), (de P q117 690 (vr 386)), (de P q122 748 (vr 433)), (de P q129 789 (vr 466)), (de P q134 830 (vr 499)), (de P q135 836 (vr 506)), (de P q136 842 (vr 511)), (de P q50 851 (vr 518)), (de P q137 859 (vr 525)), (de P q138 868 (vr 532)), (de P q139 873 (vr 533)), (de P q140 875 (vi 12 874))]) 44) E)
noncomputable def c11_12 (P : Params) : Obj := (Obj.mk vn none (Data.fields (A [(vi 1 0), (vi 0 0), (vr 20), (vi 5 0), (vi 0 0), (vr 27), (vi 7 0), (vi 0 0), (vr 40), (vi 9 0), (vi 0 0), (vr 52), (vi 22 0), (vi 0 0), (vr 71), (vi 24 0), (vi 0 0), (vr 76), (vi 30 0), (vi 0 0), (vr 81), (vi 40 0), (vi 0 0), (vr 88), (vi 43 0), (vi 0 0), (vr 95), (vi 110 0), (vi 0 0), (vr 159), (vi 129 0), (vi 0 0), (vr 215), (vi 137 0), (vi 0 0), (vr 241), (vi 147 0), (vi 0 0), (vr 274), (vi 157 0), (vi 0 0), (vr 307), (vi 175 0), (vi 0 0), (vr 354), (vi 188 0), (vi 0 0), (vr 394), (vi 205 0), (vi 0 0), (vr 441), (vi 215 0), (vi 0 0), (vr 474), (vi 225 0), (vi 0 0), (vr 505), (vi 227 0), (vi 0 0), (vr 510), (vi 233 0), (vi 0 0), (vr 517), (vi 243 0), (vi 0 0), (vr 524), (vi 257 0), (vi 0 0), (vr 531)])) E)
noncomputable def c11_205 (P : Params) : Obj := (Obj.mk y9 none (Data.cls (ClassData.mk q70 [y12] [(vr 205), y12] 204 q70 Bool.true [] [(vr 233), (vr 346), (vr 466), (vr 499)] Bool.false none Bool.false)) (A [none, none, (some (vs q70 409)), (some (vs q70 417)), (some y18), (some vT)]))
noncomputable def c11_471 (P : Params) : Obj := m16 P 797 799 q134 798 801 215 800 q36 809 482 818 489 825 496 827 497
noncomputable def c11_473 (P : Params) : Obj := m2 P 217 4 481 220 488 223 495
noncomputable def c11_474 (P : Params) : Obj := m0 P q134 792 793 794 215 472 473 795 796
noncomputable def c11_475 (P : Params) : Obj := m1 P 474 471 q43 383
noncomputable def c11_478 (P : Params) : Obj := m11 P q37 805 q123 806
noncomputable def c11_480 (P : Params) : Obj := m4 P q36 q141 (M 30 0)
noncomputable def c11_481 (P : Params) : Obj := m5 P q36 802 q141 803 804 217 2 476 477 478 479 480 807 808
noncomputable def c11_482 (P : Params) : Obj := m6 P q36 q141 (M 30 0) q43 383 481
noncomputable def c11_485 (P : Params) : Obj := m13 P q37 813 q90 814 q91 815
noncomputable def c11_487 (P : Params) : Obj := m4 P q84 q142 (M 30 1)
noncomputable def c11_488 (P : Params) : Obj := m5 P q84 810 q142 811 812 220 3 483 484 485 486 487 816 817
noncomputable def c11_489 (P : Params) : Obj := m6 P q84 q142 (M 30 1) q43 383 488
noncomputable def c11_492 (P : Params) : Obj := m3 P q37 822
noncomputable def c11_494 (P : Params) : Obj := m4 P q87 q143 (M 30 2)
noncomputable def c11_495 (P : Params) : Obj := m5 P q87 819 q143 820 821 223 1 490 491 492 493 494 823 824
noncomputable def c11_496 (P : Params) : Obj := m6 P q87 q143 (M 30 2) q43 383 495
noncomputable def c11_497 (P : Params) : Obj := m3 P q123 826
noncomputable def c11_498 (P : Params) : Obj := m17 P 797 801 215 800 q36 809 482 818 489 825 496 827 497 828
noncomputable def c11_499 (P : Params) : Obj := (Obj.mk y9 none (Data.cls (ClassData.mk q134 [(vr 205)] [(vr 499), (vr 205), y12] 498 q134 Bool.true [] [] Bool.false none Bool.false)) (A [(sr 469), none, (some (vs q134 790)), (some (vs q134 798)), (some y18), (some vT)]))
noncomputable def c11_500 (P : Params) : Obj := m8 P 499
noncomputable def c11_501 (P : Params) : Obj := m9 P 499
noncomputable def c11_504 (P : Params) : Obj := m4 P q135 q135 (B 31)
noncomputable def c11_505 (P : Params) : Obj := m12 P q135 831 q135 832 833 225 2 502 503 504 834 835
noncomputable def c11_506 (P : Params) : Obj := m6 P q135 q135 (B 31) q43 383 505
noncomputable def c11_509 (P : Params) : Obj := m4 P q136 q136 (B 32)
noncomputable def c11_510 (P : Params) : Obj := m12 P q136 837 q136 838 839 227 1 507 508 509 840 841
noncomputable def c11_511 (P : Params) : Obj := m6 P q136 q136 (B 32) q43 383 510
noncomputable def c11_514 (P : Params) : Obj := m13 P q144 846 q145 847 q42 848
noncomputable def c11_516 (P : Params) : Obj := m4 P q50 q50 (B 33)
noncomputable def c11_517 (P : Params) : Obj := m5 P q50 843 q50 844 845 233 2 512 513 514 515 516 849 850
noncomputable def c11_518 (P : Params) : Obj := m6 P q50 q50 (B 33) q43 383 517
noncomputable def c11_521 (P : Params) : Obj := m11 P q144 855 q146 856
noncomputable def c11_523 (P : Params) : Obj := m4 P q137 q137 (B 34)
noncomputable def c11_524 (P : Params) : Obj := m5 P q137 852 q137 853 854 243 2 519 520 521 522 523 857 858
noncomputable def c11_525 (P : Params) : Obj := m6 P q137 q137 (B 34) q43 383 524
noncomputable def c11_528 (P : Params) : Obj := m13 P q97 863 q110 864 q111 865
noncomputable def c11_530 (P : Params) : Obj := m4 P q138 q138 (B 35)
noncomputable def c11_531 (P : Params) : Obj := m5 P q138 860 q138 861 862 257 3 526 527 528 529 530 866 867
noncomputable def c11_532 (P : Params) : Obj := m6 P q138 q138 (B 35) q43 383 531
noncomputable def c11_533 (P : Params) : Obj := m11 P q147 871 q148 872
noncomputable def u104 (P : Params) : BT := (nd (c2_127 P) (nd (c5_255 P) (l1 (c11_511 P)) .nil) (l1 (c8_383 P)))
noncomputable def u105 (P : Params) : BT := (nd (c2_143 P) (nd (c6_271 P) (l1 (a12 P)) .nil) (l1 (a11 P)))
noncomputable def u106 (P : Params) : BT := (nd (a11 P) (nd (c5_263 P) (l1 (a11 P)) .nil) (l1 (c9_391 P)))
noncomputable def u107 (P : Params) : BT := (nd (c2_131 P) (nd (c5_259 P) (l1 (a11 P)) .nil) (l1 (c8_387 P)))
noncomputable def u108 (P : Params) : BT := (nd (c2_147 P) (nd (c6_275 P) (l1 (c11_531 P)) .nil) (l1 (a11 P)))
noncomputable def u109 (P : Params) : BT := (nd (a11 P) (nd (c5_267 P) (l1 (c11_523 P)) .nil) (l1 (c9_395 P)))
noncomputable def u110 (P : Params) : BT := (nd (c2_129 P) (nd (a11 P) (l1 (a12 P)) .nil) (l1 (c8_385 P)))
noncomputable def u111 (P : Params) : BT := (nd (c2_145 P) (nd (c6_273 P) (l1 (a11 P)) .nil) (l1 (c9_401 P)))
noncomputable def u112 (P : Params) : BT := (nd (c2_137 P) (nd (c5_265 P) (l1 (c11_521 P)) .nil) (l1 (c9_393 P)))
noncomputable def u113 (P : Params) : BT := (nd (a12 P) (nd (c5_261 P) (l1 (c11_517 P)) .nil) (l1 (c5_236 P)))
noncomputable def u114 (P : Params) : BT := (nd (c2_149 P) (nd (a12 P) (l1 (c11_533 P)) .nil) (l1 (c9_405 P)))
noncomputable def u115 (P : Params) : BT := (nd (c2_141 P) (nd (c5_236 P) (l1 (c11_525 P)) .nil) (l1 (a12 P)))
noncomputable def u116 (P : Params) : BT := (nd (c2_144 P) (nd (a11 P) (l1 (c11_528 P)) .nil) (l1 (c9_400 P)))
noncomputable def u117 (P : Params) : BT := (nd (a11 P) (nd (a11 P) (l1 (c11_516 P)) .nil) (l1 (c8_388 P)))
noncomputable def u118 (P : Params) : BT := (nd (c2_148 P) (nd (a11 P) (l1 (c11_532 P)) .nil) (l1 (a12 P)))
noncomputable def u119 (P : Params) : BT := (nd (a12 P) (nd (c5_268 P) (l1 (c11_524 P)) .nil) (l1 (a11 P)))
noncomputable def u120 (P : Params) : BT := (nd (c2_130 P) (nd (a12 P) (l1 (c11_514 P)) .nil) (l1 (c8_386 P)))
noncomputable def u121 (P : Params) : BT := (nd (c2_146 P) (nd (c6_274 P) (l1 (c11_530 P)) .nil) (l1 (c9_402 P)))
noncomputable def u122 (P : Params) : BT := (nd (c2_138 P) (nd (c5_266 P) (l1 (a11 P)) .nil) (l1 (c9_394 P)))
noncomputable def u123 (P : Params) : BT := (nd (c2_134 P) (nd (c5_262 P) (l1 (c11_518 P)) .nil) (l1 (c0_23 P)))
noncomputable def u124 (P : Params) : BT := (nd (a11 P) (nd (c0_23 P) (l1 (a11 P)) .nil) (l1 (c9_398 P)))
noncomputable def tc11_ (P : Params) : BT := (nd (boot_o_0 P) (nd (boot_o_1 P) (nd (c11_3 P) (nd (boot_o_7 P) (nd (a11 P) (nd (c1_31 P) (nd (c1_63 P) (u104 P) (nd (c3_191 P) (l1 (a11 P)) (l1 (c10_447 P)))) (nd (c2_95 P) (nd (c3_159 P) (l1 (c6_287 P)) (l1 (c9_415 P))) (nd (c4_223 P) (l1 (c8_351 P)) (l1 (a11 P))))) (nd (c0_35 P) (nd (a12 P) (u105 P) (nd (c3_207 P) (l1 (c7_335 P)) (l1 (c10_463 P)))) (nd (a11 P) (nd (a11 P) (l1 (c0_23 P)) (l1 (c9_431 P))) (nd (a11 P) (l1 (c8_367 P)) (l1 (c11_495 P)))))) (nd (c0_23 P) (nd (a12 P) (nd (c1_71 P) (u106 P) (nd (a11 P) (l1 (c7_327 P)) (l1 (c10_455 P)))) (nd (c2_103 P) (nd (c3_167 P) (l1 (c6_295 P)) (l1 (c9_423 P))) (nd (c4_231 P) (l1 (a11 P)) (l1 (c11_487 P))))) (nd (a12 P) (nd (c1_87 P) (nd (c2_151 P) (l1 (a11 P)) (l1 (c9_407 P))) (nd (c4_215 P) (l1 (c7_343 P)) (l1 (c11_471 P)))) (nd (a12 P) (nd (a12 P) (l1 (c7_311 P)) (l1 (a11 P))) (nd (c5_247 P) (l1 (c8_375 P)) (l1 (a12 P))))))) (nd (a11 P) (nd (c0_19 P) (nd (c0_35 P) (nd (a12 P) (u107 P) (nd (c3_195 P) (l1 (a11 P)) (l1 (a12 P)))) (nd (c2_99 P) (nd (c3_163 P) (l1 (a12 P)) (l1 (c9_419 P))) (nd (a11 P) (l1 (c8_355 P)) (l1 (a11 P))))) (nd (c1_51 P) (nd (a11 P) (u108 P) (nd (c0_23 P) (l1 (c7_339 P)) (l1 (c10_467 P)))) (nd (c2_115 P) (nd (c3_179 P) (l1 (c7_307 P)) (l1 (c9_435 P))) (nd (a11 P) (l1 (a12 P)) (l1 (c11_499 P)))))) (nd (c0_27 P) (nd (c0_43 P) (nd (c1_75 P) (u109 P) (nd (a11 P) (l1 (a12 P)) (l1 (c10_459 P)))) (nd (a11 P) (nd (a11 P) (l1 (c6_299 P)) (l1 (a11 P))) (nd (c4_235 P) (l1 (a11 P)) (l1 (a12 P))))) (nd (c1_59 P) (nd (c0_23 P) (nd (c0_23 P) (l1 (a11 P)) (l1 (a12 P))) (nd (c4_219 P) (l1 (c7_347 P)) (l1 (c11_475 P)))) (nd (c2_123 P) (nd (c3_187 P) (l1 (c7_315 P)) (l1 (a11 P))) (nd (a12 P) (l1 (c8_379 P)) (l1 (a11 P)))))))) (nd (boot_o_5 P) (nd (boot_o_9 P) (nd (c0_17 P) (nd (c0_33 P) (nd (c1_65 P) (u110 P) (nd (c3_193 P) (l1 (c7_321 P)) (l1 (c10_449 P)))) (nd (a11 P) (nd (a11 P) (l1 (c6_289 P)) (l1 (a11 P))) (nd (a12 P) (l1 (c8_353 P)) (l1 (c11_481 P))))) (nd (c1_49 P) (nd (c1_81 P) (u111 P) (nd (c3_209 P) (l1 (a11 P)) (l1 (c10_465 P)))) (nd (c2_113 P) (nd (c3_177 P) (l1 (a11 P)) (l1 (c9_433 P))) (nd (c5_241 P) (l1 (c8_369 P)) (l1 (c11_497 P)))))) (nd (a11 P) (nd (c0_41 P) (nd (a11 P) (u112 P) (nd (c3_201 P) (l1 (c7_329 P)) (l1 (a11 P)))) (nd (a12 P) (nd (a12 P) (l1 (a11 P)) (l1 (a12 P))) (nd (c9_233 P) (l1 (c8_361 P)) (l1 (c11_489 P))))) (nd (a11 P) (nd (c1_89 P) (nd (c3_153 P) (l1 (c6_281 P)) (l1 (c9_409 P))) (nd (a11 P) (l1 (c7_345 P)) (l1 (c11_473 P)))) (nd (a11 P) (nd (a11 P) (l1 (c7_313 P)) (l1 (c10_441 P))) (nd (c5_249 P) (l1 (a11 P)) (l1 (c11_505 P))))))) (nd (a13 P) (nd (c0_21 P) (nd (c0_37 P) (nd (a11 P) (u113 P) (nd (a12 P) (l1 (c7_325 P)) (l1 (a11 P)))) (nd (c2_101 P) (nd (c3_165 P) (l1 (a11 P)) (l1 (c9_421 P))) (nd (c4_229 P) (l1 (a12 P)) (l1 (c11_485 P))))) (nd (c1_53 P) (nd (c1_85 P) (u114 P) (nd (a11 P) (l1 (c7_341 P)) (l1 (c4_210 P)))) (nd (c2_117 P) (nd (c3_181 P) (l1 (a11 P)) (l1 (c0_23 P))) (nd (c5_245 P) (l1 (a11 P)) (l1 (c11_501 P)))))) (nd (a11 P) (nd (c0_45 P) (nd (c1_77 P) (u115 P) (nd (c11_205 P) (l1 (a11 P)) (l1 (c10_461 P)))) (nd (c2_109 P) (nd (c3_173 P) (l1 (c6_301 P)) (l1 (c9_429 P))) (nd (c0_23 P) (l1 (c8_365 P)) (l1 (a11 P))))) (nd (c1_61 P) (nd (a11 P) (nd (a11 P) (l1 (c6_285 P)) (l1 (a11 P))) (nd (c4_221 P) (l1 (c5_236 P)) (l1 (a12 P)))) (nd (a11 P) (nd (a11 P) (l1 (a12 P)) (l1 (c10_445 P))) (nd (a11 P) (l1 (c8_381 P)) (l1 (c11_509 P))))))))) (nd (boot_o_2 P) (nd (boot_o_4 P) (nd (boot_o_8 P) (nd (a12 P) (nd (c0_32 P) (nd (c1_64 P) (nd (a11 P) (nd (c5_256 P) (l1 (a11 P)) .nil) (l1 (a11 P))) (nd (a11 P) (l1 (c7_320 P)) (l1 (c10_448 P)))) (nd (c2_96 P) (nd (c3_160 P) (l1 (c6_288 P)) (l1 (c9_416 P))) (nd (a11 P) (l1 (a11 P)) (l1 (c11_480 P))))) (nd (c0_23 P) (nd (c1_80 P) (u116 P) (nd (c3_208 P) (l1 (c7_336 P)) (l1 (c10_464 P)))) (nd (a12 P) (nd (a12 P) (l1 (c7_304 P)) (l1 (c9_432 P))) (nd (c5_240 P) (l1 (c8_368 P)) (l1 (c11_496 P)))))) (nd (c0_24 P) (nd (c0_40 P) (nd (c1_72 P) (nd (c2_136 P) (nd (a11 P) (l1 (a12 P)) .nil) (l1 (a11 P))) (nd (c3_200 P) (l1 (c7_328 P)) (l1 (c10_456 P)))) (nd (a11 P) (nd (a11 P) (l1 (c6_296 P)) (l1 (a11 P))) (nd (c4_232 P) (l1 (c8_360 P)) (l1 (c11_488 P))))) (nd (c1_56 P) (nd (c1_88 P) (nd (c2_152 P) (l1 (c6_280 P)) (l1 (c9_408 P))) (nd (c4_216 P) (l1 (c7_344 P)) (l1 (a11 P)))) (nd (c2_120 P) (nd (c3_184 P) (l1 (a11 P)) (l1 (c10_440 P))) (nd (c5_248 P) (l1 (c8_376 P)) (l1 (c11_504 P))))))) (nd (c11_12 P) (nd (c0_20 P) (nd (c0_23 P) (nd (c1_68 P) (u117 P) (nd (a11 P) (l1 (a12 P)) (l1 (c10_452 P)))) (nd (a11 P) (nd (a11 P) (l1 (c6_292 P)) (l1 (a11 P))) (nd (c4_228 P) (l1 (a11 P)) (l1 (a12 P))))) (nd (c1_52 P) (nd (a12 P) (u118 P) (nd (c4_212 P) (l1 (a11 P)) (l1 (c10_468 P)))) (nd (c2_116 P) (nd (c3_180 P) (l1 (c7_308 P)) (l1 (c4_210 P))) (nd (a12 P) (l1 (c8_372 P)) (l1 (c11_500 P)))))) (nd (c0_28 P) (nd (c0_44 P) (nd (c1_76 P) (u119 P) (nd (c3_204 P) (l1 (c7_332 P)) (l1 (a11 P)))) (nd (c2_108 P) (nd (c3_172 P) (l1 (c6_300 P)) (l1 (c9_428 P))) (nd (c5_236 P) (l1 (a12 P)) (l1 (c11_492 P))))) (nd (c1_60 P) (nd (c2_92 P) (nd (c3_156 P) (l1 (a12 P)) (l1 (c9_412 P))) (nd (a11 P) (l1 (c7_348 P)) (l1 (a11 P)))) (nd (c2_124 P) (nd (c3_188 P) (l1 (a11 P)) (l1 (a12 P))) (nd (c5_252 P) (l1 (a11 P)) (l1 (a12 P)))))))) (nd (boot_o_6 P) (nd (boot_o_10 P) (nd (a11 P) (nd (c0_34 P) (nd (a11 P) (u120 P) (nd (c3_194 P) (l1 (c7_322 P)) (l1 (a11 P)))) (nd (a12 P) (nd (a12 P) (l1 (a11 P)) (l1 (a12 P))) (nd (c4_226 P) (l1 (c8_354 P)) (l1 (c11_482 P))))) (nd (a11 P) (nd (c1_82 P) (u121 P) (nd (c4_210 P) (l1 (a12 P)) (l1 (c10_466 P)))) (nd (a11 P) (nd (a11 P) (l1 (c7_306 P)) (l1 (c9_434 P))) (nd (c5_242 P) (l1 (a11 P)) (l1 (c11_498 P)))))) (nd (a12 P) (nd (a11 P) (nd (a12 P) (u122 P) (nd (c3_202 P) (l1 (a11 P)) (l1 (a12 P)))) (nd (c2_106 P) (nd (c3_170 P) (l1 (c6_298 P)) (l1 (c9_426 P))) (nd (c4_234 P) (l1 (c8_362 P)) (l1 (a11 P))))) (nd (c1_58 P) (nd (a11 P) (nd (a11 P) (l1 (c6_282 P)) (l1 (a11 P))) (nd (a12 P) (l1 (c7_346 P)) (l1 (c11_474 P)))) (nd (c2_122 P) (nd (c3_186 P) (l1 (c7_314 P)) (l1 (c10_442 P))) (nd (a11 P) (l1 (a12 P)) (l1 (c11_506 P))))))) (nd (a14 P) (nd (c0_22 P) (nd (a11 P) (nd (c1_70 P) (u123 P) (nd (c3_198 P) (l1 (a11 P)) (l1 (c10_454 P)))) (nd (c2_102 P) (nd (c3_166 P) (l1 (c6_294 P)) (l1 (c9_422 P))) (nd (c4_230 P) (l1 (c8_358 P)) (l1 (a11 P))))) (nd (a11 P) (nd (a11 P) (nd (c2_150 P) (l1 (c6_278 P)) (l1 (a11 P))) (nd (c4_214 P) (l1 (c7_342 P)) (l1 (c0_23 P)))) (nd (a11 P) (nd (a11 P) (l1 (a12 P)) (l1 (c10_438 P))) (nd (a11 P) (l1 (c8_374 P)) (l1 (a11 P)))))) (nd (c0_30 P) (nd (c0_46 P) (nd (a11 P) (u124 P) (nd (c3_206 P) (l1 (c7_334 P)) (l1 (c10_462 P)))) (nd (c2_110 P) (nd (c3_174 P) (l1 (c4_210 P)) (l1 (c9_430 P))) (nd (c5_238 P) (l1 (a11 P)) (l1 (c11_494 P))))) (nd (c1_62 P) (nd (c2_94 P) (nd (c3_158 P) (l1 (a11 P)) (l1 (c9_414 P))) (nd (c4_222 P) (l1 (c0_23 P)) (l1 (c11_478 P)))) (nd (a12 P) (nd (a12 P) (l1 (c7_318 P)) (l1 (a11 P))) (nd (c5_254 P) (l1 (c8_382 P)) (l1 (c11_510 P))))))))))
noncomputable def sc11_ (w : World) (os : OsState) : SharedT := SharedT.mk (tc11_ w.params) 534 (@Life.mk [] [] [] 0 [] [] Bool.false E [] 0 Bool.false Bool.false Bool.false 0 [2000, 10, 10] Bool.false 0 Bool.true [] [] 0 Bool.false) E (@Drawn.mk 0 0 0 0) 876 os
noncomputable def c12_3 (P : Params) : Obj := (Obj.mk y3 none (Data.dict (A [(de P q3 165 (vs q149 942)), (de P q5 166 vn), (de P q6 167 vn), (de P q7 168 y4), (de P q8 169 vn), (de P q9 170 (vr 6)), (de P q10 171 (vr 4)), (de P q11 173 (vs q1 172)), (de P q12 174 vn), (de P q13 193 (vr 21)), (de P q14 213 (vr 31)), (de P q15 229 (vr 44)), (de P q23 254 (vr 63)), (de P q24 258 (vi 400 257)), (de P q25 260 (vi 2000 259)), (de P q26 262 (vi 2000 261)), (de P q27 264 (vi 8 263)), (de P q28 266 (vi 100000 265)), (de P q29 268 (vi 32 267)), (de P q30 270 (vi 37 269)), (de P q31 272 (vi 126 271)), (de P q32 279 (vr 72)), (de P q33 285 (vr 77)), (de P q34 291 (vr 82)), (de P q35 299 (vr 89)), (de P q44 382 (vr 148)), (de P q45 386 (vi 40 385)), (de P q69 408 (vr 153)), (de P q70 473 (vr 205)), (de P q96 507 (vr 233)), (de P q101 546 (vr 266)), (de P q105 585 (vr 299)), (de P q109 644 (vr 346)), (de P q117 690 (vr 386)), (de P q122 748 (vr 433)), (de P q129 789 (vr 466)), (de P q134 830 (vr 499)), (de P q135 836 (vr 506)), (de P q136 842 (vr 511)), (de P q50 851 (vr 518)), (de P q137 859 (vr 525)), (de P q138 868 (vr 532)), (de P q139 873 (vr 533)), (de P q140 875 (vi 12 874)), (de P q150 913 (vr 555)), (de P q151 919 (vr 564)), (de P q152 927 (vr 571)), (de P q153 933 (vr 576)), (de P q154 941 (vr 583)), (de P q155 951 (vr 590)), (de P q156 958 (vr 597)), (de P q157 967 (vr 604)), (de P q158 977 (vr 611)), (de P q159 985 (vr 618))]) 54) E)
noncomputable def c12_12 (P : Params) : Obj := (Obj.mk vn none (Data.fields (A [(vi 1 0), (vi 0 0), (vr 20), (vi 5 0), (vi 0 0), (vr 27), (vi 7 0), (vi 0 0), (vr 40), (vi 9 0), (vi 0 0), (vr 52), (vi 22 0), (vi 0 0), (vr 71), (vi 24 0), (vi 0 0), (vr 76), (vi 30 0), (vi 0 0), (vr 81), (vi 40 0), (vi 0 0), (vr 88), (vi 43 0), (vi 0 0), (vr 95), (vi 110 0), (vi 0 0), (vr 159), (vi 129 0), (vi 0 0), (vr 215), (vi 137 0), (vi 0 0), (vr 241), (vi 147 0), (vi 0 0), (vr 274), (vi 157 0), (vi 0 0), (vr 307), (vi 175 0), (vi 0 0), (vr 354), (vi 188 0), (vi 0 0), (vr 394), (vi 205 0), (vi 0 0), (vr 441), (vi 215 0), (vi 0 0), (vr 474), (vi 225 0), (vi 0 0), (vr 505), (vi 227 0), (vi 0 0), (vr 510), (vi 233 0), (vi 0 0), (vr 517), (vi 243 0), (vi 0 0), (vr 524), (vi 257 0), (vi 0 0), (vr 531), (vi 264 0), (vi 0 0), (vr 539), (vi 273 0), (vi 0 0), (vr 563), (vi 281 0), (vi 0 0), (vr 570), (vi 286 0), (vi 0 0), (vr 575), (vi 288 0), (vi 0 0), (vr 582), (vi 294 0), (vi 0 0), (vr 589), (vi 298 0), (vi 0 0), (vr 596), (vi 300 0), (vi 0 0), (vr 603), (vi 303 0), (vi 0 0), (vr 610), (vi 314 0), (vi 0 0), (vr 617)])) E)
noncomputable def c12_536 (P : Params) : Obj := (Obj.mk y3 none (Data.dict (A [(de P q17 883 (vs q133 869)), (de P q18 885 (vs q150 884)), (de P q19 887 (vi 264 886)), (de P q36 896 (vr 547)), (de P q87 902 (vr 552)), (de P q20 906 (vr 553))]) 6) E)
noncomputable def c12_538 (P : Params) : Obj := (Obj.mk vn none (Data.fields (A [(vi 266 0), (vi 4 0), (vr 546), (vi 271 0), (vi 4 0), (vr 551)])) E)
noncomputable def c12_539 (P : Params) : Obj := m0 P q150 878 879 880 264 537 538 881 882
noncomputable def c12_540 (P : Params) : Obj := m1 P 539 536 q133 869
noncomputable def c12_543 (P : Params) : Obj := m13 P q37 891 q160 892 q161 893
noncomputable def c12_545 (P : Params) : Obj := m4 P q36 q162 (M 39 0)
noncomputable def c12_546 (P : Params) : Obj := m5 P q36 888 q162 889 890 266 3 541 542 543 544 545 894 895
noncomputable def c12_547 (P : Params) : Obj := m6 P q36 q162 (M 39 0) q133 869 546
noncomputable def c12_550 (P : Params) : Obj := m4 P q87 q163 (M 39 1)
noncomputable def c12_551 (P : Params) : Obj := m12 P q87 897 q163 898 899 271 1 548 549 550 900 901
noncomputable def c12_552 (P : Params) : Obj := m6 P q87 q163 (M 39 1) q133 869 551
noncomputable def c12_553 (P : Params) : Obj := m13 P q160 903 q57 904 q161 905
noncomputable def c12_554 (P : Params) : Obj := (Obj.mk y3 none (Data.dict (A [(de P q17 883 (vs q133 869)), (de P q19 887 (vi 264 886)), (de P q36 896 (vr 547)), (de P q87 902 (vr 552)), (de P q20 906 (vr 553)), (de P q68 908 (vr 556)), (de P q21 910 (vr 557)), (de P q5 911 vn)]) 4) E)
noncomputable def c12_555 (P : Params) : Obj := (Obj.mk y9 none (Data.cls (ClassData.mk q150 [y12] [(vr 555), y12] 554 q150 Bool.true [] [] Bool.false none Bool.false)) (A [none, none, (some (vs q150 876)), (some (vs q150 884)), (some y18), (some vT)]))
noncomputable def c12_556 (P : Params) : Obj := m15 P 907 555
noncomputable def c12_557 (P : Params) : Obj := m7 P 909 555
noncomputable def c12_558 (P : Params) : Obj := m8 P 555
noncomputable def c12_559 (P : Params) : Obj := m9 P 555
noncomputable def c12_562 (P : Params) : Obj := m4 P q151 q151 (B 40)
noncomputable def c12_563 (P : Params) : Obj := m12 P q151 914 q151 915 916 273 1 560 561 562 917 918
noncomputable def c12_564 (P : Params) : Obj := m6 P q151 q151 (B 40) q133 869 563
noncomputable def c12_567 (P : Params) : Obj := m11 P q52 923 q42 924
noncomputable def c12_569 (P : Params) : Obj := m4 P q152 q152 (B 41)
noncomputable def c12_570 (P : Params) : Obj := m5 P q152 920 q152 921 922 281 2 565 566 567 568 569 925 926
noncomputable def c12_571 (P : Params) : Obj := m6 P q152 q152 (B 41) q133 869 570
noncomputable def c12_574 (P : Params) : Obj := m4 P q153 q153 (B 42)
noncomputable def c12_575 (P : Params) : Obj := m12 P q153 928 q153 929 930 286 1 572 573 574 931 932
noncomputable def c12_576 (P : Params) : Obj := m6 P q153 q153 (B 42) q133 869 575
noncomputable def c12_579 (P : Params) : Obj := m11 P q164 937 q16 938
noncomputable def c12_581 (P : Params) : Obj := m4 P q154 q154 (B 43)
noncomputable def c12_582 (P : Params) : Obj := m5 P q154 934 q154 935 936 288 1 577 578 579 580 581 939 940
noncomputable def c12_583 (P : Params) : Obj := m6 P q154 q154 (B 43) q133 869 582
noncomputable def c12_586 (P : Params) : Obj := m11 P q165 947 q166 948
noncomputable def c12_588 (P : Params) : Obj := m4 P q155 q155 (B 45)
noncomputable def c12_589 (P : Params) : Obj := m5 P q155 944 q155 945 946 294 2 584 585 586 587 588 949 950
noncomputable def c12_590 (P : Params) : Obj := m6 P q155 q155 (B 45) q149 942 589
noncomputable def c12_593 (P : Params) : Obj := m3 P q167 955
noncomputable def c12_595 (P : Params) : Obj := m4 P q156 q156 (B 46)
noncomputable def c12_596 (P : Params) : Obj := m5 P q156 952 q156 953 954 298 1 591 592 593 594 595 956 957
noncomputable def c12_597 (P : Params) : Obj := m6 P q156 q156 (B 46) q149 942 596
noncomputable def c12_600 (P : Params) : Obj := m13 P q168 962 q166 963 q169 964
noncomputable def c12_602 (P : Params) : Obj := m4 P q157 q157 (B 47)
noncomputable def c12_603 (P : Params) : Obj := m5 P q157 959 q157 960 961 300 2 598 599 600 601 602 965 966
noncomputable def c12_604 (P : Params) : Obj := m6 P q157 q157 (B 47) q149 942 603
noncomputable def c12_607 (P : Params) : Obj := m14 P q168 971 q166 972 q169 973 q170 974
noncomputable def c12_609 (P : Params) : Obj := m4 P q158 q158 (B 48)
noncomputable def c12_610 (P : Params) : Obj := m5 P q158 968 q158 969 970 303 2 605 606 607 608 609 975 976
noncomputable def c12_611 (P : Params) : Obj := m6 P q158 q158 (B 48) q149 942 610
noncomputable def c12_614 (P : Params) : Obj := m11 P q168 981 q166 982
noncomputable def c12_616 (P : Params) : Obj := m4 P q159 q159 (B 49)
noncomputable def c12_617 (P : Params) : Obj := m5 P q159 978 q159 979 980 314 2 612 613 614 615 616 983 984
noncomputable def c12_618 (P : Params) : Obj := m6 P q159 q159 (B 49) q149 942 617
noncomputable def u125 (P : Params) : BT := (nd (c3_191 P) (nd (a11 P) (l1 (c12_575 P)) .nil) (l1 (c10_447 P)))
noncomputable def u126 (P : Params) : BT := (nd (c2_95 P) (nd (c3_159 P) (nd (c6_287 P) (l1 (c12_543 P)) .nil) (l1 (c9_415 P))) (nd (c4_223 P) (nd (c8_351 P) (l1 (c12_607 P)) .nil) (l1 (a11 P))))
noncomputable def u127 (P : Params) : BT := (nd (a12 P) (u105 P) (nd (c3_207 P) (nd (c7_335 P) (l1 (a11 P)) .nil) (l1 (c10_463 P))))
noncomputable def u128 (P : Params) : BT := (nd (a11 P) (nd (c0_23 P) (l1 (c12_559 P)) .nil) (l1 (c9_431 P)))
noncomputable def u129 (P : Params) : BT := (nd (a11 P) (nd (c7_327 P) (l1 (c12_583 P)) .nil) (l1 (c10_455 P)))
noncomputable def u130 (P : Params) : BT := (nd (c2_103 P) (nd (c3_167 P) (nd (c6_295 P) (l1 (c12_551 P)) .nil) (l1 (c9_423 P))) (nd (c4_231 P) (nd (a11 P) (l1 (a11 P)) .nil) (l1 (c11_487 P))))
noncomputable def u131 (P : Params) : BT := (nd (c1_87 P) (nd (c2_151 P) (nd (a11 P) (l1 (c0_23 P)) .nil) (l1 (c9_407 P))) (nd (c4_215 P) (nd (c7_343 P) (l1 (a12 P)) .nil) (l1 (c11_471 P))))
noncomputable def u132 (P : Params) : BT := (nd (a12 P) (nd (c7_311 P) (l1 (c12_567 P)) .nil) (l1 (a11 P)))
noncomputable def u133 (P : Params) : BT := (nd (c3_195 P) (nd (a11 P) (l1 (c12_579 P)) .nil) (l1 (a12 P)))
noncomputable def u134 (P : Params) : BT := (nd (c2_99 P) (nd (c3_163 P) (nd (a12 P) (l1 (c12_547 P)) .nil) (l1 (c9_419 P))) (nd (a11 P) (nd (c8_355 P) (l1 (c12_611 P)) .nil) (l1 (a11 P))))
noncomputable def u135 (P : Params) : BT := (nd (a11 P) (u108 P) (nd (c0_23 P) (nd (c7_339 P) (l1 (c12_595 P)) .nil) (l1 (c10_467 P))))
noncomputable def u136 (P : Params) : BT := (nd (c3_179 P) (nd (c7_307 P) (l1 (c12_563 P)) .nil) (l1 (c9_435 P)))
noncomputable def u137 (P : Params) : BT := (nd (a11 P) (nd (c6_299 P) (l1 (c12_555 P)) .nil) (l1 (a11 P)))
noncomputable def u138 (P : Params) : BT := (nd (c0_23 P) (nd (c0_23 P) (nd (a11 P) (l1 (c12_539 P)) .nil) (l1 (a12 P))) (nd (c4_219 P) (nd (c7_347 P) (l1 (c12_603 P)) .nil) (l1 (c11_475 P))))
noncomputable def u139 (P : Params) : BT := (nd (c3_187 P) (nd (c7_315 P) (l1 (c12_571 P)) .nil) (l1 (a11 P)))
noncomputable def u140 (P : Params) : BT := (nd (c3_193 P) (nd (c7_321 P) (l1 (a11 P)) .nil) (l1 (c10_449 P)))
noncomputable def u141 (P : Params) : BT := (nd (a11 P) (nd (a11 P) (nd (c6_289 P) (l1 (c12_545 P)) .nil) (l1 (a11 P))) (nd (a12 P) (nd (c8_353 P) (l1 (c12_609 P)) .nil) (l1 (c11_481 P))))
noncomputable def u142 (P : Params) : BT := (nd (c1_81 P) (u111 P) (nd (c3_209 P) (nd (a11 P) (l1 (c12_593 P)) .nil) (l1 (c10_465 P))))
noncomputable def u143 (P : Params) : BT := (nd (c3_177 P) (nd (a11 P) (l1 (a12 P)) .nil) (l1 (c9_433 P)))
noncomputable def u144 (P : Params) : BT := (nd (c3_201 P) (nd (c7_329 P) (l1 (a12 P)) .nil) (l1 (a11 P)))
noncomputable def u145 (P : Params) : BT := (nd (a12 P) (nd (a12 P) (nd (a11 P) (l1 (c12_553 P)) .nil) (l1 (a12 P))) (nd (c9_233 P) (nd (c8_361 P) (l1 (c12_617 P)) .nil) (l1 (c11_489 P))))
noncomputable def u146 (P : Params) : BT := (nd (c1_89 P) (nd (c3_153 P) (nd (c6_281 P) (l1 (a11 P)) .nil) (l1 (c9_409 P))) (nd (a11 P) (nd (c7_345 P) (l1 (a11 P)) .nil) (l1 (c11_473 P))))
noncomputable def u147 (P : Params) : BT := (nd (a11 P) (nd (c7_313 P) (l1 (c12_569 P)) .nil) (l1 (c10_441 P)))
noncomputable def u148 (P : Params) : BT := (nd (a12 P) (nd (c7_325 P) (l1 (c12_581 P)) .nil) (l1 (a11 P)))
noncomputable def u149 (P : Params) : BT := (nd (c2_101 P) (nd (c3_165 P) (nd (a11 P) (l1 (a12 P)) .nil) (l1 (c9_421 P))) (nd (c4_229 P) (nd (a12 P) (l1 (a12 P)) .nil) (l1 (c11_485 P))))
noncomputable def u150 (P : Params) : BT := (nd (c1_85 P) (u114 P) (nd (a11 P) (nd (c7_341 P) (l1 (c12_597 P)) .nil) (l1 (c4_210 P))))
noncomputable def u151 (P : Params) : BT := (nd (c3_181 P) (nd (a11 P) (l1 (a11 P)) .nil) (l1 (c0_23 P)))
noncomputable def u152 (P : Params) : BT := (nd (c11_205 P) (nd (a11 P) (l1 (c12_589 P)) .nil) (l1 (c10_461 P)))
noncomputable def u153 (P : Params) : BT := (nd (c3_173 P) (nd (c6_301 P) (l1 (c12_557 P)) .nil) (l1 (c9_429 P)))
noncomputable def u154 (P : Params) : BT := (nd (a11 P) (nd (a11 P) (nd (c6_285 P) (l1 (a11 P)) .nil) (l1 (a11 P))) (nd (c4_221 P) (nd (c5_236 P) (l1 (a11 P)) .nil) (l1 (a12 P))))
noncomputable def u155 (P : Params) : BT := (nd (a11 P) (nd (c7_320 P) (l1 (c12_576 P)) .nil) (l1 (c10_448 P)))
noncomputable def u156 (P : Params) : BT := (nd (c2_96 P) (nd (c3_160 P) (nd (c6_288 P) (l1 (a11 P)) .nil) (l1 (c9_416 P))) (nd (a11 P) (nd (a11 P) (l1 (a11 P)) .nil) (l1 (c11_480 P))))
noncomputable def u157 (P : Params) : BT := (nd (c1_80 P) (u116 P) (nd (c3_208 P) (nd (c7_336 P) (l1 (a12 P)) .nil) (l1 (c10_464 P))))
noncomputable def u158 (P : Params) : BT := (nd (a12 P) (nd (c7_304 P) (l1 (a11 P)) .nil) (l1 (c9_432 P)))
noncomputable def u159 (P : Params) : BT := (nd (c3_200 P) (nd (c7_328 P) (l1 (a11 P)) .nil) (l1 (c10_456 P)))
noncomputable def u160 (P : Params) : BT := (nd (a11 P) (nd (a11 P) (nd (c6_296 P) (l1 (c12_552 P)) .nil) (l1 (a11 P))) (nd (c4_232 P) (nd (c8_360 P) (l1 (c12_616 P)) .nil) (l1 (c11_488 P))))
noncomputable def u161 (P : Params) : BT := (nd (c1_88 P) (nd (c2_152 P) (nd (c6_280 P) (l1 (c12_536 P)) .nil) (l1 (c9_408 P))) (nd (c4_216 P) (nd (c7_344 P) (l1 (c12_600 P)) .nil) (l1 (a11 P))))
noncomputable def u162 (P : Params) : BT := (nd (c3_184 P) (nd (a11 P) (l1 (a11 P)) .nil) (l1 (c10_440 P)))
noncomputable def u163 (P : Params) : BT := (nd (a11 P) (nd (a11 P) (nd (c6_292 P) (l1 (a11 P)) .nil) (l1 (a11 P))) (nd (c4_228 P) (nd (a11 P) (l1 (a11 P)) .nil) (l1 (a12 P))))
noncomputable def u164 (P : Params) : BT := (nd (a12 P) (u118 P) (nd (c4_212 P) (nd (a11 P) (l1 (c12_596 P)) .nil) (l1 (c10_468 P))))
noncomputable def u165 (P : Params) : BT := (nd (c3_180 P) (nd (c7_308 P) (l1 (c12_564 P)) .nil) (l1 (c4_210 P)))
noncomputable def u166 (P : Params) : BT := (nd (c3_204 P) (nd (c7_332 P) (l1 (c12_588 P)) .nil) (l1 (a11 P)))
noncomputable def u167 (P : Params) : BT := (nd (c3_172 P) (nd (c6_300 P) (l1 (c12_556 P)) .nil) (l1 (c9_428 P)))
noncomputable def u168 (P : Params) : BT := (nd (c2_92 P) (nd (c3_156 P) (nd (a12 P) (l1 (c12_540 P)) .nil) (l1 (c9_412 P))) (nd (a11 P) (nd (c7_348 P) (l1 (c12_604 P)) .nil) (l1 (a11 P))))
noncomputable def u169 (P : Params) : BT := (nd (c3_194 P) (nd (c7_322 P) (l1 (a12 P)) .nil) (l1 (a11 P)))
noncomputable def u170 (P : Params) : BT := (nd (a12 P) (nd (a12 P) (nd (a11 P) (l1 (c12_546 P)) .nil) (l1 (a12 P))) (nd (c4_226 P) (nd (c8_354 P) (l1 (c12_610 P)) .nil) (l1 (c11_482 P))))
noncomputable def u171 (P : Params) : BT := (nd (c1_82 P) (u121 P) (nd (c4_210 P) (nd (a12 P) (l1 (a11 P)) .nil) (l1 (c10_466 P))))
noncomputable def u172 (P : Params) : BT := (nd (a11 P) (nd (c7_306 P) (l1 (c12_562 P)) .nil) (l1 (c9_434 P)))
noncomputable def u173 (P : Params) : BT := (nd (c3_202 P) (nd (a11 P) (l1 (c12_586 P)) .nil) (l1 (a12 P)))
noncomputable def u174 (P : Params) : BT := (nd (c2_106 P) (nd (c3_170 P) (nd (c6_298 P) (l1 (c12_554 P)) .nil) (l1 (c9_426 P))) (nd (c4_234 P) (nd (c8_362 P) (l1 (c12_618 P)) .nil) (l1 (a11 P))))
noncomputable def u175 (P : Params) : BT := (nd (a11 P) (nd (a11 P) (nd (c6_282 P) (l1 (c12_538 P)) .nil) (l1 (a11 P))) (nd (a12 P) (nd (c7_346 P) (l1 (c12_602 P)) .nil) (l1 (c11_474 P))))
noncomputable def u176 (P : Params) : BT := (nd (c3_186 P) (nd (c7_314 P) (l1 (c12_570 P)) .nil) (l1 (c10_442 P)))
noncomputable def u177 (P : Params) : BT := (nd (c3_198 P) (nd (a11 P) (l1 (c12_582 P)) .nil) (l1 (c10_454 P)))
noncomputable def u178 (P : Params) : BT := (nd (c2_102 P) (nd (c3_166 P) (nd (c6_294 P) (l1 (c12_550 P)) .nil) (l1 (c9_422 P))) (nd (c4_230 P) (nd (c8_358 P) (l1 (c12_614 P)) .nil) (l1 (a11 P))))
noncomputable def u179 (P : Params) : BT := (nd (a11 P) (nd (c2_150 P) (nd (c6_278 P) (l1 (a11 P)) .nil) (l1 (a11 P))) (nd (c4_214 P) (nd (c7_342 P) (l1 (a11 P)) .nil) (l1 (c0_23 P))))
noncomputable def u180 (P : Params) : BT := (nd (c3_206 P) (nd (c7_334 P) (l1 (c12_590 P)) .nil) (l1 (c10_462 P)))
noncomputable def u181 (P : Params) : BT := (nd (c3_174 P) (nd (c4_210 P) (l1 (c12_558 P)) .nil) (l1 (c9_430 P)))
noncomputable def u182 (P : Params) : BT := (nd (c2_94 P) (nd (c3_158 P) (nd (a11 P) (l1 (a12 P)) .nil) (l1 (c9_414 P))) (nd (c4_222 P) (nd (c0_23 P) (l1 (a12 P)) .nil) (l1 (c11_478 P))))
noncomputable def u183 (P : Params) : BT := (nd (a12 P) (nd (c7_318 P) (l1 (c12_574 P)) .nil) (l1 (a11 P)))
noncomputable def tc12_ (P : Params) : BT := (nd (boot_o_0 P) (nd (boot_o_1 P) (nd (c12_3 P) (nd (boot_o_7 P) (nd (a11 P) (nd (c1_31 P) (nd (c1_63 P) (u104 P) (u125 P)) (u126 P)) (nd (c0_35 P) (u127 P) (nd (a11 P) (u128 P) (nd (a11 P) (l1 (c8_367 P)) (l1 (c11_495 P)))))) (nd (c0_23 P) (nd (a12 P) (nd (c1_71 P) (u106 P) (u129 P)) (u130 P)) (nd (a12 P) (u131 P) (nd (a12 P) (u132 P) (nd (c5_247 P) (l1 (c8_375 P)) (l1 (a12 P))))))) (nd (a11 P) (nd (c0_19 P) (nd (c0_35 P) (nd (a12 P) (u107 P) (u133 P)) (u134 P)) (nd (c1_51 P) (u135 P) (nd (c2_115 P) (u136 P) (nd (a11 P) (l1 (a12 P)) (l1 (c11_499 P)))))) (nd (c0_27 P) (nd (c0_43 P) (nd (c1_75 P) (u109 P) (nd (a11 P) (nd (a12 P) (l1 (a11 P)) .nil) (l1 (c10_459 P)))) (nd (a11 P) (u137 P) (nd (c4_235 P) (l1 (a11 P)) (l1 (a12 P))))) (nd (c1_59 P) (u138 P) (nd (c2_123 P) (u139 P) (nd (a12 P) (l1 (c8_379 P)) (l1 (a11 P)))))))) (nd (boot_o_5 P) (nd (boot_o_9 P) (nd (c0_17 P) (nd (c0_33 P) (nd (c1_65 P) (u110 P) (u140 P)) (u141 P)) (nd (c1_49 P) (u142 P) (nd (c2_113 P) (u143 P) (nd (c5_241 P) (l1 (c8_369 P)) (l1 (c11_497 P)))))) (nd (a11 P) (nd (c0_41 P) (nd (a11 P) (u112 P) (u144 P)) (u145 P)) (nd (a11 P) (u146 P) (nd (a11 P) (u147 P) (nd (c5_249 P) (l1 (a11 P)) (l1 (c11_505 P))))))) (nd (a13 P) (nd (c0_21 P) (nd (c0_37 P) (nd (a11 P) (u113 P) (u148 P)) (u149 P)) (nd (c1_53 P) (u150 P) (nd (c2_117 P) (u151 P) (nd (c5_245 P) (l1 (a11 P)) (l1 (c11_501 P)))))) (nd (a11 P) (nd (c0_45 P) (nd (c1_77 P) (u115 P) (u152 P)) (nd (c2_109 P) (u153 P) (nd (c0_23 P) (l1 (c8_365 P)) (l1 (a11 P))))) (nd (c1_61 P) (u154 P) (nd (a11 P) (nd (a11 P) (nd (a12 P) (l1 (a12 P)) .nil) (l1 (c10_445 P))) (nd (a11 P) (l1 (c8_381 P)) (l1 (c11_509 P))))))))) (nd (boot_o_2 P) (nd (boot_o_4 P) (nd (boot_o_8 P) (nd (a12 P) (nd (c0_32 P) (nd (c1_64 P) (nd (a11 P) (nd (c5_256 P) (l1 (a11 P)) .nil) (l1 (a11 P))) (u155 P)) (u156 P)) (nd (c0_23 P) (u157 P) (nd (a12 P) (u158 P) (nd (c5_240 P) (l1 (c8_368 P)) (l1 (c11_496 P)))))) (nd (c0_24 P) (nd (c0_40 P) (nd (c1_72 P) (nd (c2_136 P) (nd (a11 P) (l1 (a12 P)) .nil) (l1 (a11 P))) (u159 P)) (u160 P)) (nd (c1_56 P) (u161 P) (nd (c2_120 P) (u162 P) (nd (c5_248 P) (l1 (c8_376 P)) (l1 (c11_504 P))))))) (nd (c12_12 P) (nd (c0_20 P) (nd (c0_23 P) (nd (c1_68 P) (u117 P) (nd (a11 P) (nd (a12 P) (l1 (a11 P)) .nil) (l1 (c10_452 P)))) (u163 P)) (nd (c1_52 P) (u164 P) (nd (c2_116 P) (u165 P) (nd (a12 P) (l1 (c8_372 P)) (l1 (c11_500 P)))))) (nd (c0_28 P) (nd (c0_44 P) (nd (c1_76 P) (u119 P) (u166 P)) (nd (c2_108 P) (u167 P) (nd (c5_236 P) (l1 (a12 P)) (l1 (c11_492 P))))) (nd (c1_60 P) (u168 P) (nd (c2_124 P) (nd (c3_188 P) (nd (a11 P) (l1 (a11 P)) .nil) (l1 (a12 P))) (nd (c5_252 P) (l1 (a11 P)) (l1 (a12 P)))))))) (nd (boot_o_6 P) (nd (boot_o_10 P) (nd (a11 P) (nd (c0_34 P) (nd (a11 P) (u120 P) (u169 P)) (u170 P)) (nd (a11 P) (u171 P) (nd (a11 P) (u172 P) (nd (c5_242 P) (l1 (a11 P)) (l1 (c11_498 P)))))) (nd (a12 P) (nd (a11 P) (nd (a12 P) (u122 P) (u173 P)) (u174 P)) (nd (c1_58 P) (u175 P) (nd (c2_122 P) (u176 P) (nd (a11 P) (l1 (a12 P)) (l1 (c11_506 P))))))) (nd (a14 P) (nd (c0_22 P) (nd (a11 P) (nd (c1_70 P) (u123 P) (u177 P)) (u178 P)) (nd (a11 P) (u179 P) (nd (a11 P) (nd (a11 P) (nd (a12 P) (l1 (a12 P)) .nil) (l1 (c10_438 P))) (nd (a11 P) (l1 (c8_374 P)) (l1 (a11 P)))))) (nd (c0_30 P) (nd (c0_46 P) (nd (a11 P) (u124 P) (u180 P)) (nd (c2_110 P) (u181 P) (nd (c5_238 P) (l1 (a11 P)) (l1 (c11_494 P))))) (nd (c1_62 P) (u182 P) (nd (a12 P) (u183 P) (nd (c5_254 P) (l1 (c8_382 P)) (l1 (c11_510 P))))))))))
noncomputable def sc12_ (w : World) (os : OsState) : SharedT := SharedT.mk (tc12_ w.params) 619 (@Life.mk [] [] [] 0 [] [] Bool.false E [] 0 Bool.false Bool.false Bool.false 0 [2000, 10, 10] Bool.false 0 Bool.true [] [] 0 Bool.false) E (@Drawn.mk 0 0 0 0) 986 os
noncomputable def c13_3 (P : Params) : Obj := (Obj.mk y3 none (Data.dict (A [(de P q3 165 (vs q149 942)), (de P q5 166 vn), (de P q6 167 vn), (de P q7 168 y4), (de P q8 169 vn), (de P q9 170 (vr 6)), (de P q10 171 (vr 4)), (de P q11 173 (vs q1 172)), (de P q12 174 vn), (de P q13 193 (vr 21)), (de P q14 213 (vr 31)), (de P q15 229 (vr 44)), (de P q23 254 (vr 63)), (de P q24 258 (vi 400 257)), (de P q25 260 (vi 2000 259)), (de P q26 262 (vi 2000 261)), (de P q27 264 (vi 8 263)), (de P q28 266 (vi 100000 265)), (de P q29 268 (vi 32 267)), (de P q30 270 (vi 37 269)), (de P q31 272 (vi 126 271)), (de P q32 279 (vr 72)), (de P q33 285 (vr 77)), (de P q34 291 (vr 82)), (de P q35 299 (vr 89)), (de P q44 382 (vr 148)), (de P q45 386 (vi 40 385)), (de P q69 408 (vr 153)), (de P q70 473 (vr 205)), (de P q96 507 (vr 233)), (de P q101 546 (vr 266)), (de P q105 585 (vr 299)), (de P q109 644 (vr 346)), (de P q117 690 (vr 386)), (de P q122 748 (vr 433)), (de P q129 789 (vr 466)), (de P q134 830 (vr 499)), (de P q135 836 (vr 506)), (de P q136 842 (vr 511)), (de P q50 851 (vr 518)), (de P q137 859 (vr 525)), (de P q138 868 (vr 532)), (de P q139 873 (vr 533)), (de P q140 875 (vi 12 874)), (de P q150 913 (vr 555)), (de P q151 919 (vr 564)), (de P q152 927 (vr 571)), (de P q153 933 (vr 576)), (de P q154 941 (vr 583)), (de P q155 951 (vr 590)), (de P q156 958 (vr 597)), (de P q157 967 (vr 604)), (de P q158 977 (vr 611)), (de P q159 985 (vr 618)), (de P q171 996 (vr 625)), (de P q172 1002 (vr 630)), (de P q173 1011 (vr 637)), (de P q174 1019 (vr 644)), (de P q175 1025 (vr 649)), (de P q176 1031 (vr 654))]) 60) E)
noncomputable def c13_12 (P : Params) : Obj := (Obj.mk vn none (Data.fields (A [(vi 1 0), (vi 0 0), (vr 20), (vi 5 0), (vi 0 0), (vr 27), (vi 7 0), (vi 0 0), (vr 40), (vi 9 0), (vi 0 0), (vr 52), (vi 22 0), (vi 0 0), (vr 71), (vi 24 0), (vi 0 0), (vr 76), (vi 30 0), (vi 0 0), (vr 81), (vi 40 0), (vi 0 0), (vr 88), (vi 43 0), (vi 0 0), (vr 95), (vi 110 0), (vi 0 0), (vr 159), (vi 129 0), (vi 0 0), (vr 215), (vi 137 0), (vi 0 0), (vr 241), (vi 147 0), (vi 0 0), (vr 274), (vi 157 0), (vi 0 0), (vr 307), (vi 175 0), (vi 0 0), (vr 354), (vi 188 0), (vi 0 0), (vr 394), (vi 205 0), (vi 0 0), (vr 441), (vi 215 0), (vi 0 0), (vr 474), (vi 225 0), (vi 0 0), (vr 505), (vi 227 0), (vi 0 0), (vr 510), (vi 233 0), (vi 0 0), (vr 517), (vi 243 0), (vi 0 0), (vr 524), (vi 257 0), (vi 0 0), (vr 531), (vi 264 0), (vi 0 0), (vr 539), (vi 273 0), (vi 0 0), (vr 563), (vi 281 0), (vi 0 0), (vr 570), (vi 286 0), (vi 0 0), (vr 575), (vi 288 0), (vi 0 0), (vr 582), (vi 294 0), (vi 0 0), (vr 589), (vi 298 0), (vi 0 0), (vr 596), (vi 300 0), (vi 0 0), (vr 603), (vi 303 0), (vi 0 0), (vr 610), (vi 314 0), (vi 0 0), (vr 617), (vi 318 0), (vi 0 0), (vr 624), (vi 330 0), (vi 0 0), (vr 629), (vi 332 0), (vi 0 0), (vr 636), (vi 338 0), (vi 0 0), (vr 643), (vi 343 0), (vi 0 0), (vr 648), (vi 357 0), (vi 0 0), (vr 653)])) E)
noncomputable def c13_621 (P : Params) : Obj := (Obj.mk y0 none (Data.seq (A [(vs q168 989), (vs q177 990), (vs q178 991), (vs q179 992), (vs q180 993)]) 0) E)
noncomputable def c13_623 (P : Params) : Obj := m4 P q171 q171 (B 50)
noncomputable def c13_624 (P : Params) : Obj := m5 P q171 986 q171 987 988 318 1 619 620 621 622 623 994 995
noncomputable def c13_625 (P : Params) : Obj := m6 P q171 q171 (B 50) q149 942 624
noncomputable def c13_628 (P : Params) : Obj := m4 P q172 q172 (B 51)
noncomputable def c13_629 (P : Params) : Obj := m12 P q172 997 q172 998 999 330 1 626 627 628 1000 1001
noncomputable def c13_630 (P : Params) : Obj := m6 P q172 q172 (B 51) q149 942 629
noncomputable def c13_633 (P : Params) : Obj := m13 P q181 1006 q182 1007 q183 1008
noncomputable def c13_635 (P : Params) : Obj := m4 P q173 q173 (B 52)
noncomputable def c13_636 (P : Params) : Obj := m5 P q173 1003 q173 1004 1005 332 1 631 632 633 634 635 1009 1010
noncomputable def c13_637 (P : Params) : Obj := m6 P q173 q173 (B 52) q149 942 636
noncomputable def c13_640 (P : Params) : Obj := m11 P q181 1015 q166 1016
noncomputable def c13_642 (P : Params) : Obj := m4 P q174 q174 (B 53)
noncomputable def c13_643 (P : Params) : Obj := m5 P q174 1012 q174 1013 1014 338 1 638 639 640 641 642 1017 1018
noncomputable def c13_644 (P : Params) : Obj := m6 P q174 q174 (B 53) q149 942 643
noncomputable def c13_647 (P : Params) : Obj := m4 P q175 q175 (B 54)
noncomputable def c13_648 (P : Params) : Obj := m12 P q175 1020 q175 1021 1022 343 3 645 646 647 1023 1024
noncomputable def c13_649 (P : Params) : Obj := m6 P q175 q175 (B 54) q149 942 648
noncomputable def c13_652 (P : Params) : Obj := m4 P q176 q176 (B 55)
noncomputable def c13_653 (P : Params) : Obj := m12 P q176 1026 q176 1027 1028 357 1 650 651 652 1029 1030
noncomputable def c13_654 (P : Params) : Obj := m6 P q176 q176 (B 55) q149 942 653
noncomputable def u184 (P : Params) : BT := (nd (boot_o_0 P) (nd (boot_o_1 P) (nd (c13_3 P) (nd (boot_o_7 P) (nd (a11 P) (nd (c1_31 P) (nd (c1_63 P) (nd (c2_127 P) (nd (c5_255 P) (l1 (c11_511 P)) .nil) (nd (c8_383 P) (l1 (a12 P)) .nil)) (u125 P)) (u126 P)) (nd (c0_35 P) (u127 P) (nd (a11 P) (u128 P) (nd (a11 P) (nd (c8_367 P) (l1 (c13_623 P)) .nil) (l1 (c11_495 P)))))) (nd (c0_23 P) (nd (a12 P) (nd (c1_71 P) (nd (a11 P) (nd (c5_263 P) (l1 (a11 P)) .nil) (nd (c9_391 P) (l1 (c13_647 P)) .nil)) (u129 P)) (u130 P)) (nd (a12 P) (u131 P) (nd (a12 P) (u132 P) (nd (c5_247 P) (nd (c8_375 P) (l1 (a11 P)) .nil) (l1 (a12 P))))))) (nd (a11 P) (nd (c0_19 P) (nd (c0_35 P) (nd (a12 P) (nd (c2_131 P) (nd (c5_259 P) (l1 (a11 P)) .nil) (nd (c8_387 P) (l1 (c13_643 P)) .nil)) (u133 P)) (u134 P)) (nd (c1_51 P) (u135 P) (nd (c2_115 P) (u136 P) (nd (a11 P) (nd (a12 P) (l1 (a12 P)) .nil) (l1 (c11_499 P)))))) (nd (c0_27 P) (nd (c0_43 P) (nd (c1_75 P) (nd (a11 P) (nd (c5_267 P) (l1 (c11_523 P)) .nil) (nd (c9_395 P) (l1 (a12 P)) .nil)) (nd (a11 P) (nd (a12 P) (l1 (a11 P)) .nil) (l1 (c10_459 P)))) (nd (a11 P) (u137 P) (nd (c4_235 P) (nd (a11 P) (l1 (a11 P)) .nil) (l1 (a12 P))))) (nd (c1_59 P) (u138 P) (nd (c2_123 P) (u139 P) (nd (a12 P) (nd (c8_379 P) (l1 (c13_635 P)) .nil) (l1 (a11 P)))))))) (nd (boot_o_5 P) (nd (boot_o_9 P) (nd (c0_17 P) (nd (c0_33 P) (nd (c1_65 P) (nd (c2_129 P) (nd (a11 P) (l1 (a12 P)) .nil) (nd (c8_385 P) (l1 (a11 P)) .nil)) (u140 P)) (u141 P)) (nd (c1_49 P) (u142 P) (nd (c2_113 P) (u143 P) (nd (c5_241 P) (nd (c8_369 P) (l1 (c13_625 P)) .nil) (l1 (c11_497 P)))))) (nd (a11 P) (nd (c0_41 P) (nd (a11 P) (nd (c2_137 P) (nd (c5_265 P) (l1 (c11_521 P)) .nil) (nd (c9_393 P) (l1 (c13_649 P)) .nil)) (u144 P)) (u145 P)) (nd (a11 P) (u146 P) (nd (a11 P) (u147 P) (nd (c5_249 P) (nd (a11 P) (l1 (c13_633 P)) .nil) (l1 (c11_505 P))))))) (nd (a13 P) (nd (c0_21 P) (nd (c0_37 P) (nd (a11 P) (nd (a12 P) (nd (c5_261 P) (l1 (c11_517 P)) .nil) (nd (c5_236 P) (l1 (a11 P)) .nil)) (u148 P)) (u149 P)) (nd (c1_53 P) (u150 P) (nd (c2_117 P) (u151 P) (nd (c5_245 P) (nd (a11 P) (l1 (c13_629 P)) .nil) (l1 (c11_501 P)))))) (nd (a11 P) (nd (c0_45 P) (nd (c1_77 P) (nd (c2_141 P) (nd (c5_236 P) (l1 (c11_525 P)) .nil) (nd (a12 P) (l1 (c13_653 P)) .nil)) (u152 P)) (nd (c2_109 P) (u153 P) (nd (c0_23 P) (nd (c8_365 P) (l1 (c13_621 P)) .nil) (l1 (a11 P))))) (nd (c1_61 P) (u154 P) (nd (a11 P) (nd (a11 P) (nd (a12 P) (l1 (a12 P)) .nil) (l1 (c10_445 P))) (nd (a11 P) (nd (c8_381 P) (l1 (c13_637 P)) .nil) (l1 (c11_509 P))))))))) (nd (boot_o_2 P) (nd (boot_o_4 P) (nd (boot_o_8 P) (nd (a12 P) (nd (c0_32 P) (nd (c1_64 P) (nd (a11 P) (nd (c5_256 P) (l1 (a11 P)) .nil) (nd (a11 P) (l1 (c13_640 P)) .nil)) (u155 P)) (u156 P)) (nd (c0_23 P) (u157 P) (nd (a12 P) (u158 P) (nd (c5_240 P) (nd (c8_368 P) (l1 (c13_624 P)) .nil) (l1 (c11_496 P)))))) (nd (c0_24 P) (nd (c0_40 P) (nd (c1_72 P) (nd (c2_136 P) (nd (a11 P) (l1 (a12 P)) .nil) (nd (a11 P) (l1 (c13_648 P)) .nil)) (u159 P)) (u160 P)) (nd (c1_56 P) (u161 P) (nd (c2_120 P) (u162 P) (nd (c5_248 P) (nd (c8_376 P) (l1 (a12 P)) .nil) (l1 (c11_504 P))))))) (nd (c13_12 P) (nd (c0_20 P) (nd (c0_23 P) (nd (c1_68 P) (nd (a11 P) (nd (a11 P) (l1 (c11_516 P)) .nil) (nd (c8_388 P) (l1 (c13_644 P)) .nil)) (nd (a11 P) (nd (a12 P) (l1 (a11 P)) .nil) (l1 (c10_452 P)))) (u163 P)) (nd (c1_52 P) (u164 P) (nd (c2_116 P) (u165 P) (nd (a12 P) (nd (c8_372 P) (l1 (c13_628 P)) .nil) (l1 (c11_500 P)))))) (nd (c0_28 P) (nd (c0_44 P) (nd (c1_76 P) (nd (a12 P) (nd (c5_268 P) (l1 (c11_524 P)) .nil) (nd (a11 P) (l1 (c13_652 P)) .nil)) (u166 P)) (nd (c2_108 P) (u167 P) (nd (c5_236 P) (nd (a12 P) (l1 (a12 P)) .nil) (l1 (c11_492 P))))) (nd (c1_60 P) (u168 P) (nd (c2_124 P) (nd (c3_188 P) (nd (a11 P) (l1 (a11 P)) .nil) (l1 (a12 P))) (nd (c5_252 P) (nd (a11 P) (l1 (c13_636 P)) .nil) (l1 (a12 P)))))))) (nd (boot_o_6 P) (nd (boot_o_10 P) (nd (a11 P) (nd (c0_34 P) (nd (a11 P) (nd (c2_130 P) (nd (a12 P) (l1 (c11_514 P)) .nil) (nd (c8_386 P) (l1 (c13_642 P)) .nil)) (u169 P)) (u170 P)) (nd (a11 P) (u171 P) (nd (a11 P) (u172 P) (nd (c5_242 P) (nd (a11 P) (l1 (a11 P)) .nil) (l1 (c11_498 P)))))) (nd (a12 P) (nd (a11 P) (nd (a12 P) (nd (c2_138 P) (nd (c5_266 P) (l1 (a11 P)) .nil) (nd (c9_394 P) (l1 (a11 P)) .nil)) (u173 P)) (u174 P)) (nd (c1_58 P) (u175 P) (nd (c2_122 P) (u176 P) (nd (a11 P) (nd (a12 P) (l1 (a11 P)) .nil) (l1 (c11_506 P))))))) (nd (a14 P) (nd (c0_22 P) (nd (a11 P) (nd (c1_70 P) (nd (c2_134 P) (nd (c5_262 P) (l1 (c11_518 P)) .nil) (nd (c0_23 P) (l1 (a12 P)) .nil)) (u177 P)) (u178 P)) (nd (a11 P) (u179 P) (nd (a11 P) (nd (a11 P) (nd (a12 P) (l1 (a12 P)) .nil) (l1 (c10_438 P))) (nd (a11 P) (nd (c8_374 P) (l1 (c13_630 P)) .nil) (l1 (a11 P)))))) (nd (c0_30 P) (nd (c0_46 P) (nd (a11 P) (nd (a11 P) (nd (c0_23 P) (l1 (a11 P)) .nil) (nd (c9_398 P) (l1 (c13_654 P)) .nil)) (u180 P)) (nd (c2_110 P) (u181 P) (nd (c5_238 P) (nd (a11 P) (l1 (a11 P)) .nil) (l1 (c11_494 P))))) (nd (c1_62 P) (u182 P) (nd (a12 P) (u183 P) (nd (c5_254 P) (nd (c8_382 P) (l1 (a11 P)) .nil) (l1 (c11_510 P))))))))))
noncomputable def tc13_ (P : Params) : BT := (u184 P)
noncomputable def sc13_ (w : World) (os : OsState) : SharedT := SharedT.mk (tc13_ w.params) 655 (@Life.mk [] [] [] 0 [] [] Bool.false E [] 0 Bool.false Bool.false Bool.false 0 [2000, 10, 10] Bool.false 0 Bool.true [] [] 0 Bool.false) E (@Drawn.mk 0 0 0 0) 1032 os
noncomputable def tz (P : Params) : BT := (u184 P)
noncomputable abbrev e0 : Env := { scope := p0.main.scope, locals := mainNs, globals := mainNs, cells := [], code := (vr 13), frame := some 14 }
noncomputable abbrev en : Env := { scope := pq.main.scope, locals := mainNs, globals := mainNs, cells := [], code := (vr 13), frame := some 14 }
theorem bs : behindTheImports p0 = ((p0.main.body.drop 0).take 4 ++ ((p0.main.body.drop 4).take 14 ++ ((p0.main.body.drop 18).take 3 ++ ((p0.main.body.drop 21).take 2 ++ ((p0.main.body.drop 23).take 1 ++ ((p0.main.body.drop 24).take 1 ++ ((p0.main.body.drop 25).take 1 ++ ((p0.main.body.drop 26).take 1 ++ ((p0.main.body.drop 27).take 1 ++ ((p0.main.body.drop 28).take 1 ++ ((p0.main.body.drop 29).take 1 ++ ((p0.main.body.drop 30).take 9 ++ ((p0.main.body.drop 39).take 11 ++ ((p0.main.body.drop 50).take 6 ++ [])))))))))))))) := by kernel_rfl
theorem pre_l (w : World) (os : OsState) : topGo treeTable p0 w 11 (sr 6) 12 ⟨boot_heap w.params, Array.mk [], boot_drawn, boot_toks, os⟩ (topStub p0) = some ((sa w os).abs, ⟨denote treeTable (Code.body (behindTheImports p0) e0), Code.body (behindTheImports p0) e0, (@Pos.mk 0 0 0 0), [topFrame (@Pos.mk 0 0 0 0)]⟩) := by
  rw [PySem.W.Fast.te15667345088766844465, PySem.W.Fast.te14364793385576792824, PySem.W.Fast.te11892475500146522536, pe]
  kernel_rfl
theorem blk_l (w : World) (os : OsState) : segRun treeTable p0 w 11 (sr 6) 1 1 (sa w os).abs (blockOf (behindTheImports p0) e0 (Code.body (behindTheImports p0) e0) (@Pos.mk 0 0 0 0) [topFrame (@Pos.mk 0 0 0 0)]) = some (Flow.next, (sb w os).abs, Code.body (behindTheImports p0) e0, (@Pos.mk 0 0 0 0)) := by
  refine segRun_of ?_
  rw [PySem.W.Fast.te10110043849684766642, PySem.W.Fast.te14364793385576792824, pe]
  kernel_rfl
theorem g0 (p : Program) (b : List Stmt) : ∀ w : World, (fun os => PySem.W.Fast.tw10110043849684766642 PySem.W.Fast.tw14364793385576792824 p w 11 (sr 6) 1 438 (sb w os) (piecesOf ((pq.main.body.drop 0).take 4) en (Code.body b en) (@Pos.mk 0 0 0 0) [topFrame (@Pos.mk 0 0 0 0)])) = (fun os => some (Flow.next, sc0_ w os, Code.body b en, (@Pos.mk 7 0 8 8))) := fun w => by kernel_rfl
theorem h0 (b : List Stmt) (w : World) (os : OsState) : segRun treeTable p0 w 11 (sr 6) 1 438 (sb w os).abs (piecesOf ((p0.main.body.drop 0).take 4) e0 (Code.body b e0) (@Pos.mk 0 0 0 0) [topFrame (@Pos.mk 0 0 0 0)]) = some (Flow.next, (sc0_ w os).abs, Code.body b e0, (@Pos.mk 7 0 8 8)) := by
  refine segRun_of ?_
  rw [PySem.W.Fast.te10110043849684766642, PySem.W.Fast.te14364793385576792824, pe]
  exact congrFun (g0 pq b w) os
theorem g1 (p : Program) (b : List Stmt) : ∀ w : World, (fun os => PySem.W.Fast.tw10110043849684766642 PySem.W.Fast.tw14364793385576792824 p w 11 (sr 6) 1 438 (sc0_ w os) (piecesOf ((pq.main.body.drop 4).take 14) en (Code.body b en) (@Pos.mk 7 0 8 8) [topFrame (@Pos.mk 0 0 0 0)])) = (fun os => some (Flow.next, sc1_ w os, Code.body b en, (@Pos.mk 40 0 42 57))) := fun w => by kernel_rfl
theorem h1 (b : List Stmt) (w : World) (os : OsState) : segRun treeTable p0 w 11 (sr 6) 1 438 (sc0_ w os).abs (piecesOf ((p0.main.body.drop 4).take 14) e0 (Code.body b e0) (@Pos.mk 7 0 8 8) [topFrame (@Pos.mk 0 0 0 0)]) = some (Flow.next, (sc1_ w os).abs, Code.body b e0, (@Pos.mk 40 0 42 57)) := by
  refine segRun_of ?_
  rw [PySem.W.Fast.te10110043849684766642, PySem.W.Fast.te14364793385576792824, pe]
  exact congrFun (g1 pq b w) os
theorem g2 (p : Program) (b : List Stmt) : ∀ w : World, (fun os => PySem.W.Fast.tw10110043849684766642 PySem.W.Fast.tw14364793385576792824 p w 11 (sr 6) 1 439 (sc1_ w os) (piecesOf ((pq.main.body.drop 18).take 3) en (Code.body b en) (@Pos.mk 40 0 42 57) [topFrame (@Pos.mk 0 0 0 0)])) = (fun os => some (Flow.next, sc2_ w os, Code.body b en, (@Pos.mk 108 0 108 18))) := fun w => by kernel_rfl
theorem h2 (b : List Stmt) (w : World) (os : OsState) : segRun treeTable p0 w 11 (sr 6) 1 439 (sc1_ w os).abs (piecesOf ((p0.main.body.drop 18).take 3) e0 (Code.body b e0) (@Pos.mk 40 0 42 57) [topFrame (@Pos.mk 0 0 0 0)]) = some (Flow.next, (sc2_ w os).abs, Code.body b e0, (@Pos.mk 108 0 108 18)) := by
  refine segRun_of ?_
  rw [PySem.W.Fast.te10110043849684766642, PySem.W.Fast.te14364793385576792824, pe]
  exact congrFun (g2 pq b w) os
theorem g3 (p : Program) (b : List Stmt) : ∀ w : World, (fun os => PySem.W.Fast.tw10110043849684766642 PySem.W.Fast.tw14364793385576792824 p w 11 (sr 6) 1 494 (sc2_ w os) (piecesOf ((pq.main.body.drop 21).take 2) en (Code.body b en) (@Pos.mk 108 0 108 18) [topFrame (@Pos.mk 0 0 0 0)])) = (fun os => some (Flow.next, sc3_ w os, Code.body b en, (@Pos.mk 110 0 128 63))) := byRow2 "special-get-raises" (P := fun w => (fun os => PySem.W.Fast.tw10110043849684766642 PySem.W.Fast.tw14364793385576792824 p w 11 (sr 6) 1 494 (sc2_ w os) (piecesOf ((pq.main.body.drop 21).take 2) en (Code.body b en) (@Pos.mk 108 0 108 18) [topFrame (@Pos.mk 0 0 0 0)])) = (fun os => some (Flow.next, sc3_ w os, Code.body b en, (@Pos.mk 110 0 128 63)))) (fun w => by kernel_rfl) (fun w => by kernel_rfl)
theorem h3 (b : List Stmt) (w : World) (os : OsState) : segRun treeTable p0 w 11 (sr 6) 1 494 (sc2_ w os).abs (piecesOf ((p0.main.body.drop 21).take 2) e0 (Code.body b e0) (@Pos.mk 108 0 108 18) [topFrame (@Pos.mk 0 0 0 0)]) = some (Flow.next, (sc3_ w os).abs, Code.body b e0, (@Pos.mk 110 0 128 63)) := by
  refine segRun_of ?_
  rw [PySem.W.Fast.te10110043849684766642, PySem.W.Fast.te14364793385576792824, pe]
  exact congrFun (g3 pq b w) os
theorem g4 (p : Program) (b : List Stmt) : ∀ w : World, (fun os => PySem.W.Fast.tw10110043849684766642 PySem.W.Fast.tw14364793385576792824 p w 11 (sr 6) 1 279 (sc3_ w os) (piecesOf ((pq.main.body.drop 23).take 1) en (Code.body b en) (@Pos.mk 110 0 128 63) [topFrame (@Pos.mk 0 0 0 0)])) = (fun os => some (Flow.next, sc4_ w os, Code.body b en, (@Pos.mk 129 0 136 25))) := fun w => by kernel_rfl
theorem h4 (b : List Stmt) (w : World) (os : OsState) : segRun treeTable p0 w 11 (sr 6) 1 279 (sc3_ w os).abs (piecesOf ((p0.main.body.drop 23).take 1) e0 (Code.body b e0) (@Pos.mk 110 0 128 63) [topFrame (@Pos.mk 0 0 0 0)]) = some (Flow.next, (sc4_ w os).abs, Code.body b e0, (@Pos.mk 129 0 136 25)) := by
  refine segRun_of ?_
  rw [PySem.W.Fast.te10110043849684766642, PySem.W.Fast.te14364793385576792824, pe]
  exact congrFun (g4 pq b w) os
theorem g5 (p : Program) (b : List Stmt) : ∀ w : World, (fun os => PySem.W.Fast.tw10110043849684766642 PySem.W.Fast.tw14364793385576792824 p w 11 (sr 6) 1 322 (sc4_ w os) (piecesOf ((pq.main.body.drop 24).take 1) en (Code.body b en) (@Pos.mk 129 0 136 25) [topFrame (@Pos.mk 0 0 0 0)])) = (fun os => some (Flow.next, sc5_ w os, Code.body b en, (@Pos.mk 137 0 146 53))) := fun w => by kernel_rfl
theorem h5 (b : List Stmt) (w : World) (os : OsState) : segRun treeTable p0 w 11 (sr 6) 1 322 (sc4_ w os).abs (piecesOf ((p0.main.body.drop 24).take 1) e0 (Code.body b e0) (@Pos.mk 129 0 136 25) [topFrame (@Pos.mk 0 0 0 0)]) = some (Flow.next, (sc5_ w os).abs, Code.body b e0, (@Pos.mk 137 0 146 53)) := by
  refine segRun_of ?_
  rw [PySem.W.Fast.te10110043849684766642, PySem.W.Fast.te14364793385576792824, pe]
  exact congrFun (g5 pq b w) os
theorem g6 (p : Program) (b : List Stmt) : ∀ w : World, (fun os => PySem.W.Fast.tw10110043849684766642 PySem.W.Fast.tw14364793385576792824 p w 11 (sr 6) 1 322 (sc5_ w os) (piecesOf ((pq.main.body.drop 25).take 1) en (Code.body b en) (@Pos.mk 137 0 146 53) [topFrame (@Pos.mk 0 0 0 0)])) = (fun os => some (Flow.next, sc6_ w os, Code.body b en, (@Pos.mk 147 0 156 53))) := fun w => by kernel_rfl
theorem h6 (b : List Stmt) (w : World) (os : OsState) : segRun treeTable p0 w 11 (sr 6) 1 322 (sc5_ w os).abs (piecesOf ((p0.main.body.drop 25).take 1) e0 (Code.body b e0) (@Pos.mk 137 0 146 53) [topFrame (@Pos.mk 0 0 0 0)]) = some (Flow.next, (sc6_ w os).abs, Code.body b e0, (@Pos.mk 147 0 156 53)) := by
  refine segRun_of ?_
  rw [PySem.W.Fast.te10110043849684766642, PySem.W.Fast.te14364793385576792824, pe]
  exact congrFun (g6 pq b w) os
theorem g7 (p : Program) (b : List Stmt) : ∀ w : World, (fun os => PySem.W.Fast.tw10110043849684766642 PySem.W.Fast.tw14364793385576792824 p w 11 (sr 6) 1 376 (sc6_ w os) (piecesOf ((pq.main.body.drop 26).take 1) en (Code.body b en) (@Pos.mk 147 0 156 53) [topFrame (@Pos.mk 0 0 0 0)])) = (fun os => some (Flow.next, sc7_ w os, Code.body b en, (@Pos.mk 157 0 174 62))) := fun w => by kernel_rfl
theorem h7 (b : List Stmt) (w : World) (os : OsState) : segRun treeTable p0 w 11 (sr 6) 1 376 (sc6_ w os).abs (piecesOf ((p0.main.body.drop 26).take 1) e0 (Code.body b e0) (@Pos.mk 147 0 156 53) [topFrame (@Pos.mk 0 0 0 0)]) = some (Flow.next, (sc7_ w os).abs, Code.body b e0, (@Pos.mk 157 0 174 62)) := by
  refine segRun_of ?_
  rw [PySem.W.Fast.te10110043849684766642, PySem.W.Fast.te14364793385576792824, pe]
  exact congrFun (g7 pq b w) os
theorem g8 (p : Program) (b : List Stmt) : ∀ w : World, (fun os => PySem.W.Fast.tw10110043849684766642 PySem.W.Fast.tw14364793385576792824 p w 11 (sr 6) 1 353 (sc7_ w os) (piecesOf ((pq.main.body.drop 27).take 1) en (Code.body b en) (@Pos.mk 157 0 174 62) [topFrame (@Pos.mk 0 0 0 0)])) = (fun os => some (Flow.next, sc8_ w os, Code.body b en, (@Pos.mk 175 0 187 53))) := fun w => by kernel_rfl
theorem h8 (b : List Stmt) (w : World) (os : OsState) : segRun treeTable p0 w 11 (sr 6) 1 353 (sc7_ w os).abs (piecesOf ((p0.main.body.drop 27).take 1) e0 (Code.body b e0) (@Pos.mk 157 0 174 62) [topFrame (@Pos.mk 0 0 0 0)]) = some (Flow.next, (sc8_ w os).abs, Code.body b e0, (@Pos.mk 175 0 187 53)) := by
  refine segRun_of ?_
  rw [PySem.W.Fast.te10110043849684766642, PySem.W.Fast.te14364793385576792824, pe]
  exact congrFun (g8 pq b w) os
theorem g9 (p : Program) (b : List Stmt) : ∀ w : World, (fun os => PySem.W.Fast.tw10110043849684766642 PySem.W.Fast.tw14364793385576792824 p w 11 (sr 6) 1 389 (sc8_ w os) (piecesOf ((pq.main.body.drop 28).take 1) en (Code.body b en) (@Pos.mk 175 0 187 53) [topFrame (@Pos.mk 0 0 0 0)])) = (fun os => some (Flow.next, sc9_ w os, Code.body b en, (@Pos.mk 188 0 204 65))) := fun w => by kernel_rfl
theorem h9 (b : List Stmt) (w : World) (os : OsState) : segRun treeTable p0 w 11 (sr 6) 1 389 (sc8_ w os).abs (piecesOf ((p0.main.body.drop 28).take 1) e0 (Code.body b e0) (@Pos.mk 175 0 187 53) [topFrame (@Pos.mk 0 0 0 0)]) = some (Flow.next, (sc9_ w os).abs, Code.body b e0, (@Pos.mk 188 0 204 65)) := by
  refine segRun_of ?_
  rw [PySem.W.Fast.te10110043849684766642, PySem.W.Fast.te14364793385576792824, pe]
  exact congrFun (g9 pq b w) os
theorem g10 (p : Program) (b : List Stmt) : ∀ w : World, (fun os => PySem.W.Fast.tw10110043849684766642 PySem.W.Fast.tw14364793385576792824 p w 11 (sr 6) 1 310 (sc9_ w os) (piecesOf ((pq.main.body.drop 29).take 1) en (Code.body b en) (@Pos.mk 188 0 204 65) [topFrame (@Pos.mk 0 0 0 0)])) = (fun os => some (Flow.next, sc10_ w os, Code.body b en, (@Pos.mk 205 0 214 43))) := fun w => by kernel_rfl
theorem h10 (b : List Stmt) (w : World) (os : OsState) : segRun treeTable p0 w 11 (sr 6) 1 310 (sc9_ w os).abs (piecesOf ((p0.main.body.drop 29).take 1) e0 (Code.body b e0) (@Pos.mk 188 0 204 65) [topFrame (@Pos.mk 0 0 0 0)]) = some (Flow.next, (sc10_ w os).abs, Code.body b e0, (@Pos.mk 205 0 214 43)) := by
  refine segRun_of ?_
  rw [PySem.W.Fast.te10110043849684766642, PySem.W.Fast.te14364793385576792824, pe]
  exact congrFun (g10 pq b w) os
theorem g11 (p : Program) (b : List Stmt) : ∀ w : World, (fun os => PySem.W.Fast.tw10110043849684766642 PySem.W.Fast.tw14364793385576792824 p w 11 (sr 6) 1 484 (sc10_ w os) (piecesOf ((pq.main.body.drop 30).take 9) en (Code.body b en) (@Pos.mk 205 0 214 43) [topFrame (@Pos.mk 0 0 0 0)])) = (fun os => some (Flow.next, sc11_ w os, Code.body b en, (@Pos.mk 263 0 263 10))) := fun w => by kernel_rfl
theorem h11 (b : List Stmt) (w : World) (os : OsState) : segRun treeTable p0 w 11 (sr 6) 1 484 (sc10_ w os).abs (piecesOf ((p0.main.body.drop 30).take 9) e0 (Code.body b e0) (@Pos.mk 205 0 214 43) [topFrame (@Pos.mk 0 0 0 0)]) = some (Flow.next, (sc11_ w os).abs, Code.body b e0, (@Pos.mk 263 0 263 10)) := by
  refine segRun_of ?_
  rw [PySem.W.Fast.te10110043849684766642, PySem.W.Fast.te14364793385576792824, pe]
  exact congrFun (g11 pq b w) os
theorem g12 (p : Program) (b : List Stmt) : ∀ w : World, (fun os => PySem.W.Fast.tw10110043849684766642 PySem.W.Fast.tw14364793385576792824 p w 11 (sr 6) 1 527 (sc11_ w os) (piecesOf ((pq.main.body.drop 39).take 11) en (Code.body b en) (@Pos.mk 263 0 263 10) [topFrame (@Pos.mk 0 0 0 0)])) = (fun os => some (Flow.next, sc12_ w os, Code.body b en, (@Pos.mk 314 0 317 46))) := fun w => by kernel_rfl
theorem h12 (b : List Stmt) (w : World) (os : OsState) : segRun treeTable p0 w 11 (sr 6) 1 527 (sc11_ w os).abs (piecesOf ((p0.main.body.drop 39).take 11) e0 (Code.body b e0) (@Pos.mk 263 0 263 10) [topFrame (@Pos.mk 0 0 0 0)]) = some (Flow.next, (sc12_ w os).abs, Code.body b e0, (@Pos.mk 314 0 317 46)) := by
  refine segRun_of ?_
  rw [PySem.W.Fast.te10110043849684766642, PySem.W.Fast.te14364793385576792824, pe]
  exact congrFun (g12 pq b w) os
theorem g13 (p : Program) (b : List Stmt) : ∀ w : World, (fun os => PySem.W.Fast.tw10110043849684766642 PySem.W.Fast.tw14364793385576792824 p w 11 (sr 6) 1 173 (sc12_ w os) (piecesOf ((pq.main.body.drop 50).take 6) en (Code.body b en) (@Pos.mk 314 0 317 46) [topFrame (@Pos.mk 0 0 0 0)])) = (fun os => some (Flow.next, sc13_ w os, Code.body b en, (@Pos.mk 357 0 377 73))) := fun w => by kernel_rfl
theorem h13 (b : List Stmt) (w : World) (os : OsState) : segRun treeTable p0 w 11 (sr 6) 1 173 (sc12_ w os).abs (piecesOf ((p0.main.body.drop 50).take 6) e0 (Code.body b e0) (@Pos.mk 314 0 317 46) [topFrame (@Pos.mk 0 0 0 0)]) = some (Flow.next, (sc13_ w os).abs, Code.body b e0, (@Pos.mk 357 0 377 73)) := by
  refine segRun_of ?_
  rw [PySem.W.Fast.te10110043849684766642, PySem.W.Fast.te14364793385576792824, pe]
  exact congrFun (g13 pq b w) os
noncomputable abbrev H1 : Params → Heap := fun P => absHeap (tz P) 655 (@Life.mk [] [] [] 0 [] [] Bool.false E [] 0 Bool.false Bool.false Bool.false 0 [2000, 10, 10] Bool.false 0 Bool.true [] [] 0 Bool.false)
theorem fin_l (b : List Stmt) (w : World) (os : OsState) : topRun treeTable p0 w 11 (sr 6) 2 (sc13_ w os).abs ⟨doneF .next, Code.body b e0, (@Pos.mk 357 0 377 73), [topFrame (@Pos.mk 0 0 0 0)]⟩ = some ⟨H1 w.params, Array.mk [], (@Drawn.mk 0 0 0 0), 1032, os⟩ := by
  rw [PySem.W.Fast.te14082659384304107361, PySem.W.Fast.te14364793385576792824, pe]
  kernel_rfl
theorem run_l (w : World) (os : OsState) : topRun treeTable p0 w 11 (sr 6) (12 + (1 + (438 + (438 + (439 + (494 + (279 + (322 + (322 + (376 + (353 + (389 + (310 + (484 + (527 + (173 + 2)))))))))))))))) ⟨boot_heap w.params, Array.mk [], boot_drawn, boot_toks, os⟩ (topStub p0) = some ⟨H1 w.params, Array.mk [], (@Drawn.mk 0 0 0 0), 1032, os⟩ := by
  refine go_top (pre_l w os) (piece_block (blk_l w os) ?k)
  rw [bs]
  exact piece_app (h0 _ w os) (piece_app (h1 _ w os) (piece_app (h2 _ w os) (piece_app (h3 _ w os) (piece_app (h4 _ w os) (piece_app (h5 _ w os) (piece_app (h6 _ w os) (piece_app (h7 _ w os) (piece_app (h8 _ w os) (piece_app (h9 _ w os) (piece_app (h10 _ w os) (piece_app (h11 _ w os) (piece_app (h12 _ w os) (piece_app (h13 _ w os) (piece_nil (fin_l _ w os)))))))))))))))
noncomputable abbrev k21 : Params → Obj := fun P => (Obj.mk (@Value.type "function") none (Data.func (fk (@Str.ofString "_wall") (@Str.ofString "_wall") (T 0) 3 [] vn vn vn (@Value.str (@Str.ofString "__main__") 164) none (vr 20) vn 0)) E)
noncomputable abbrev k60 : Params → Obj := fun P => (Obj.mk (@Value.type "function") none (Data.func (fk (@Str.ofString "__init__") (@Str.ofString "NoText.__init__") (N 4 0) 3 [] vn vn vn (@Value.str (@Str.ofString "pactroom.errors") 194) none (vr 59) vn 0)) E)
noncomputable abbrev k72 : Params → Obj := fun P => (Obj.mk (@Value.type "function") none (Data.func (fk (@Str.ofString "is_whole") (@Str.ofString "is_whole") (T 14) 3 [] vn vn vn (@Value.str (@Str.ofString "pactroom.things") 255) none (vr 71) vn 0)) E)
noncomputable abbrev k77 : Params → Obj := fun P => (Obj.mk (@Value.type "function") none (Data.func (fk (@Str.ofString "shown") (@Str.ofString "shown") (T 15) 3 [] vn vn vn (@Value.str (@Str.ofString "pactroom.things") 255) none (vr 76) vn 0)) E)
noncomputable abbrev k82 : Params → Obj := fun P => (Obj.mk (@Value.type "function") none (Data.func (fk (@Str.ofString "read_thing") (@Str.ofString "read_thing") (T 16) 3 [] vn vn vn (@Value.str (@Str.ofString "pactroom.things") 255) none (vr 81) vn 0)) E)
noncomputable abbrev k89 : Params → Obj := fun P => (Obj.mk (@Value.type "function") none (Data.func (fk (@Str.ofString "is_sign") (@Str.ofString "is_sign") (T 17) 3 [] vn vn vn (@Value.str (@Str.ofString "pactroom.things") 255) none (vr 88) vn 0)) E)
noncomputable abbrev k103 : Params → Obj := fun P => (Obj.mk (@Value.type "function") none (Data.func (fk (@Str.ofString "__init__") (@Str.ofString "Reader.__init__") (N 18 0) 3 [] vn vn vn (@Value.str (@Str.ofString "pactroom.things") 255) none (vr 102) vn 0)) E)
noncomputable abbrev k110 : Params → Obj := fun P => (Obj.mk (@Value.type "function") none (Data.func (fk (@Str.ofString "passes") (@Str.ofString "Reader.passes") (N 18 1) 3 [] vn vn vn (@Value.str (@Str.ofString "pactroom.things") 255) none (vr 109) vn 0)) E)
noncomputable abbrev k117 : Params → Obj := fun P => (Obj.mk (@Value.type "function") none (Data.func (fk (@Str.ofString "read_any") (@Str.ofString "Reader.read_any") (N 18 2) 3 [] vn vn vn (@Value.str (@Str.ofString "pactroom.things") 255) none (vr 116) vn 0)) E)
noncomputable abbrev k124 : Params → Obj := fun P => (Obj.mk (@Value.type "function") none (Data.func (fk (@Str.ofString "read_parts") (@Str.ofString "Reader.read_parts") (N 18 3) 3 [] vn vn vn (@Value.str (@Str.ofString "pactroom.things") 255) none (vr 123) vn 0)) E)
noncomputable abbrev k131 : Params → Obj := fun P => (Obj.mk (@Value.type "function") none (Data.func (fk (@Str.ofString "read_below") (@Str.ofString "Reader.read_below") (N 18 4) 3 [] vn vn vn (@Value.str (@Str.ofString "pactroom.things") 255) none (vr 130) vn 0)) E)
noncomputable abbrev k138 : Params → Obj := fun P => (Obj.mk (@Value.type "function") none (Data.func (fk (@Str.ofString "read_number") (@Str.ofString "Reader.read_number") (N 18 5) 3 [] vn vn vn (@Value.str (@Str.ofString "pactroom.things") 255) none (vr 137) vn 0)) E)
noncomputable abbrev k145 : Params → Obj := fun P => (Obj.mk (@Value.type "function") none (Data.func (fk (@Str.ofString "read_signs") (@Str.ofString "Reader.read_signs") (N 18 6) 3 [] vn vn vn (@Value.str (@Str.ofString "pactroom.things") 255) none (vr 144) vn 0)) E)
noncomputable abbrev k167 : Params → Obj := fun P => (Obj.mk (@Value.type "function") none (Data.func (fk (@Str.ofString "house") (@Str.ofString "Step.house") (N 22 0) 3 [] vn vn vn (@Value.str (@Str.ofString "pactroom.steps") 383) none (vr 166) vn 0)) E)
noncomputable abbrev k174 : Params → Obj := fun P => (Obj.mk (@Value.type "function") none (Data.func (fk (@Str.ofString "lock") (@Str.ofString "Step.lock") (N 22 1) 3 [] vn vn vn (@Value.str (@Str.ofString "pactroom.steps") 383) none (vr 173) vn 0)) E)
noncomputable abbrev k181 : Params → Obj := fun P => (Obj.mk (@Value.type "function") none (Data.func (fk (@Str.ofString "step_done") (@Str.ofString "Step.step_done") (N 22 2) 3 [] vn vn vn (@Value.str (@Str.ofString "pactroom.steps") 383) none (vr 180) vn 0)) E)
noncomputable abbrev k188 : Params → Obj := fun P => (Obj.mk (@Value.type "function") none (Data.func (fk (@Str.ofString "back") (@Str.ofString "Step.back") (N 22 3) 3 [] vn vn vn (@Value.str (@Str.ofString "pactroom.steps") 383) none (vr 187) vn 0)) E)
noncomputable abbrev k195 : Params → Obj := fun P => (Obj.mk (@Value.type "function") none (Data.func (fk (@Str.ofString "sure") (@Str.ofString "Step.sure") (N 22 4) 3 [] vn vn vn (@Value.str (@Str.ofString "pactroom.steps") 383) none (vr 194) vn 0)) E)
noncomputable abbrev k202 : Params → Obj := fun P => (Obj.mk (@Value.type "function") none (Data.func (fk (@Str.ofString "spelled") (@Str.ofString "Step.spelled") (N 22 5) 3 [] vn vn vn (@Value.str (@Str.ofString "pactroom.steps") 383) none (vr 201) vn 0)) E)
noncomputable abbrev k223 : Params → Obj := fun P => (Obj.mk (@Value.type "function") none (Data.func (fk (@Str.ofString "__init__") (@Str.ofString "CellStep.__init__") (N 23 0) 3 [] vn vn vn (@Value.str (@Str.ofString "pactroom.steps") 383) none (vr 222) vn 0)) E)
noncomputable abbrev k230 : Params → Obj := fun P => (Obj.mk (@Value.type "function") none (Data.func (fk (@Str.ofString "house") (@Str.ofString "CellStep.house") (N 23 1) 3 [] vn vn vn (@Value.str (@Str.ofString "pactroom.steps") 383) none (vr 229) vn 0)) E)
noncomputable abbrev k249 : Params → Obj := fun P => (Obj.mk (@Value.type "function") none (Data.func (fk (@Str.ofString "lock") (@Str.ofString "TakeStep.lock") (N 24 0) 3 [] vn vn vn (@Value.str (@Str.ofString "pactroom.steps") 383) none (vr 248) vn 0)) E)
noncomputable abbrev k256 : Params → Obj := fun P => (Obj.mk (@Value.type "function") none (Data.func (fk (@Str.ofString "step_done") (@Str.ofString "TakeStep.step_done") (N 24 1) 3 [] vn vn vn (@Value.str (@Str.ofString "pactroom.steps") 383) none (vr 255) vn 0)) E)
noncomputable abbrev k263 : Params → Obj := fun P => (Obj.mk (@Value.type "function") none (Data.func (fk (@Str.ofString "spelled") (@Str.ofString "TakeStep.spelled") (N 24 2) 3 [] vn vn vn (@Value.str (@Str.ofString "pactroom.steps") 383) none (vr 262) vn 0)) E)
noncomputable abbrev k282 : Params → Obj := fun P => (Obj.mk (@Value.type "function") none (Data.func (fk (@Str.ofString "lock") (@Str.ofString "MeanStep.lock") (N 25 0) 3 [] vn vn vn (@Value.str (@Str.ofString "pactroom.steps") 383) none (vr 281) vn 0)) E)
noncomputable abbrev k289 : Params → Obj := fun P => (Obj.mk (@Value.type "function") none (Data.func (fk (@Str.ofString "step_done") (@Str.ofString "MeanStep.step_done") (N 25 1) 3 [] vn vn vn (@Value.str (@Str.ofString "pactroom.steps") 383) none (vr 288) vn 0)) E)
noncomputable abbrev k296 : Params → Obj := fun P => (Obj.mk (@Value.type "function") none (Data.func (fk (@Str.ofString "spelled") (@Str.ofString "MeanStep.spelled") (N 25 2) 3 [] vn vn vn (@Value.str (@Str.ofString "pactroom.steps") 383) none (vr 295) vn 0)) E)
noncomputable abbrev k315 : Params → Obj := fun P => (Obj.mk (@Value.type "function") none (Data.func (fk (@Str.ofString "__init__") (@Str.ofString "SumStep.__init__") (N 26 0) 3 [] vn vn vn (@Value.str (@Str.ofString "pactroom.steps") 383) none (vr 314) vn 0)) E)
noncomputable abbrev k322 : Params → Obj := fun P => (Obj.mk (@Value.type "function") none (Data.func (fk (@Str.ofString "house") (@Str.ofString "SumStep.house") (N 26 1) 3 [] vn vn vn (@Value.str (@Str.ofString "pactroom.steps") 383) none (vr 321) vn 0)) E)
noncomputable abbrev k329 : Params → Obj := fun P => (Obj.mk (@Value.type "function") none (Data.func (fk (@Str.ofString "lock") (@Str.ofString "SumStep.lock") (N 26 2) 3 [] vn vn vn (@Value.str (@Str.ofString "pactroom.steps") 383) none (vr 328) vn 0)) E)
noncomputable abbrev k336 : Params → Obj := fun P => (Obj.mk (@Value.type "function") none (Data.func (fk (@Str.ofString "step_done") (@Str.ofString "SumStep.step_done") (N 26 3) 3 [] vn vn vn (@Value.str (@Str.ofString "pactroom.steps") 383) none (vr 335) vn 0)) E)
noncomputable abbrev k343 : Params → Obj := fun P => (Obj.mk (@Value.type "function") none (Data.func (fk (@Str.ofString "spelled") (@Str.ofString "SumStep.spelled") (N 26 4) 3 [] vn vn vn (@Value.str (@Str.ofString "pactroom.steps") 383) none (vr 342) vn 0)) E)
noncomputable abbrev k362 : Params → Obj := fun P => (Obj.mk (@Value.type "function") none (Data.func (fk (@Str.ofString "lock") (@Str.ofString "GiveStep.lock") (N 27 0) 3 [] vn vn vn (@Value.str (@Str.ofString "pactroom.steps") 383) none (vr 361) vn 0)) E)
noncomputable abbrev k369 : Params → Obj := fun P => (Obj.mk (@Value.type "function") none (Data.func (fk (@Str.ofString "step_done") (@Str.ofString "GiveStep.step_done") (N 27 1) 3 [] vn vn vn (@Value.str (@Str.ofString "pactroom.steps") 383) none (vr 368) vn 0)) E)
noncomputable abbrev k376 : Params → Obj := fun P => (Obj.mk (@Value.type "function") none (Data.func (fk (@Str.ofString "sure") (@Str.ofString "GiveStep.sure") (N 27 2) 3 [] vn vn vn (@Value.str (@Str.ofString "pactroom.steps") 383) none (vr 375) vn 0)) E)
noncomputable abbrev k383 : Params → Obj := fun P => (Obj.mk (@Value.type "function") none (Data.func (fk (@Str.ofString "spelled") (@Str.ofString "GiveStep.spelled") (N 27 3) 3 [] vn vn vn (@Value.str (@Str.ofString "pactroom.steps") 383) none (vr 382) vn 0)) E)
noncomputable abbrev k402 : Params → Obj := fun P => (Obj.mk (@Value.type "function") none (Data.func (fk (@Str.ofString "__init__") (@Str.ofString "AddStep.__init__") (N 28 0) 3 [] vn vn vn (@Value.str (@Str.ofString "pactroom.steps") 383) none (vr 401) vn 0)) E)
noncomputable abbrev k409 : Params → Obj := fun P => (Obj.mk (@Value.type "function") none (Data.func (fk (@Str.ofString "lock") (@Str.ofString "AddStep.lock") (N 28 1) 3 [] vn vn vn (@Value.str (@Str.ofString "pactroom.steps") 383) none (vr 408) vn 0)) E)
noncomputable abbrev k416 : Params → Obj := fun P => (Obj.mk (@Value.type "function") none (Data.func (fk (@Str.ofString "step_done") (@Str.ofString "AddStep.step_done") (N 28 2) 3 [] vn vn vn (@Value.str (@Str.ofString "pactroom.steps") 383) none (vr 415) vn 0)) E)
noncomputable abbrev k423 : Params → Obj := fun P => (Obj.mk (@Value.type "function") none (Data.func (fk (@Str.ofString "back") (@Str.ofString "AddStep.back") (N 28 3) 3 [] vn vn vn (@Value.str (@Str.ofString "pactroom.steps") 383) none (vr 422) vn 0)) E)
noncomputable abbrev k430 : Params → Obj := fun P => (Obj.mk (@Value.type "function") none (Data.func (fk (@Str.ofString "spelled") (@Str.ofString "AddStep.spelled") (N 28 4) 3 [] vn vn vn (@Value.str (@Str.ofString "pactroom.steps") 383) none (vr 429) vn 0)) E)
noncomputable abbrev k449 : Params → Obj := fun P => (Obj.mk (@Value.type "function") none (Data.func (fk (@Str.ofString "__init__") (@Str.ofString "PlusStep.__init__") (N 29 0) 3 [] vn vn vn (@Value.str (@Str.ofString "pactroom.steps") 383) none (vr 448) vn 0)) E)
noncomputable abbrev k456 : Params → Obj := fun P => (Obj.mk (@Value.type "function") none (Data.func (fk (@Str.ofString "step_done") (@Str.ofString "PlusStep.step_done") (N 29 1) 3 [] vn vn vn (@Value.str (@Str.ofString "pactroom.steps") 383) none (vr 455) vn 0)) E)
noncomputable abbrev k463 : Params → Obj := fun P => (Obj.mk (@Value.type "function") none (Data.func (fk (@Str.ofString "spelled") (@Str.ofString "PlusStep.spelled") (N 29 2) 3 [] vn vn vn (@Value.str (@Str.ofString "pactroom.steps") 383) none (vr 462) vn 0)) E)
noncomputable abbrev k482 : Params → Obj := fun P => (Obj.mk (@Value.type "function") none (Data.func (fk (@Str.ofString "__init__") (@Str.ofString "NeedStep.__init__") (N 30 0) 3 [] vn vn vn (@Value.str (@Str.ofString "pactroom.steps") 383) none (vr 481) vn 0)) E)
noncomputable abbrev k489 : Params → Obj := fun P => (Obj.mk (@Value.type "function") none (Data.func (fk (@Str.ofString "step_done") (@Str.ofString "NeedStep.step_done") (N 30 1) 3 [] vn vn vn (@Value.str (@Str.ofString "pactroom.steps") 383) none (vr 488) vn 0)) E)
noncomputable abbrev k496 : Params → Obj := fun P => (Obj.mk (@Value.type "function") none (Data.func (fk (@Str.ofString "spelled") (@Str.ofString "NeedStep.spelled") (N 30 2) 3 [] vn vn vn (@Value.str (@Str.ofString "pactroom.steps") 383) none (vr 495) vn 0)) E)
noncomputable abbrev k506 : Params → Obj := fun P => (Obj.mk (@Value.type "function") none (Data.func (fk (@Str.ofString "spell") (@Str.ofString "spell") (T 31) 3 [] vn vn vn (@Value.str (@Str.ofString "pactroom.steps") 383) none (vr 505) vn 0)) E)
noncomputable abbrev k511 : Params → Obj := fun P => (Obj.mk (@Value.type "function") none (Data.func (fk (@Str.ofString "read_step") (@Str.ofString "read_step") (T 32) 3 [] vn vn vn (@Value.str (@Str.ofString "pactroom.steps") 383) none (vr 510) vn 0)) E)
noncomputable abbrev k518 : Params → Obj := fun P => (Obj.mk (@Value.type "function") none (Data.func (fk (@Str.ofString "read_number") (@Str.ofString "read_number") (T 33) 3 [] vn vn vn (@Value.str (@Str.ofString "pactroom.steps") 383) none (vr 517) vn 0)) E)
noncomputable abbrev k525 : Params → Obj := fun P => (Obj.mk (@Value.type "function") none (Data.func (fk (@Str.ofString "made_step") (@Str.ofString "made_step") (T 34) 3 [] vn vn vn (@Value.str (@Str.ofString "pactroom.steps") 383) none (vr 524) vn 0)) E)
noncomputable abbrev k532 : Params → Obj := fun P => (Obj.mk (@Value.type "function") none (Data.func (fk (@Str.ofString "made_sum") (@Str.ofString "made_sum") (T 35) 3 [] vn vn vn (@Value.str (@Str.ofString "pactroom.steps") 383) none (vr 531) vn 0)) E)
noncomputable abbrev k547 : Params → Obj := fun P => (Obj.mk (@Value.type "function") none (Data.func (fk (@Str.ofString "__init__") (@Str.ofString "Pact.__init__") (N 39 0) 3 [] vn vn vn (@Value.str (@Str.ofString "pactroom.pacts") 869) none (vr 546) vn 0)) E)
noncomputable abbrev k552 : Params → Obj := fun P => (Obj.mk (@Value.type "function") none (Data.func (fk (@Str.ofString "spelled") (@Str.ofString "Pact.spelled") (N 39 1) 3 [] vn vn vn (@Value.str (@Str.ofString "pactroom.pacts") 869) none (vr 551) vn 0)) E)
noncomputable abbrev k564 : Params → Obj := fun P => (Obj.mk (@Value.type "function") none (Data.func (fk (@Str.ofString "read_pact") (@Str.ofString "read_pact") (T 40) 3 [] vn vn vn (@Value.str (@Str.ofString "pactroom.pacts") 869) none (vr 563) vn 0)) E)
noncomputable abbrev k571 : Params → Obj := fun P => (Obj.mk (@Value.type "function") none (Data.func (fk (@Str.ofString "read_part") (@Str.ofString "read_part") (T 41) 3 [] vn vn vn (@Value.str (@Str.ofString "pactroom.pacts") 869) none (vr 570) vn 0)) E)
noncomputable abbrev k576 : Params → Obj := fun P => (Obj.mk (@Value.type "function") none (Data.func (fk (@Str.ofString "houses_of") (@Str.ofString "houses_of") (T 42) 3 [] vn vn vn (@Value.str (@Str.ofString "pactroom.pacts") 869) none (vr 575) vn 0)) E)
noncomputable abbrev k583 : Params → Obj := fun P => (Obj.mk (@Value.type "function") none (Data.func (fk (@Str.ofString "turning") (@Str.ofString "turning") (T 43) 3 [] vn vn vn (@Value.str (@Str.ofString "pactroom.pacts") 869) none (vr 582) vn 0)) E)
noncomputable abbrev k590 : Params → Obj := fun P => (Obj.mk (@Value.type "function") none (Data.func (fk (@Str.ofString "_law_cell") (@Str.ofString "_law_cell") (T 45) 3 [] vn vn vn (@Value.str (@Str.ofString "law_pactroom_k24_pacts_there_and_back") 942) none (vr 589) vn 0)) E)
noncomputable abbrev k597 : Params → Obj := fun P => (Obj.mk (@Value.type "function") none (Data.func (fk (@Str.ofString "_law_whole") (@Str.ofString "_law_whole") (T 46) 3 [] vn vn vn (@Value.str (@Str.ofString "law_pactroom_k24_pacts_there_and_back") 942) none (vr 596) vn 0)) E)
noncomputable abbrev k604 : Params → Obj := fun P => (Obj.mk (@Value.type "function") none (Data.func (fk (@Str.ofString "_law_mixed") (@Str.ofString "_law_mixed") (T 47) 3 [] vn vn vn (@Value.str (@Str.ofString "law_pactroom_k24_pacts_there_and_back") 942) none (vr 603) vn 0)) E)
noncomputable abbrev k611 : Params → Obj := fun P => (Obj.mk (@Value.type "function") none (Data.func (fk (@Str.ofString "_law_number") (@Str.ofString "_law_number") (T 48) 3 [] vn vn vn (@Value.str (@Str.ofString "law_pactroom_k24_pacts_there_and_back") 942) none (vr 610) vn 0)) E)
noncomputable abbrev k618 : Params → Obj := fun P => (Obj.mk (@Value.type "function") none (Data.func (fk (@Str.ofString "_law_either") (@Str.ofString "_law_either") (T 49) 3 [] vn vn vn (@Value.str (@Str.ofString "law_pactroom_k24_pacts_there_and_back") 942) none (vr 617) vn 0)) E)
noncomputable abbrev k625 : Params → Obj := fun P => (Obj.mk (@Value.type "function") none (Data.func (fk (@Str.ofString "_law_step") (@Str.ofString "_law_step") (T 50) 3 [] vn vn vn (@Value.str (@Str.ofString "law_pactroom_k24_pacts_there_and_back") 942) none (vr 624) vn 0)) E)
noncomputable abbrev k630 : Params → Obj := fun P => (Obj.mk (@Value.type "function") none (Data.func (fk (@Str.ofString "_law_text") (@Str.ofString "_law_text") (T 51) 3 [] vn vn vn (@Value.str (@Str.ofString "law_pactroom_k24_pacts_there_and_back") 942) none (vr 629) vn 0)) E)
noncomputable abbrev k637 : Params → Obj := fun P => (Obj.mk (@Value.type "function") none (Data.func (fk (@Str.ofString "_law_houses") (@Str.ofString "_law_houses") (T 52) 3 [] vn vn vn (@Value.str (@Str.ofString "law_pactroom_k24_pacts_there_and_back") 942) none (vr 636) vn 0)) E)
noncomputable abbrev k644 : Params → Obj := fun P => (Obj.mk (@Value.type "function") none (Data.func (fk (@Str.ofString "_law_turning") (@Str.ofString "_law_turning") (T 53) 3 [] vn vn vn (@Value.str (@Str.ofString "law_pactroom_k24_pacts_there_and_back") 942) none (vr 643) vn 0)) E)
noncomputable abbrev k649 : Params → Obj := fun P => (Obj.mk (@Value.type "function") none (Data.func (fk (@Str.ofString "_law_right") (@Str.ofString "_law_right") (T 54) 3 [] vn vn vn (@Value.str (@Str.ofString "law_pactroom_k24_pacts_there_and_back") 942) none (vr 648) vn 0)) E)
noncomputable abbrev k654 : Params → Obj := fun P => (Obj.mk (@Value.type "function") none (Data.func (fk (@Str.ofString "law") (@Str.ofString "law") (T 55) 3 [] vn vn vn (@Value.str (@Str.ofString "law_pactroom_k24_pacts_there_and_back") 942) none (vr 653) vn 0)) E)
noncomputable def Kf : Params → Frag := fun P => (nat_lit 2, boot_o_2 P) :: (nat_lit 3, c13_3 P) :: (nat_lit 15, a11 P) :: (nat_lit 17, c0_17 P) :: (nat_lit 18, a11 P) :: (nat_lit 20, c0_20 P) :: (nat_lit 21, k21 P) :: (nat_lit 22, c0_22 P) :: (nat_lit 29, a11 P) :: (nat_lit 30, c0_30 P) :: (nat_lit 31, c1_31 P) :: (nat_lit 32, c0_32 P) :: (nat_lit 35, c0_35 P) :: (nat_lit 42, a11 P) :: (nat_lit 43, c0_43 P) :: (nat_lit 44, c0_44 P) :: (nat_lit 47, c0_35 P) :: (nat_lit 54, a11 P) :: (nat_lit 56, c1_56 P) :: (nat_lit 57, a11 P) :: (nat_lit 59, c1_59 P) :: (nat_lit 60, k60 P) :: (nat_lit 61, c1_61 P) :: (nat_lit 62, c1_62 P) :: (nat_lit 63, c1_63 P) :: (nat_lit 66, a11 P) :: (nat_lit 68, c1_68 P) :: (nat_lit 69, a11 P) :: (nat_lit 71, c1_71 P) :: (nat_lit 72, k72 P) :: (nat_lit 73, a11 P) :: (nat_lit 76, c1_76 P) :: (nat_lit 77, k77 P) :: (nat_lit 78, a11 P) :: (nat_lit 81, c1_81 P) :: (nat_lit 82, k82 P) :: (nat_lit 83, a11 P) :: (nat_lit 85, c1_85 P) :: (nat_lit 86, a11 P) :: (nat_lit 88, c1_88 P) :: (nat_lit 89, k89 P) :: (nat_lit 97, a11 P) :: (nat_lit 99, c2_99 P) :: (nat_lit 100, a11 P) :: (nat_lit 102, c2_102 P) :: (nat_lit 103, k103 P) :: (nat_lit 104, a11 P) :: (nat_lit 106, c2_106 P) :: (nat_lit 107, a11 P) :: (nat_lit 109, c2_109 P) :: (nat_lit 110, k110 P) :: (nat_lit 111, a11 P) :: (nat_lit 113, c2_113 P) :: (nat_lit 114, a11 P) :: (nat_lit 116, c2_116 P) :: (nat_lit 117, k117 P) :: (nat_lit 118, a11 P) :: (nat_lit 120, c2_120 P) :: (nat_lit 121, a11 P) :: (nat_lit 123, c2_123 P) :: (nat_lit 124, k124 P) :: (nat_lit 125, a11 P) :: (nat_lit 127, c2_127 P) :: (nat_lit 128, a11 P) :: (nat_lit 130, c2_130 P) :: (nat_lit 131, k131 P) :: (nat_lit 132, a11 P) :: (nat_lit 134, c2_134 P) :: (nat_lit 135, a11 P) :: (nat_lit 137, c2_137 P) :: (nat_lit 138, k138 P) :: (nat_lit 139, a11 P) :: (nat_lit 141, c2_141 P) :: (nat_lit 142, a11 P) :: (nat_lit 144, c2_144 P) :: (nat_lit 145, k145 P) :: (nat_lit 146, c2_146 P) :: (nat_lit 147, c2_147 P) :: (nat_lit 148, c2_148 P) :: (nat_lit 149, c2_149 P) :: (nat_lit 150, c2_150 P) :: (nat_lit 153, c3_153 P) :: (nat_lit 161, a11 P) :: (nat_lit 163, c3_163 P) :: (nat_lit 164, a11 P) :: (nat_lit 166, c3_166 P) :: (nat_lit 167, k167 P) :: (nat_lit 168, a11 P) :: (nat_lit 170, c3_170 P) :: (nat_lit 171, a11 P) :: (nat_lit 173, c3_173 P) :: (nat_lit 174, k174 P) :: (nat_lit 175, a11 P) :: (nat_lit 177, c3_177 P) :: (nat_lit 178, a11 P) :: (nat_lit 180, c3_180 P) :: (nat_lit 181, k181 P) :: (nat_lit 182, a11 P) :: (nat_lit 184, c3_184 P) :: (nat_lit 185, a11 P) :: (nat_lit 187, c3_187 P) :: (nat_lit 188, k188 P) :: (nat_lit 189, a11 P) :: (nat_lit 191, c3_191 P) :: (nat_lit 192, a11 P) :: (nat_lit 194, c3_194 P) :: (nat_lit 195, k195 P) :: (nat_lit 196, a11 P) :: (nat_lit 198, c3_198 P) :: (nat_lit 199, a11 P) :: (nat_lit 201, c3_201 P) :: (nat_lit 202, k202 P) :: (nat_lit 203, a11 P) :: (nat_lit 204, c3_204 P) :: (nat_lit 205, c11_205 P) :: (nat_lit 206, c3_206 P) :: (nat_lit 207, c3_207 P) :: (nat_lit 210, c4_210 P) :: (nat_lit 217, a11 P) :: (nat_lit 219, c4_219 P) :: (nat_lit 220, a11 P) :: (nat_lit 222, c4_222 P) :: (nat_lit 223, k223 P) :: (nat_lit 224, a11 P) :: (nat_lit 226, c4_226 P) :: (nat_lit 227, a11 P) :: (nat_lit 229, c4_229 P) :: (nat_lit 230, k230 P) :: (nat_lit 231, c4_231 P) :: (nat_lit 232, c4_232 P) :: (nat_lit 233, c9_233 P) :: (nat_lit 236, c5_236 P) :: (nat_lit 243, a11 P) :: (nat_lit 245, c5_245 P) :: (nat_lit 246, a11 P) :: (nat_lit 248, c5_248 P) :: (nat_lit 249, k249 P) :: (nat_lit 250, a11 P) :: (nat_lit 252, c5_252 P) :: (nat_lit 253, a11 P) :: (nat_lit 255, c5_255 P) :: (nat_lit 256, k256 P) :: (nat_lit 257, a11 P) :: (nat_lit 259, c5_259 P) :: (nat_lit 260, a11 P) :: (nat_lit 262, c5_262 P) :: (nat_lit 263, k263 P) :: (nat_lit 264, a11 P) :: (nat_lit 265, c5_265 P) :: (nat_lit 266, c5_266 P) :: (nat_lit 269, c5_236 P) :: (nat_lit 276, a11 P) :: (nat_lit 278, c6_278 P) :: (nat_lit 279, a11 P) :: (nat_lit 281, c6_281 P) :: (nat_lit 282, k282 P) :: (nat_lit 283, a11 P) :: (nat_lit 285, c6_285 P) :: (nat_lit 286, a11 P) :: (nat_lit 288, c6_288 P) :: (nat_lit 289, k289 P) :: (nat_lit 290, a11 P) :: (nat_lit 292, c6_292 P) :: (nat_lit 293, a11 P) :: (nat_lit 295, c6_295 P) :: (nat_lit 296, k296 P) :: (nat_lit 297, a11 P) :: (nat_lit 298, c6_298 P) :: (nat_lit 299, c6_299 P) :: (nat_lit 302, c4_210 P) :: (nat_lit 309, a11 P) :: (nat_lit 311, c7_311 P) :: (nat_lit 312, a11 P) :: (nat_lit 314, c7_314 P) :: (nat_lit 315, k315 P) :: (nat_lit 316, a11 P) :: (nat_lit 318, c7_318 P) :: (nat_lit 319, a11 P) :: (nat_lit 321, c7_321 P) :: (nat_lit 322, k322 P) :: (nat_lit 323, a11 P) :: (nat_lit 325, c7_325 P) :: (nat_lit 326, a11 P) :: (nat_lit 328, c7_328 P) :: (nat_lit 329, k329 P) :: (nat_lit 330, a11 P) :: (nat_lit 332, c7_332 P) :: (nat_lit 333, a11 P) :: (nat_lit 335, c7_335 P) :: (nat_lit 336, k336 P) :: (nat_lit 337, a11 P) :: (nat_lit 339, c7_339 P) :: (nat_lit 340, a11 P) :: (nat_lit 342, c7_342 P) :: (nat_lit 343, k343 P) :: (nat_lit 344, c7_344 P) :: (nat_lit 345, c7_345 P) :: (nat_lit 346, c7_346 P) :: (nat_lit 349, c5_236 P) :: (nat_lit 356, a11 P) :: (nat_lit 358, c8_358 P) :: (nat_lit 359, a11 P) :: (nat_lit 361, c8_361 P) :: (nat_lit 362, k362 P) :: (nat_lit 363, a11 P) :: (nat_lit 365, c8_365 P) :: (nat_lit 366, a11 P) :: (nat_lit 368, c8_368 P) :: (nat_lit 369, k369 P) :: (nat_lit 370, a11 P) :: (nat_lit 372, c8_372 P) :: (nat_lit 373, a11 P) :: (nat_lit 375, c8_375 P) :: (nat_lit 376, k376 P) :: (nat_lit 377, a11 P) :: (nat_lit 379, c8_379 P) :: (nat_lit 380, a11 P) :: (nat_lit 382, c8_382 P) :: (nat_lit 383, k383 P) :: (nat_lit 384, a11 P) :: (nat_lit 385, c8_385 P) :: (nat_lit 386, c8_386 P) :: (nat_lit 389, c5_236 P) :: (nat_lit 396, a11 P) :: (nat_lit 398, c9_398 P) :: (nat_lit 399, a11 P) :: (nat_lit 401, c9_401 P) :: (nat_lit 402, k402 P) :: (nat_lit 403, a11 P) :: (nat_lit 405, c9_405 P) :: (nat_lit 406, a11 P) :: (nat_lit 408, c9_408 P) :: (nat_lit 409, k409 P) :: (nat_lit 410, a11 P) :: (nat_lit 412, c9_412 P) :: (nat_lit 413, a11 P) :: (nat_lit 415, c9_415 P) :: (nat_lit 416, k416 P) :: (nat_lit 417, a11 P) :: (nat_lit 419, c9_419 P) :: (nat_lit 420, a11 P) :: (nat_lit 422, c9_422 P) :: (nat_lit 423, k423 P) :: (nat_lit 424, a11 P) :: (nat_lit 426, c9_426 P) :: (nat_lit 427, a11 P) :: (nat_lit 429, c9_429 P) :: (nat_lit 430, k430 P) :: (nat_lit 431, c9_431 P) :: (nat_lit 432, c9_432 P) :: (nat_lit 433, c9_433 P) :: (nat_lit 436, c4_210 P) :: (nat_lit 443, a11 P) :: (nat_lit 445, c10_445 P) :: (nat_lit 446, a11 P) :: (nat_lit 448, c10_448 P) :: (nat_lit 449, k449 P) :: (nat_lit 450, a11 P) :: (nat_lit 452, c10_452 P) :: (nat_lit 453, a11 P) :: (nat_lit 455, c10_455 P) :: (nat_lit 456, k456 P) :: (nat_lit 457, a11 P) :: (nat_lit 459, c10_459 P) :: (nat_lit 460, a11 P) :: (nat_lit 462, c10_462 P) :: (nat_lit 463, k463 P) :: (nat_lit 464, c10_464 P) :: (nat_lit 465, c10_465 P) :: (nat_lit 466, c10_466 P) :: (nat_lit 469, c4_210 P) :: (nat_lit 476, a11 P) :: (nat_lit 478, c11_478 P) :: (nat_lit 479, a11 P) :: (nat_lit 481, c11_481 P) :: (nat_lit 482, k482 P) :: (nat_lit 483, a11 P) :: (nat_lit 485, c11_485 P) :: (nat_lit 486, a11 P) :: (nat_lit 488, c11_488 P) :: (nat_lit 489, k489 P) :: (nat_lit 490, a11 P) :: (nat_lit 492, c11_492 P) :: (nat_lit 493, a11 P) :: (nat_lit 495, c11_495 P) :: (nat_lit 496, k496 P) :: (nat_lit 497, c11_497 P) :: (nat_lit 498, c11_498 P) :: (nat_lit 499, c11_499 P) :: (nat_lit 502, a11 P) :: (nat_lit 505, c11_505 P) :: (nat_lit 506, k506 P) :: (nat_lit 507, a11 P) :: (nat_lit 510, c11_510 P) :: (nat_lit 511, k511 P) :: (nat_lit 512, a11 P) :: (nat_lit 514, c11_514 P) :: (nat_lit 515, a11 P) :: (nat_lit 517, c11_517 P) :: (nat_lit 518, k518 P) :: (nat_lit 519, a11 P) :: (nat_lit 521, c11_521 P) :: (nat_lit 522, a11 P) :: (nat_lit 524, c11_524 P) :: (nat_lit 525, k525 P) :: (nat_lit 526, a11 P) :: (nat_lit 528, c11_528 P) :: (nat_lit 529, a11 P) :: (nat_lit 531, c11_531 P) :: (nat_lit 532, k532 P) :: (nat_lit 533, c11_533 P) :: (nat_lit 541, a11 P) :: (nat_lit 543, c12_543 P) :: (nat_lit 544, a11 P) :: (nat_lit 546, c12_546 P) :: (nat_lit 547, k547 P) :: (nat_lit 548, a11 P) :: (nat_lit 551, c12_551 P) :: (nat_lit 552, k552 P) :: (nat_lit 553, c12_553 P) :: (nat_lit 554, c12_554 P) :: (nat_lit 555, c12_555 P) :: (nat_lit 556, c12_556 P) :: (nat_lit 557, c12_557 P) :: (nat_lit 560, a11 P) :: (nat_lit 563, c12_563 P) :: (nat_lit 564, k564 P) :: (nat_lit 565, a11 P) :: (nat_lit 567, c12_567 P) :: (nat_lit 568, a11 P) :: (nat_lit 570, c12_570 P) :: (nat_lit 571, k571 P) :: (nat_lit 572, a11 P) :: (nat_lit 575, c12_575 P) :: (nat_lit 576, k576 P) :: (nat_lit 577, a11 P) :: (nat_lit 579, c12_579 P) :: (nat_lit 580, a11 P) :: (nat_lit 582, c12_582 P) :: (nat_lit 583, k583 P) :: (nat_lit 584, a11 P) :: (nat_lit 586, c12_586 P) :: (nat_lit 587, a11 P) :: (nat_lit 589, c12_589 P) :: (nat_lit 590, k590 P) :: (nat_lit 591, a11 P) :: (nat_lit 593, c12_593 P) :: (nat_lit 594, a11 P) :: (nat_lit 596, c12_596 P) :: (nat_lit 597, k597 P) :: (nat_lit 598, a11 P) :: (nat_lit 600, c12_600 P) :: (nat_lit 601, a11 P) :: (nat_lit 603, c12_603 P) :: (nat_lit 604, k604 P) :: (nat_lit 605, a11 P) :: (nat_lit 607, c12_607 P) :: (nat_lit 608, a11 P) :: (nat_lit 610, c12_610 P) :: (nat_lit 611, k611 P) :: (nat_lit 612, a11 P) :: (nat_lit 614, c12_614 P) :: (nat_lit 615, a11 P) :: (nat_lit 617, c12_617 P) :: (nat_lit 618, k618 P) :: (nat_lit 619, a11 P) :: (nat_lit 621, c13_621 P) :: (nat_lit 622, a11 P) :: (nat_lit 624, c13_624 P) :: (nat_lit 625, k625 P) :: (nat_lit 626, a11 P) :: (nat_lit 629, c13_629 P) :: (nat_lit 630, k630 P) :: (nat_lit 631, a11 P) :: (nat_lit 633, c13_633 P) :: (nat_lit 634, a11 P) :: (nat_lit 636, c13_636 P) :: (nat_lit 637, k637 P) :: (nat_lit 638, a11 P) :: (nat_lit 640, c13_640 P) :: (nat_lit 641, a11 P) :: (nat_lit 643, c13_643 P) :: (nat_lit 644, k644 P) :: (nat_lit 645, a11 P) :: (nat_lit 648, c13_648 P) :: (nat_lit 649, k649 P) :: (nat_lit 650, a11 P) :: (nat_lit 653, c13_653 P) :: (nat_lit 654, k654 P) :: []
noncomputable def Ka : List Addr := [2, 3, 15, 17, 18, 20, 21, 22, 29, 30, 31, 32, 35, 42, 43, 44, 47, 54, 56, 57, 59, 60, 61, 62, 63, 66, 68, 69, 71, 72, 73, 76, 77, 78, 81, 82, 83, 85, 86, 88, 89, 97, 99, 100, 102, 103, 104, 106, 107, 109, 110, 111, 113, 114, 116, 117, 118, 120, 121, 123, 124, 125, 127, 128, 130, 131, 132, 134, 135, 137, 138, 139, 141, 142, 144, 145, 146, 147, 148, 149, 150, 153, 161, 163, 164, 166, 167, 168, 170, 171, 173, 174, 175, 177, 178, 180, 181, 182, 184, 185, 187, 188, 189, 191, 192, 194, 195, 196, 198, 199, 201, 202, 203, 204, 205, 206, 207, 210, 217, 219, 220, 222, 223, 224, 226, 227, 229, 230, 231, 232, 233, 236, 243, 245, 246, 248, 249, 250, 252, 253, 255, 256, 257, 259, 260, 262, 263, 264, 265, 266, 269, 276, 278, 279, 281, 282, 283, 285, 286, 288, 289, 290, 292, 293, 295, 296, 297, 298, 299, 302, 309, 311, 312, 314, 315, 316, 318, 319, 321, 322, 323, 325, 326, 328, 329, 330, 332, 333, 335, 336, 337, 339, 340, 342, 343, 344, 345, 346, 349, 356, 358, 359, 361, 362, 363, 365, 366, 368, 369, 370, 372, 373, 375, 376, 377, 379, 380, 382, 383, 384, 385, 386, 389, 396, 398, 399, 401, 402, 403, 405, 406, 408, 409, 410, 412, 413, 415, 416, 417, 419, 420, 422, 423, 424, 426, 427, 429, 430, 431, 432, 433, 436, 443, 445, 446, 448, 449, 450, 452, 453, 455, 456, 457, 459, 460, 462, 463, 464, 465, 466, 469, 476, 478, 479, 481, 482, 483, 485, 486, 488, 489, 490, 492, 493, 495, 496, 497, 498, 499, 502, 505, 506, 507, 510, 511, 512, 514, 515, 517, 518, 519, 521, 522, 524, 525, 526, 528, 529, 531, 532, 533, 541, 543, 544, 546, 547, 548, 551, 552, 553, 554, 555, 556, 557, 560, 563, 564, 565, 567, 568, 570, 571, 572, 575, 576, 577, 579, 580, 582, 583, 584, 586, 587, 589, 590, 591, 593, 594, 596, 597, 598, 600, 601, 603, 604, 605, 607, 608, 610, 611, 612, 614, 615, 617, 618, 619, 621, 622, 624, 625, 626, 629, 630, 631, 633, 634, 636, 637, 638, 640, 641, 643, 644, 645, 648, 649, 650, 653, 654]
theorem ke (P : Params) : Ka = (Kf P).map (·.1) := by kernel_rfl
noncomputable abbrev HK : Hook := kHook Kf Ka ke
noncomputable abbrev R : RowW := PySem.Challenge.rw_pactroom_k24_pacts_there_and_back.row.toRowW
noncomputable abbrev lo : List Str := [Str.ofString "SHAPES"]
noncomputable abbrev lvv : List (Str × WData) := []
noncomputable def qv : Program := { p0 with main := { p0.main with body := [T 0, T 2, T 3, T 4, T 6, T 7, T 8, T 9, T 10, T 11, T 12, T 13, T 14, T 15, T 16, T 17, T 18, T 20, T 21, T 22, T 23, T 24, T 25, T 26, T 27, T 28, T 29, T 30, T 31, T 32, T 33, T 34, T 35, T 37, T 38, T 39, T 40, T 41, T 42, T 43, T 45, T 46, T 47, T 48, T 49, T 50, T 51, T 52, T 53, T 54, T 55] } }
noncomputable abbrev Xt : Shared → Bool := fun s => xlAt qv lvv s && recOk (RowW.records R) s
theorem size_l (w : World) : ((boot_heap w.params).isNs mainGlobals && (A [] : Array GenState).size == 0, (boot_heap w.params).objs.size, (boot_heap w.params).nsMap mainGlobals "__annotations__") = (true, 11, (sr 6)) := by kernel_rfl
theorem look1 (w : World) (os : OsState) : (staticsOk (importedModules p0.main.body) (boot_heap w.params) (H1 w.params) && namesBound p0 (H1 w.params) && gensDone ⟨H1 w.params, Array.mk [], (@Drawn.mk 0 0 0 0), 1032, os⟩ && laidKept (boot_heap w.params) (H1 w.params)) = true := by kernel_rfl
theorem look2 (w : World) (os : OsState) : openSeen qv lo (importedModules p0.main.body) Xt true ⟨H1 w.params, Array.mk [], (@Drawn.mk 0 0 0 0), 1032, os⟩ = openGood qv lo := by kernel_rfl
theorem look3 (w : World) (os : OsState) : Hook.obs HK ⟨H1 w.params, Array.mk [], (@Drawn.mk 0 0 0 0), 1032, os⟩ = Hook.val HK w := by kernel_rfl
theorem left : LeftO p0 qv lo Xt (Hook.obs HK) (Hook.val HK) 10786 := LeftO.of_pieces (boot_open (by kernel_rfl) (by kernel_rfl) (fun s => by kernel_rfl)) size_l run_l (by decide) fun w => funext fun os => looks_pair (look1 w os) (looks_pair (look2 w os) (look3 w os))
end
end Q
end
set_option maxHeartbeats 4000000
namespace K24
open PySem L2 Lo St
def wmk (a b c d e f g : Addr) : Wd → Addr
  | .take => a
  | .mean => b
  | .sum => c
  | .give => d
  | .add => e
  | .plus => f
  | .need => g
abbrev bmV : List Value := [.type "ValueError", .type "Exception", .type "BaseException", .type "object"]
theorem all_mk {l : PySem.W.OpenLaw} {w : World} {K : PySem.W.Frag} {h : Heap} {mg : Str → Option Value} {fa CRd fri frp fra frb frn frx WA fxiY fxhY fxsZ fxpA WB fxpB WD fxiD fxhD fxpD WE fxsE fxpE WF fxiF fxpF WG fxiG fxhZ fxpG WN fxiN fxpN CY CP fpi fps fW1 fH1 fR1 fG1 fP1 fS1 fN1 fM1 fU1 fA3 fB3 fC3 fD3 fA2 fW2 fX2 fN2 fE2 fS2 fT2 fH2 fV2 fR2 fZ aSh aMn CNo : Addr} (X : K.In h) (G : h.Ns mainGlobals mg) (hfa : mg "law" = some (.ref fa))
    {odri anri odrp anrp odra anra odrb anrb odrn anrn odrx anrx odxiY anxiY odxhY anxhY odxsZ anxsZ odxpA anxpA odxpB anxpB odxiD anxiD odxhD anxhD odxpD anxpD odxsE anxsE odxpE anxpE odxiF anxiF odxpF anxpF odxiG anxiG odxhZ anxhZ odxpG anxpG odxiN anxiN odxpN anxpN odpi anpi odps anps odW1 anW1 odH1 anH1 odR1 anR1 odG1 anG1 odP1 anP1 odS1 anS1 odN1 anN1 odM1 anM1 odU1 anU1 odA3 anA3 odB3 anB3 odC3 anC3 odD3 anD3 odA2 anA2 odW2 anW2 odX2 anX2 odN2 anN2 odE2 anE2 odS2 anS2 odT2 anT2 odH2 anH2 odV2 anV2 odR2 anR2 odZ anZ : Option Addr} {slri slrp slra slrb slrn slrx slxiY slxhY slxsZ slxpA slxpB slxiD slxhD slxpD slxsE slxpE slxiF slxpF slxiG slxhZ slxpG slxiN slxpN slpi slps slW1 slH1 slR1 slG1 slP1 slS1 slN1 slM1 slU1 slA3 slB3 slC3 slD3 slA2 slW2 slX2 slN2 slE2 slS2 slT2 slH2 slV2 slR2 slZ : Array (Option Value)} {ocri kVri dcri pmri cdri ctri ocrp kVrp dcrp pmrp cdrp ctrp ocra kVra dcra pmra cdra ctra ocrb kVrb dcrb pmrb cdrb ctrb ocrn kVrn dcrn pmrn cdrn ctrn ocrx kVrx dcrx pmrx cdrx ctrx ocxiY kVxiY dcxiY pmxiY cdxiY ctxiY ocxhY kVxhY dcxhY pmxhY cdxhY ctxhY ocxsZ kVxsZ dcxsZ pmxsZ cdxsZ ctxsZ ocxpA kVxpA dcxpA pmxpA cdxpA ctxpA ocxpB kVxpB dcxpB pmxpB cdxpB ctxpB ocxiD kVxiD dcxiD pmxiD cdxiD ctxiD ocxhD kVxhD dcxhD pmxhD cdxhD ctxhD ocxpD kVxpD dcxpD pmxpD cdxpD ctxpD ocxsE kVxsE dcxsE pmxsE cdxsE ctxsE ocxpE kVxpE dcxpE pmxpE cdxpE ctxpE ocxiF kVxiF dcxiF pmxiF cdxiF ctxiF ocxpF kVxpF dcxpF pmxpF cdxpF ctxpF ocxiG kVxiG dcxiG pmxiG cdxiG ctxiG ocxhZ kVxhZ dcxhZ pmxhZ cdxhZ ctxhZ ocxpG kVxpG dcxpG pmxpG cdxpG ctxpG ocxiN kVxiN dcxiN pmxiN cdxiN ctxiN ocxpN kVxpN dcxpN pmxpN cdxpN ctxpN ocpi kVpi dcpi pmpi cdpi ctpi ocps kVps dcps pmps cdps ctps ocW1 kVW1 dcW1 pmW1 cdW1 ctW1 ocH1 kVH1 dcH1 pmH1 cdH1 ctH1 ocR1 kVR1 dcR1 pmR1 cdR1 ctR1 ocG1 kVG1 dcG1 pmG1 cdG1 ctG1 ocP1 kVP1 dcP1 pmP1 cdP1 ctP1 ocS1 kVS1 dcS1 pmS1 cdS1 ctS1 ocN1 kVN1 dcN1 pmN1 cdN1 ctN1 ocM1 kVM1 dcM1 pmM1 cdM1 ctM1 ocU1 kVU1 dcU1 pmU1 cdU1 ctU1 ocA3 kVA3 dcA3 pmA3 cdA3 ctA3 ocB3 kVB3 dcB3 pmB3 cdB3 ctB3 ocC3 kVC3 dcC3 pmC3 cdC3 ctC3 ocD3 kVD3 dcD3 pmD3 cdD3 ctD3 ocA2 kVA2 dcA2 pmA2 cdA2 ctA2 ocW2 kVW2 dcW2 pmW2 cdW2 ctW2 ocX2 kVX2 dcX2 pmX2 cdX2 ctX2 ocN2 kVN2 dcN2 pmN2 cdN2 ctN2 ocE2 kVE2 dcE2 pmE2 cdE2 ctE2 ocS2 kVS2 dcS2 pmS2 cdS2 ctS2 ocT2 kVT2 dcT2 pmT2 cdT2 ctT2 ocH2 kVH2 dcH2 pmH2 cdH2 ctH2 ocV2 kVV2 dcV2 pmV2 cdV2 ctV2 ocR2 kVR2 dcR2 pmR2 cdR2 ctR2 ocZ kVZ dcZ pmZ cdZ ctZ : Value} {t_MOST_FIGURES_things t_MOST_SIGNS t_MOST_PARTS t_MOST_DEEP t_LONGEST t_BLANK t_PERCENT t_TILDE t_MOST_FIGURES_steps t_MOST_STEPS : Tok} {esR : Array DictEntry} {epR : Nat} {dMn : Option Addr} {mn1 mn2 : Tok} {nMn : Nat} {sMn : Array (Option Value)}
    (nrd : PySem.W.nsIn K mainGlobals "Reader" = some (some (.ref CRd)))
    (pgrd : PySem.W.plainGet K CRd Str.empty = true)
    (hdrd : PySem.W.hasDictIn K CRd = true)
    (pord : PySem.W.plainOver K CRd = true)
    (sard : PySem.W.findIn K (.ref CRd) "__setattr__" = some (some (.builtin "object.__setattr__")))
    (mkrd : PySem.W.makesIn K CRd = true)
    (kcrd : PySem.W.keepIn K (.ref CRd) = true)
    (nTx : PySem.W.findIn K (.ref CRd) "text" = some none)
    (nPl : PySem.W.findIn K (.ref CRd) "place" = some none)
    (ari : PySem.W.findIn K (.ref CRd) "__init__" = some (some (.ref fri)))
    (jri : PySem.W.isFn K (.ref fri) = true)
    (lri : K.lookup fri = some ⟨ocri, odri, .func (PySem.W.fnOf "__init__" "Reader.__init__" (defArgs m_Reader_init) (defBody m_Reader_init) (defScope m_Reader_init) .none kVri dcri pmri anri cdri ctri), slri⟩)
    (cri : PySem.W.codeIn K cdri "Reader.__init__" = true)
    (eri : PySem.W.keepIn K (.ref fri) = true)
    (arp : PySem.W.findIn K (.ref CRd) "passes" = some (some (.ref frp)))
    (jrp : PySem.W.isFn K (.ref frp) = true)
    (lrp : K.lookup frp = some ⟨ocrp, odrp, .func (PySem.W.fnOf "passes" "Reader.passes" (defArgs m_Reader_passes) (defBody m_Reader_passes) (defScope m_Reader_passes) .none kVrp dcrp pmrp anrp cdrp ctrp), slrp⟩)
    (crp : PySem.W.codeIn K cdrp "Reader.passes" = true)
    (erp : PySem.W.keepIn K (.ref frp) = true)
    (ara : PySem.W.findIn K (.ref CRd) "read_any" = some (some (.ref fra)))
    (jra : PySem.W.isFn K (.ref fra) = true)
    (lra : K.lookup fra = some ⟨ocra, odra, .func (PySem.W.fnOf "read_any" "Reader.read_any" (defArgs m_Reader_read_any) (defBody m_Reader_read_any) (defScope m_Reader_read_any) .none kVra dcra pmra anra cdra ctra), slra⟩)
    (cra : PySem.W.codeIn K cdra "Reader.read_any" = true)
    (era : PySem.W.keepIn K (.ref fra) = true)
    (arb : PySem.W.findIn K (.ref CRd) "read_below" = some (some (.ref frb)))
    (jrb : PySem.W.isFn K (.ref frb) = true)
    (lrb : K.lookup frb = some ⟨ocrb, odrb, .func (PySem.W.fnOf "read_below" "Reader.read_below" (defArgs m_Reader_read_below) (defBody m_Reader_read_below) (defScope m_Reader_read_below) .none kVrb dcrb pmrb anrb cdrb ctrb), slrb⟩)
    (crb : PySem.W.codeIn K cdrb "Reader.read_below" = true)
    (erb : PySem.W.keepIn K (.ref frb) = true)
    (arn : PySem.W.findIn K (.ref CRd) "read_number" = some (some (.ref frn)))
    (jrn : PySem.W.isFn K (.ref frn) = true)
    (lrn : K.lookup frn = some ⟨ocrn, odrn, .func (PySem.W.fnOf "read_number" "Reader.read_number" (defArgs m_Reader_read_number) (defBody m_Reader_read_number) (defScope m_Reader_read_number) .none kVrn dcrn pmrn anrn cdrn ctrn), slrn⟩)
    (crn : PySem.W.codeIn K cdrn "Reader.read_number" = true)
    (ern : PySem.W.keepIn K (.ref frn) = true)
    (arx : PySem.W.findIn K (.ref CRd) "read_signs" = some (some (.ref frx)))
    (jrx : PySem.W.isFn K (.ref frx) = true)
    (lrx : K.lookup frx = some ⟨ocrx, odrx, .func (PySem.W.fnOf "read_signs" "Reader.read_signs" (defArgs m_Reader_read_signs) (defBody m_Reader_read_signs) (defScope m_Reader_read_signs) .none kVrx dcrx pmrx anrx cdrx ctrx), slrx⟩)
    (crx : PySem.W.codeIn K cdrx "Reader.read_signs" = true)
    (erx : PySem.W.keepIn K (.ref frx) = true)
    (nwA : PySem.W.nsIn K mainGlobals "TakeStep" = some (some (.ref WA)))
    (pgwA : PySem.W.plainGet K WA Str.empty = true)
    (hdwA : PySem.W.hasDictIn K WA = true)
    (powA : PySem.W.plainOver K WA = true)
    (sawA : PySem.W.findIn K (.ref WA) "__setattr__" = some (some (.builtin "object.__setattr__")))
    (mkwA : PySem.W.makesIn K WA = true)
    (kcwA : PySem.W.keepIn K (.ref WA) = true)
    (nWwA : PySem.W.findIn K (.ref WA) "where" = some none)
    (nCwA : PySem.W.findIn K (.ref WA) "cell" = some none)
    (nLwA : PySem.W.findIn K (.ref WA) "low" = some none)
    (nHwA : PySem.W.findIn K (.ref WA) "high" = some none)
    (nAwA : PySem.W.findIn K (.ref WA) "amount" = some none)
    (uxiYA : PySem.W.findIn K (.ref WA) "__init__" = some (some (.ref fxiY)))
    (jxiY : PySem.W.isFn K (.ref fxiY) = true)
    (lxiY : K.lookup fxiY = some ⟨ocxiY, odxiY, .func (PySem.W.fnOf "__init__" "CellStep.__init__" (defArgs m_CellStep_init) (defBody m_CellStep_init) (defScope m_CellStep_init) .none kVxiY dcxiY pmxiY anxiY cdxiY ctxiY), slxiY⟩)
    (cxiY : PySem.W.codeIn K cdxiY "CellStep.__init__" = true)
    (exiY : PySem.W.keepIn K (.ref fxiY) = true)
    (uxhYA : PySem.W.findIn K (.ref WA) "house" = some (some (.ref fxhY)))
    (jxhY : PySem.W.isFn K (.ref fxhY) = true)
    (lxhY : K.lookup fxhY = some ⟨ocxhY, odxhY, .func (PySem.W.fnOf "house" "CellStep.house" (defArgs m_CellStep_house) (defBody m_CellStep_house) (defScope m_CellStep_house) .none kVxhY dcxhY pmxhY anxhY cdxhY ctxhY), slxhY⟩)
    (cxhY : PySem.W.codeIn K cdxhY "CellStep.house" = true)
    (exhY : PySem.W.keepIn K (.ref fxhY) = true)
    (uxsZA : PySem.W.findIn K (.ref WA) "sure" = some (some (.ref fxsZ)))
    (jxsZ : PySem.W.isFn K (.ref fxsZ) = true)
    (lxsZ : K.lookup fxsZ = some ⟨ocxsZ, odxsZ, .func (PySem.W.fnOf "sure" "Step.sure" (defArgs m_Step_sure) (defBody m_Step_sure) (defScope m_Step_sure) .none kVxsZ dcxsZ pmxsZ anxsZ cdxsZ ctxsZ), slxsZ⟩)
    (cxsZ : PySem.W.codeIn K cdxsZ "Step.sure" = true)
    (exsZ : PySem.W.keepIn K (.ref fxsZ) = true)
    (uxpAA : PySem.W.findIn K (.ref WA) "spelled" = some (some (.ref fxpA)))
    (jxpA : PySem.W.isFn K (.ref fxpA) = true)
    (lxpA : K.lookup fxpA = some ⟨ocxpA, odxpA, .func (PySem.W.fnOf "spelled" "TakeStep.spelled" (defArgs m_TakeStep_spelled) (defBody m_TakeStep_spelled) (defScope m_TakeStep_spelled) .none kVxpA dcxpA pmxpA anxpA cdxpA ctxpA), slxpA⟩)
    (cxpA : PySem.W.codeIn K cdxpA "TakeStep.spelled" = true)
    (expA : PySem.W.keepIn K (.ref fxpA) = true)
    (nwB : PySem.W.nsIn K mainGlobals "MeanStep" = some (some (.ref WB)))
    (pgwB : PySem.W.plainGet K WB Str.empty = true)
    (hdwB : PySem.W.hasDictIn K WB = true)
    (powB : PySem.W.plainOver K WB = true)
    (sawB : PySem.W.findIn K (.ref WB) "__setattr__" = some (some (.builtin "object.__setattr__")))
    (mkwB : PySem.W.makesIn K WB = true)
    (kcwB : PySem.W.keepIn K (.ref WB) = true)
    (nWwB : PySem.W.findIn K (.ref WB) "where" = some none)
    (nCwB : PySem.W.findIn K (.ref WB) "cell" = some none)
    (nLwB : PySem.W.findIn K (.ref WB) "low" = some none)
    (nHwB : PySem.W.findIn K (.ref WB) "high" = some none)
    (nAwB : PySem.W.findIn K (.ref WB) "amount" = some none)
    (uxiYB : PySem.W.findIn K (.ref WB) "__init__" = some (some (.ref fxiY)))
    (uxhYB : PySem.W.findIn K (.ref WB) "house" = some (some (.ref fxhY)))
    (uxsZB : PySem.W.findIn K (.ref WB) "sure" = some (some (.ref fxsZ)))
    (uxpBB : PySem.W.findIn K (.ref WB) "spelled" = some (some (.ref fxpB)))
    (jxpB : PySem.W.isFn K (.ref fxpB) = true)
    (lxpB : K.lookup fxpB = some ⟨ocxpB, odxpB, .func (PySem.W.fnOf "spelled" "MeanStep.spelled" (defArgs m_MeanStep_spelled) (defBody m_MeanStep_spelled) (defScope m_MeanStep_spelled) .none kVxpB dcxpB pmxpB anxpB cdxpB ctxpB), slxpB⟩)
    (cxpB : PySem.W.codeIn K cdxpB "MeanStep.spelled" = true)
    (expB : PySem.W.keepIn K (.ref fxpB) = true)
    (nwD : PySem.W.nsIn K mainGlobals "SumStep" = some (some (.ref WD)))
    (pgwD : PySem.W.plainGet K WD Str.empty = true)
    (hdwD : PySem.W.hasDictIn K WD = true)
    (powD : PySem.W.plainOver K WD = true)
    (sawD : PySem.W.findIn K (.ref WD) "__setattr__" = some (some (.builtin "object.__setattr__")))
    (mkwD : PySem.W.makesIn K WD = true)
    (kcwD : PySem.W.keepIn K (.ref WD) = true)
    (nWwD : PySem.W.findIn K (.ref WD) "where" = some none)
    (nCwD : PySem.W.findIn K (.ref WD) "cell" = some none)
    (nLwD : PySem.W.findIn K (.ref WD) "low" = some none)
    (nHwD : PySem.W.findIn K (.ref WD) "high" = some none)
    (nAwD : PySem.W.findIn K (.ref WD) "amount" = some none)
    (uxiDD : PySem.W.findIn K (.ref WD) "__init__" = some (some (.ref fxiD)))
    (jxiD : PySem.W.isFn K (.ref fxiD) = true)
    (lxiD : K.lookup fxiD = some ⟨ocxiD, odxiD, .func (PySem.W.fnOf "__init__" "SumStep.__init__" (defArgs m_SumStep_init) (defBody m_SumStep_init) (defScope m_SumStep_init) .none kVxiD dcxiD pmxiD anxiD cdxiD ctxiD), slxiD⟩)
    (cxiD : PySem.W.codeIn K cdxiD "SumStep.__init__" = true)
    (exiD : PySem.W.keepIn K (.ref fxiD) = true)
    (uxhDD : PySem.W.findIn K (.ref WD) "house" = some (some (.ref fxhD)))
    (jxhD : PySem.W.isFn K (.ref fxhD) = true)
    (lxhD : K.lookup fxhD = some ⟨ocxhD, odxhD, .func (PySem.W.fnOf "house" "SumStep.house" (defArgs m_SumStep_house) (defBody m_SumStep_house) (defScope m_SumStep_house) .none kVxhD dcxhD pmxhD anxhD cdxhD ctxhD), slxhD⟩)
    (cxhD : PySem.W.codeIn K cdxhD "SumStep.house" = true)
    (exhD : PySem.W.keepIn K (.ref fxhD) = true)
    (uxsZD : PySem.W.findIn K (.ref WD) "sure" = some (some (.ref fxsZ)))
    (uxpDD : PySem.W.findIn K (.ref WD) "spelled" = some (some (.ref fxpD)))
    (jxpD : PySem.W.isFn K (.ref fxpD) = true)
    (lxpD : K.lookup fxpD = some ⟨ocxpD, odxpD, .func (PySem.W.fnOf "spelled" "SumStep.spelled" (defArgs m_SumStep_spelled) (defBody m_SumStep_spelled) (defScope m_SumStep_spelled) .none kVxpD dcxpD pmxpD anxpD cdxpD ctxpD), slxpD⟩)
    (cxpD : PySem.W.codeIn K cdxpD "SumStep.spelled" = true)
    (expD : PySem.W.keepIn K (.ref fxpD) = true)
    (nwE : PySem.W.nsIn K mainGlobals "GiveStep" = some (some (.ref WE)))
    (pgwE : PySem.W.plainGet K WE Str.empty = true)
    (hdwE : PySem.W.hasDictIn K WE = true)
    (powE : PySem.W.plainOver K WE = true)
    (sawE : PySem.W.findIn K (.ref WE) "__setattr__" = some (some (.builtin "object.__setattr__")))
    (mkwE : PySem.W.makesIn K WE = true)
    (kcwE : PySem.W.keepIn K (.ref WE) = true)
    (nWwE : PySem.W.findIn K (.ref WE) "where" = some none)
    (nCwE : PySem.W.findIn K (.ref WE) "cell" = some none)
    (nLwE : PySem.W.findIn K (.ref WE) "low" = some none)
    (nHwE : PySem.W.findIn K (.ref WE) "high" = some none)
    (nAwE : PySem.W.findIn K (.ref WE) "amount" = some none)
    (uxiYE : PySem.W.findIn K (.ref WE) "__init__" = some (some (.ref fxiY)))
    (uxhYE : PySem.W.findIn K (.ref WE) "house" = some (some (.ref fxhY)))
    (uxsEE : PySem.W.findIn K (.ref WE) "sure" = some (some (.ref fxsE)))
    (jxsE : PySem.W.isFn K (.ref fxsE) = true)
    (lxsE : K.lookup fxsE = some ⟨ocxsE, odxsE, .func (PySem.W.fnOf "sure" "GiveStep.sure" (defArgs m_GiveStep_sure) (defBody m_GiveStep_sure) (defScope m_GiveStep_sure) .none kVxsE dcxsE pmxsE anxsE cdxsE ctxsE), slxsE⟩)
    (cxsE : PySem.W.codeIn K cdxsE "GiveStep.sure" = true)
    (exsE : PySem.W.keepIn K (.ref fxsE) = true)
    (uxpEE : PySem.W.findIn K (.ref WE) "spelled" = some (some (.ref fxpE)))
    (jxpE : PySem.W.isFn K (.ref fxpE) = true)
    (lxpE : K.lookup fxpE = some ⟨ocxpE, odxpE, .func (PySem.W.fnOf "spelled" "GiveStep.spelled" (defArgs m_GiveStep_spelled) (defBody m_GiveStep_spelled) (defScope m_GiveStep_spelled) .none kVxpE dcxpE pmxpE anxpE cdxpE ctxpE), slxpE⟩)
    (cxpE : PySem.W.codeIn K cdxpE "GiveStep.spelled" = true)
    (expE : PySem.W.keepIn K (.ref fxpE) = true)
    (nwF : PySem.W.nsIn K mainGlobals "AddStep" = some (some (.ref WF)))
    (pgwF : PySem.W.plainGet K WF Str.empty = true)
    (hdwF : PySem.W.hasDictIn K WF = true)
    (powF : PySem.W.plainOver K WF = true)
    (sawF : PySem.W.findIn K (.ref WF) "__setattr__" = some (some (.builtin "object.__setattr__")))
    (mkwF : PySem.W.makesIn K WF = true)
    (kcwF : PySem.W.keepIn K (.ref WF) = true)
    (nWwF : PySem.W.findIn K (.ref WF) "where" = some none)
    (nCwF : PySem.W.findIn K (.ref WF) "cell" = some none)
    (nLwF : PySem.W.findIn K (.ref WF) "low" = some none)
    (nHwF : PySem.W.findIn K (.ref WF) "high" = some none)
    (nAwF : PySem.W.findIn K (.ref WF) "amount" = some none)
    (uxiFF : PySem.W.findIn K (.ref WF) "__init__" = some (some (.ref fxiF)))
    (jxiF : PySem.W.isFn K (.ref fxiF) = true)
    (lxiF : K.lookup fxiF = some ⟨ocxiF, odxiF, .func (PySem.W.fnOf "__init__" "AddStep.__init__" (defArgs m_AddStep_init) (defBody m_AddStep_init) (defScope m_AddStep_init) .none kVxiF dcxiF pmxiF anxiF cdxiF ctxiF), slxiF⟩)
    (cxiF : PySem.W.codeIn K cdxiF "AddStep.__init__" = true)
    (exiF : PySem.W.keepIn K (.ref fxiF) = true)
    (uxhYF : PySem.W.findIn K (.ref WF) "house" = some (some (.ref fxhY)))
    (uxsZF : PySem.W.findIn K (.ref WF) "sure" = some (some (.ref fxsZ)))
    (uxpFF : PySem.W.findIn K (.ref WF) "spelled" = some (some (.ref fxpF)))
    (jxpF : PySem.W.isFn K (.ref fxpF) = true)
    (lxpF : K.lookup fxpF = some ⟨ocxpF, odxpF, .func (PySem.W.fnOf "spelled" "AddStep.spelled" (defArgs m_AddStep_spelled) (defBody m_AddStep_spelled) (defScope m_AddStep_spelled) .none kVxpF dcxpF pmxpF anxpF cdxpF ctxpF), slxpF⟩)
    (cxpF : PySem.W.codeIn K cdxpF "AddStep.spelled" = true)
    (expF : PySem.W.keepIn K (.ref fxpF) = true)
    (nwG : PySem.W.nsIn K mainGlobals "PlusStep" = some (some (.ref WG)))
    (pgwG : PySem.W.plainGet K WG Str.empty = true)
    (hdwG : PySem.W.hasDictIn K WG = true)
    (powG : PySem.W.plainOver K WG = true)
    (sawG : PySem.W.findIn K (.ref WG) "__setattr__" = some (some (.builtin "object.__setattr__")))
    (mkwG : PySem.W.makesIn K WG = true)
    (kcwG : PySem.W.keepIn K (.ref WG) = true)
    (nWwG : PySem.W.findIn K (.ref WG) "where" = some none)
    (nCwG : PySem.W.findIn K (.ref WG) "cell" = some none)
    (nLwG : PySem.W.findIn K (.ref WG) "low" = some none)
    (nHwG : PySem.W.findIn K (.ref WG) "high" = some none)
    (nAwG : PySem.W.findIn K (.ref WG) "amount" = some none)
    (uxiGG : PySem.W.findIn K (.ref WG) "__init__" = some (some (.ref fxiG)))
    (jxiG : PySem.W.isFn K (.ref fxiG) = true)
    (lxiG : K.lookup fxiG = some ⟨ocxiG, odxiG, .func (PySem.W.fnOf "__init__" "PlusStep.__init__" (defArgs m_PlusStep_init) (defBody m_PlusStep_init) (defScope m_PlusStep_init) .none kVxiG dcxiG pmxiG anxiG cdxiG ctxiG), slxiG⟩)
    (cxiG : PySem.W.codeIn K cdxiG "PlusStep.__init__" = true)
    (exiG : PySem.W.keepIn K (.ref fxiG) = true)
    (uxhZG : PySem.W.findIn K (.ref WG) "house" = some (some (.ref fxhZ)))
    (jxhZ : PySem.W.isFn K (.ref fxhZ) = true)
    (lxhZ : K.lookup fxhZ = some ⟨ocxhZ, odxhZ, .func (PySem.W.fnOf "house" "Step.house" (defArgs m_Step_house) (defBody m_Step_house) (defScope m_Step_house) .none kVxhZ dcxhZ pmxhZ anxhZ cdxhZ ctxhZ), slxhZ⟩)
    (cxhZ : PySem.W.codeIn K cdxhZ "Step.house" = true)
    (exhZ : PySem.W.keepIn K (.ref fxhZ) = true)
    (uxsZG : PySem.W.findIn K (.ref WG) "sure" = some (some (.ref fxsZ)))
    (uxpGG : PySem.W.findIn K (.ref WG) "spelled" = some (some (.ref fxpG)))
    (jxpG : PySem.W.isFn K (.ref fxpG) = true)
    (lxpG : K.lookup fxpG = some ⟨ocxpG, odxpG, .func (PySem.W.fnOf "spelled" "PlusStep.spelled" (defArgs m_PlusStep_spelled) (defBody m_PlusStep_spelled) (defScope m_PlusStep_spelled) .none kVxpG dcxpG pmxpG anxpG cdxpG ctxpG), slxpG⟩)
    (cxpG : PySem.W.codeIn K cdxpG "PlusStep.spelled" = true)
    (expG : PySem.W.keepIn K (.ref fxpG) = true)
    (nwN : PySem.W.nsIn K mainGlobals "NeedStep" = some (some (.ref WN)))
    (pgwN : PySem.W.plainGet K WN Str.empty = true)
    (hdwN : PySem.W.hasDictIn K WN = true)
    (powN : PySem.W.plainOver K WN = true)
    (sawN : PySem.W.findIn K (.ref WN) "__setattr__" = some (some (.builtin "object.__setattr__")))
    (mkwN : PySem.W.makesIn K WN = true)
    (kcwN : PySem.W.keepIn K (.ref WN) = true)
    (nWwN : PySem.W.findIn K (.ref WN) "where" = some none)
    (nCwN : PySem.W.findIn K (.ref WN) "cell" = some none)
    (nLwN : PySem.W.findIn K (.ref WN) "low" = some none)
    (nHwN : PySem.W.findIn K (.ref WN) "high" = some none)
    (nAwN : PySem.W.findIn K (.ref WN) "amount" = some none)
    (uxiNN : PySem.W.findIn K (.ref WN) "__init__" = some (some (.ref fxiN)))
    (jxiN : PySem.W.isFn K (.ref fxiN) = true)
    (lxiN : K.lookup fxiN = some ⟨ocxiN, odxiN, .func (PySem.W.fnOf "__init__" "NeedStep.__init__" (defArgs m_NeedStep_init) (defBody m_NeedStep_init) (defScope m_NeedStep_init) .none kVxiN dcxiN pmxiN anxiN cdxiN ctxiN), slxiN⟩)
    (cxiN : PySem.W.codeIn K cdxiN "NeedStep.__init__" = true)
    (exiN : PySem.W.keepIn K (.ref fxiN) = true)
    (uxhZN : PySem.W.findIn K (.ref WN) "house" = some (some (.ref fxhZ)))
    (uxsZN : PySem.W.findIn K (.ref WN) "sure" = some (some (.ref fxsZ)))
    (uxpNN : PySem.W.findIn K (.ref WN) "spelled" = some (some (.ref fxpN)))
    (jxpN : PySem.W.isFn K (.ref fxpN) = true)
    (lxpN : K.lookup fxpN = some ⟨ocxpN, odxpN, .func (PySem.W.fnOf "spelled" "NeedStep.spelled" (defArgs m_NeedStep_spelled) (defBody m_NeedStep_spelled) (defScope m_NeedStep_spelled) .none kVxpN dcxpN pmxpN anxpN cdxpN ctxpN), slxpN⟩)
    (cxpN : PySem.W.codeIn K cdxpN "NeedStep.spelled" = true)
    (expN : PySem.W.keepIn K (.ref fxpN) = true)
    (nCY : PySem.W.nsIn K mainGlobals "CellStep" = some (some (.ref CY)))
    (gaY : PySem.W.specialIn K (.ref CY) "__getattribute__" = some (some (.builtin "type.__getattribute__")))
    (rdY : PySem.W.readsIn K CY (.type "type") = true)
    (fcY : PySem.W.findCls K (.ref CY) (.type "type") "__init__" = some (.val (.ref fxiY)))
    (hiY : PySem.W.handedIn (.ref fxiY) = true)
    (nP : PySem.W.nsIn K mainGlobals "Pact" = some (some (.ref CP)))
    (pgP : PySem.W.plainGet K CP Str.empty = true)
    (hdP : PySem.W.hasDictIn K CP = true)
    (poP : PySem.W.plainOver K CP = true)
    (saP : PySem.W.findIn K (.ref CP) "__setattr__" = some (some (.builtin "object.__setattr__")))
    (mkP : PySem.W.makesIn K CP = true)
    (kcP : PySem.W.keepIn K (.ref CP) = true)
    (nPm : PySem.W.findIn K (.ref CP) "manner" = some none)
    (nPs : PySem.W.findIn K (.ref CP) "steps" = some none)
    (nPp : PySem.W.findIn K (.ref CP) "parts" = some none)
    (api : PySem.W.findIn K (.ref CP) "__init__" = some (some (.ref fpi)))
    (jpi : PySem.W.isFn K (.ref fpi) = true)
    (lpi : K.lookup fpi = some ⟨ocpi, odpi, .func (PySem.W.fnOf "__init__" "Pact.__init__" (defArgs m_Pact_init) (defBody m_Pact_init) (defScope m_Pact_init) .none kVpi dcpi pmpi anpi cdpi ctpi), slpi⟩)
    (cpi : PySem.W.codeIn K cdpi "Pact.__init__" = true)
    (epi : PySem.W.keepIn K (.ref fpi) = true)
    (aps : PySem.W.findIn K (.ref CP) "spelled" = some (some (.ref fps)))
    (jps : PySem.W.isFn K (.ref fps) = true)
    (lps : K.lookup fps = some ⟨ocps, odps, .func (PySem.W.fnOf "spelled" "Pact.spelled" (defArgs m_Pact_spelled) (defBody m_Pact_spelled) (defScope m_Pact_spelled) .none kVps dcps pmps anps cdps ctps), slps⟩)
    (cps : PySem.W.codeIn K cdps "Pact.spelled" = true)
    (eps : PySem.W.keepIn K (.ref fps) = true)
    (haP : PySem.W.findIn K (.ref CP) "__class__" = some (some (.builtin "object.__class__")))
    (hmP : PySem.W.mroIn K CP (.type "object") = some true)
    (iBP : PySem.W.kitOne K (.ref CP) (.ref CP) = some true)
    (hn : PySem.W.specialIn K (.builtin "object.__class__") "__get__" = some (some (.builtin "getset_descriptor.__get__")))
    (htk : PySem.W.takesIn K (.builtin "object.__class__") = some true)
    (aW1 : PySem.W.nsIn K mainGlobals "is_whole" = some (some (.ref fW1)))
    (lW1 : K.lookup fW1 = some ⟨ocW1, odW1, .func (PySem.W.fnOf "is_whole" "is_whole" (defArgs s_is_whole) (defBody s_is_whole) (defScope s_is_whole) .none kVW1 dcW1 pmW1 anW1 cdW1 ctW1), slW1⟩)
    (cW1 : PySem.W.codeIn K cdW1 "is_whole" = true)
    (eW1 : PySem.W.keepIn K (.ref fW1) = true)
    (aH1 : PySem.W.nsIn K mainGlobals "shown" = some (some (.ref fH1)))
    (lH1 : K.lookup fH1 = some ⟨ocH1, odH1, .func (PySem.W.fnOf "shown" "shown" (defArgs s_shown) (defBody s_shown) (defScope s_shown) .none kVH1 dcH1 pmH1 anH1 cdH1 ctH1), slH1⟩)
    (cH1 : PySem.W.codeIn K cdH1 "shown" = true)
    (eH1 : PySem.W.keepIn K (.ref fH1) = true)
    (aR1 : PySem.W.nsIn K mainGlobals "read_thing" = some (some (.ref fR1)))
    (lR1 : K.lookup fR1 = some ⟨ocR1, odR1, .func (PySem.W.fnOf "read_thing" "read_thing" (defArgs s_read_thing) (defBody s_read_thing) (defScope s_read_thing) .none kVR1 dcR1 pmR1 anR1 cdR1 ctR1), slR1⟩)
    (cR1 : PySem.W.codeIn K cdR1 "read_thing" = true)
    (eR1 : PySem.W.keepIn K (.ref fR1) = true)
    (aG1 : PySem.W.nsIn K mainGlobals "is_sign" = some (some (.ref fG1)))
    (lG1 : K.lookup fG1 = some ⟨ocG1, odG1, .func (PySem.W.fnOf "is_sign" "is_sign" (defArgs s_is_sign) (defBody s_is_sign) (defScope s_is_sign) .none kVG1 dcG1 pmG1 anG1 cdG1 ctG1), slG1⟩)
    (cG1 : PySem.W.codeIn K cdG1 "is_sign" = true)
    (eG1 : PySem.W.keepIn K (.ref fG1) = true)
    (aP1 : PySem.W.nsIn K mainGlobals "spell" = some (some (.ref fP1)))
    (lP1 : K.lookup fP1 = some ⟨ocP1, odP1, .func (PySem.W.fnOf "spell" "spell" (defArgs s_spell) (defBody s_spell) (defScope s_spell) .none kVP1 dcP1 pmP1 anP1 cdP1 ctP1), slP1⟩)
    (cP1 : PySem.W.codeIn K cdP1 "spell" = true)
    (eP1 : PySem.W.keepIn K (.ref fP1) = true)
    (aS1 : PySem.W.nsIn K mainGlobals "read_step" = some (some (.ref fS1)))
    (lS1 : K.lookup fS1 = some ⟨ocS1, odS1, .func (PySem.W.fnOf "read_step" "read_step" (defArgs s_read_step) (defBody s_read_step) (defScope s_read_step) .none kVS1 dcS1 pmS1 anS1 cdS1 ctS1), slS1⟩)
    (cS1 : PySem.W.codeIn K cdS1 "read_step" = true)
    (eS1 : PySem.W.keepIn K (.ref fS1) = true)
    (aN1 : PySem.W.nsIn K mainGlobals "read_number" = some (some (.ref fN1)))
    (lN1 : K.lookup fN1 = some ⟨ocN1, odN1, .func (PySem.W.fnOf "read_number" "read_number" (defArgs s_read_number) (defBody s_read_number) (defScope s_read_number) .none kVN1 dcN1 pmN1 anN1 cdN1 ctN1), slN1⟩)
    (cN1 : PySem.W.codeIn K cdN1 "read_number" = true)
    (eN1 : PySem.W.keepIn K (.ref fN1) = true)
    (aM1 : PySem.W.nsIn K mainGlobals "made_step" = some (some (.ref fM1)))
    (lM1 : K.lookup fM1 = some ⟨ocM1, odM1, .func (PySem.W.fnOf "made_step" "made_step" (defArgs s_made_step) (defBody s_made_step) (defScope s_made_step) .none kVM1 dcM1 pmM1 anM1 cdM1 ctM1), slM1⟩)
    (cM1 : PySem.W.codeIn K cdM1 "made_step" = true)
    (eM1 : PySem.W.keepIn K (.ref fM1) = true)
    (aU1 : PySem.W.nsIn K mainGlobals "made_sum" = some (some (.ref fU1)))
    (lU1 : K.lookup fU1 = some ⟨ocU1, odU1, .func (PySem.W.fnOf "made_sum" "made_sum" (defArgs s_made_sum) (defBody s_made_sum) (defScope s_made_sum) .none kVU1 dcU1 pmU1 anU1 cdU1 ctU1), slU1⟩)
    (cU1 : PySem.W.codeIn K cdU1 "made_sum" = true)
    (eU1 : PySem.W.keepIn K (.ref fU1) = true)
    (aA3 : PySem.W.nsIn K mainGlobals "read_part" = some (some (.ref fA3)))
    (lA3 : K.lookup fA3 = some ⟨ocA3, odA3, .func (PySem.W.fnOf "read_part" "read_part" (defArgs s_read_part) (defBody s_read_part) (defScope s_read_part) .none kVA3 dcA3 pmA3 anA3 cdA3 ctA3), slA3⟩)
    (cA3 : PySem.W.codeIn K cdA3 "read_part" = true)
    (eA3 : PySem.W.keepIn K (.ref fA3) = true)
    (aB3 : PySem.W.nsIn K mainGlobals "read_pact" = some (some (.ref fB3)))
    (lB3 : K.lookup fB3 = some ⟨ocB3, odB3, .func (PySem.W.fnOf "read_pact" "read_pact" (defArgs s_read_pact) (defBody s_read_pact) (defScope s_read_pact) .none kVB3 dcB3 pmB3 anB3 cdB3 ctB3), slB3⟩)
    (cB3 : PySem.W.codeIn K cdB3 "read_pact" = true)
    (eB3 : PySem.W.keepIn K (.ref fB3) = true)
    (aC3 : PySem.W.nsIn K mainGlobals "houses_of" = some (some (.ref fC3)))
    (lC3 : K.lookup fC3 = some ⟨ocC3, odC3, .func (PySem.W.fnOf "houses_of" "houses_of" (defArgs s_houses_of) (defBody s_houses_of) (defScope s_houses_of) .none kVC3 dcC3 pmC3 anC3 cdC3 ctC3), slC3⟩)
    (cC3 : PySem.W.codeIn K cdC3 "houses_of" = true)
    (eC3 : PySem.W.keepIn K (.ref fC3) = true)
    (aD3 : PySem.W.nsIn K mainGlobals "turning" = some (some (.ref fD3)))
    (lD3 : K.lookup fD3 = some ⟨ocD3, odD3, .func (PySem.W.fnOf "turning" "turning" (defArgs s_turning) (defBody s_turning) (defScope s_turning) .none kVD3 dcD3 pmD3 anD3 cdD3 ctD3), slD3⟩)
    (cD3 : PySem.W.codeIn K cdD3 "turning" = true)
    (eD3 : PySem.W.keepIn K (.ref fD3) = true)
    (aA2 : PySem.W.nsIn K mainGlobals "_law_cell" = some (some (.ref fA2)))
    (lA2 : K.lookup fA2 = some ⟨ocA2, odA2, .func (PySem.W.fnOf "_law_cell" "_law_cell" (defArgs s__law_cell) (defBody s__law_cell) (defScope s__law_cell) .none kVA2 dcA2 pmA2 anA2 cdA2 ctA2), slA2⟩)
    (cA2 : PySem.W.codeIn K cdA2 "_law_cell" = true)
    (eA2 : PySem.W.keepIn K (.ref fA2) = true)
    (aW2 : PySem.W.nsIn K mainGlobals "_law_whole" = some (some (.ref fW2)))
    (lW2 : K.lookup fW2 = some ⟨ocW2, odW2, .func (PySem.W.fnOf "_law_whole" "_law_whole" (defArgs s__law_whole) (defBody s__law_whole) (defScope s__law_whole) .none kVW2 dcW2 pmW2 anW2 cdW2 ctW2), slW2⟩)
    (cW2 : PySem.W.codeIn K cdW2 "_law_whole" = true)
    (eW2 : PySem.W.keepIn K (.ref fW2) = true)
    (aX2 : PySem.W.nsIn K mainGlobals "_law_mixed" = some (some (.ref fX2)))
    (lX2 : K.lookup fX2 = some ⟨ocX2, odX2, .func (PySem.W.fnOf "_law_mixed" "_law_mixed" (defArgs s__law_mixed) (defBody s__law_mixed) (defScope s__law_mixed) .none kVX2 dcX2 pmX2 anX2 cdX2 ctX2), slX2⟩)
    (cX2 : PySem.W.codeIn K cdX2 "_law_mixed" = true)
    (eX2 : PySem.W.keepIn K (.ref fX2) = true)
    (aN2 : PySem.W.nsIn K mainGlobals "_law_number" = some (some (.ref fN2)))
    (lN2 : K.lookup fN2 = some ⟨ocN2, odN2, .func (PySem.W.fnOf "_law_number" "_law_number" (defArgs s__law_number) (defBody s__law_number) (defScope s__law_number) .none kVN2 dcN2 pmN2 anN2 cdN2 ctN2), slN2⟩)
    (cN2 : PySem.W.codeIn K cdN2 "_law_number" = true)
    (eN2 : PySem.W.keepIn K (.ref fN2) = true)
    (aE2 : PySem.W.nsIn K mainGlobals "_law_either" = some (some (.ref fE2)))
    (lE2 : K.lookup fE2 = some ⟨ocE2, odE2, .func (PySem.W.fnOf "_law_either" "_law_either" (defArgs s__law_either) (defBody s__law_either) (defScope s__law_either) .none kVE2 dcE2 pmE2 anE2 cdE2 ctE2), slE2⟩)
    (cE2 : PySem.W.codeIn K cdE2 "_law_either" = true)
    (eE2 : PySem.W.keepIn K (.ref fE2) = true)
    (aS2 : PySem.W.nsIn K mainGlobals "_law_step" = some (some (.ref fS2)))
    (lS2 : K.lookup fS2 = some ⟨ocS2, odS2, .func (PySem.W.fnOf "_law_step" "_law_step" (defArgs s__law_step) (defBody s__law_step) (defScope s__law_step) .none kVS2 dcS2 pmS2 anS2 cdS2 ctS2), slS2⟩)
    (cS2 : PySem.W.codeIn K cdS2 "_law_step" = true)
    (eS2 : PySem.W.keepIn K (.ref fS2) = true)
    (aT2 : PySem.W.nsIn K mainGlobals "_law_text" = some (some (.ref fT2)))
    (lT2 : K.lookup fT2 = some ⟨ocT2, odT2, .func (PySem.W.fnOf "_law_text" "_law_text" (defArgs s__law_text) (defBody s__law_text) (defScope s__law_text) .none kVT2 dcT2 pmT2 anT2 cdT2 ctT2), slT2⟩)
    (cT2 : PySem.W.codeIn K cdT2 "_law_text" = true)
    (eT2 : PySem.W.keepIn K (.ref fT2) = true)
    (aH2 : PySem.W.nsIn K mainGlobals "_law_houses" = some (some (.ref fH2)))
    (lH2 : K.lookup fH2 = some ⟨ocH2, odH2, .func (PySem.W.fnOf "_law_houses" "_law_houses" (defArgs s__law_houses) (defBody s__law_houses) (defScope s__law_houses) .none kVH2 dcH2 pmH2 anH2 cdH2 ctH2), slH2⟩)
    (cH2 : PySem.W.codeIn K cdH2 "_law_houses" = true)
    (eH2 : PySem.W.keepIn K (.ref fH2) = true)
    (aV2 : PySem.W.nsIn K mainGlobals "_law_turning" = some (some (.ref fV2)))
    (lV2 : K.lookup fV2 = some ⟨ocV2, odV2, .func (PySem.W.fnOf "_law_turning" "_law_turning" (defArgs s__law_turning) (defBody s__law_turning) (defScope s__law_turning) .none kVV2 dcV2 pmV2 anV2 cdV2 ctV2), slV2⟩)
    (cV2 : PySem.W.codeIn K cdV2 "_law_turning" = true)
    (eV2 : PySem.W.keepIn K (.ref fV2) = true)
    (aR2 : PySem.W.nsIn K mainGlobals "_law_right" = some (some (.ref fR2)))
    (lR2 : K.lookup fR2 = some ⟨ocR2, odR2, .func (PySem.W.fnOf "_law_right" "_law_right" (defArgs s__law_right) (defBody s__law_right) (defScope s__law_right) .none kVR2 dcR2 pmR2 anR2 cdR2 ctR2), slR2⟩)
    (cR2 : PySem.W.codeIn K cdR2 "_law_right" = true)
    (eR2 : PySem.W.keepIn K (.ref fR2) = true)
    (aZ : PySem.W.nsIn K mainGlobals "law" = some (some (.ref fZ)))
    (lZ : K.lookup fZ = some ⟨ocZ, odZ, .func (PySem.W.fnOf "law" "law" (defArgs s_law) (defBody s_law) (defScope s_law) .none kVZ dcZ pmZ anZ cdZ ctZ), slZ⟩)
    (cZ : PySem.W.codeIn K cdZ "law" = true)
    (eZ : PySem.W.keepIn K (.ref fZ) = true)
    (y_isinstance : PySem.W.nsIn K mainGlobals "isinstance" = some none)
    (y_int : PySem.W.nsIn K mainGlobals "int" = some none)
    (y_bool : PySem.W.nsIn K mainGlobals "bool" = some none)
    (y_str : PySem.W.nsIn K mainGlobals "str" = some none)
    (y_len : PySem.W.nsIn K mainGlobals "len" = some none)
    (y_range : PySem.W.nsIn K mainGlobals "range" = some none)
    (y_tuple : PySem.W.nsIn K mainGlobals "tuple" = some none)
    (y_list : PySem.W.nsIn K mainGlobals "list" = some none)
    (y_any : PySem.W.nsIn K mainGlobals "any" = some none)
    (y_all : PySem.W.nsIn K mainGlobals "all" = some none)
    (y_max : PySem.W.nsIn K mainGlobals "max" = some none)
    (y_sorted : PySem.W.nsIn K mainGlobals "sorted" = some none)
    (y_min : PySem.W.nsIn K mainGlobals "min" = some none)
    (y_ord : PySem.W.nsIn K mainGlobals "ord" = some none)
    (y_set : PySem.W.nsIn K mainGlobals "set" = some none)
    (q_MOST_FIGURES_things : PySem.W.nsIn K mainGlobals "MOST_FIGURES_things" = some (some (.int 400 t_MOST_FIGURES_things)))
    (q_MOST_SIGNS : PySem.W.nsIn K mainGlobals "MOST_SIGNS" = some (some (.int 2000 t_MOST_SIGNS)))
    (q_MOST_PARTS : PySem.W.nsIn K mainGlobals "MOST_PARTS" = some (some (.int 2000 t_MOST_PARTS)))
    (q_MOST_DEEP : PySem.W.nsIn K mainGlobals "MOST_DEEP" = some (some (.int 8 t_MOST_DEEP)))
    (q_LONGEST : PySem.W.nsIn K mainGlobals "LONGEST" = some (some (.int 100000 t_LONGEST)))
    (q_BLANK : PySem.W.nsIn K mainGlobals "BLANK" = some (some (.int 32 t_BLANK)))
    (q_PERCENT : PySem.W.nsIn K mainGlobals "PERCENT" = some (some (.int 37 t_PERCENT)))
    (q_TILDE : PySem.W.nsIn K mainGlobals "TILDE" = some (some (.int 126 t_TILDE)))
    (q_MOST_FIGURES_steps : PySem.W.nsIn K mainGlobals "MOST_FIGURES_steps" = some (some (.int 40 t_MOST_FIGURES_steps)))
    (q_MOST_STEPS : PySem.W.nsIn K mainGlobals "MOST_STEPS" = some (some (.int 12 t_MOST_STEPS)))
    (nSh : PySem.W.nsIn K mainGlobals "SHAPES" = some (some (.ref aSh)))
    (lSh : K.lookup aSh = some ⟨.type "dict", none, .dict esR epR, #[]⟩)
    (qSh : (aSh == sysModules) = false)
    (tSh : PyProof.Rows.KTD.rowsLook datL esR.toList shapesD = true)
    (nMnn : PySem.W.nsIn K mainGlobals "MANNERS" = some (some (.ref aMn)))
    (lMn : K.lookup aMn = some ⟨.type "tuple", dMn, .seq #[.str "held" mn1, .str "walked" mn2] nMn, sMn⟩)
    (nNo : PySem.W.nsIn K mainGlobals "NoThing" = some (some (.ref CNo)))
    (xNo : PySem.W.excIn K CNo bmV "ValueError.__new__" = true) :
    ∃ fd : FuncData, (∀ (s : Shared) (v : Value), BindsTo s fd ⟨[v], []⟩ [("_law_script", v)]) ∧ ∀ base : Heap, K.In base → base.Ns mainGlobals mg → FnOk l.prog w K mg base CX0 9 fa fd ["_law_script"] (spLaw K) := by
  have e := hfa.symm.trans (PySem.W.mg_of X G aZ)
  cases e
  have Fri := fun_mk (st := m_Reader_init) lri cri eri
  have bri := Fri.binds (ps := ["self", "text"]) fun _ _ _ _ _ _ us hl => match us, hl with | [_, _], _ => rfl
  have Frp := fun_mk (st := m_Reader_passes) lrp crp erp
  have brp := Frp.binds (ps := ["self", "sign"]) fun _ _ _ _ _ _ us hl => match us, hl with | [_, _], _ => rfl
  have Fra := fun_mk (st := m_Reader_read_any) lra cra era
  have bra := Fra.binds (ps := ["self", "deep"]) fun _ _ _ _ _ _ us hl => match us, hl with | [_, _], _ => rfl
  have Frb := fun_mk (st := m_Reader_read_below) lrb crb erb
  have brb := Frb.binds (ps := ["self"]) fun _ _ _ _ _ _ us hl => match us, hl with | [_], _ => rfl
  have Frn := fun_mk (st := m_Reader_read_number) lrn crn ern
  have brn := Frn.binds (ps := ["self"]) fun _ _ _ _ _ _ us hl => match us, hl with | [_], _ => rfl
  have Frx := fun_mk (st := m_Reader_read_signs) lrx crx erx
  have brx := Frx.binds (ps := ["self", "many"]) fun _ _ _ _ _ _ us hl => match us, hl with | [_, _], _ => rfl
  have FxiY := fun_mk (st := m_CellStep_init) lxiY cxiY exiY
  have bxiY := FxiY.binds (ps := ["self", "where", "cell"]) fun _ _ _ _ _ _ us hl => match us, hl with | [_, _, _], _ => rfl
  have FxhY := fun_mk (st := m_CellStep_house) lxhY cxhY exhY
  have bxhY := FxhY.binds (ps := ["self"]) fun _ _ _ _ _ _ us hl => match us, hl with | [_], _ => rfl
  have FxsZ := fun_mk (st := m_Step_sure) lxsZ cxsZ exsZ
  have bxsZ := FxsZ.binds (ps := ["self"]) fun _ _ _ _ _ _ us hl => match us, hl with | [_], _ => rfl
  have FxpA := fun_mk (st := m_TakeStep_spelled) lxpA cxpA expA
  have bxpA := FxpA.binds (ps := ["self"]) fun _ _ _ _ _ _ us hl => match us, hl with | [_], _ => rfl
  have FxpB := fun_mk (st := m_MeanStep_spelled) lxpB cxpB expB
  have bxpB := FxpB.binds (ps := ["self"]) fun _ _ _ _ _ _ us hl => match us, hl with | [_], _ => rfl
  have FxiD := fun_mk (st := m_SumStep_init) lxiD cxiD exiD
  have bxiD := FxiD.binds (ps := ["self", "where", "low", "high"]) fun _ _ _ _ _ _ us hl => match us, hl with | [_, _, _, _], _ => rfl
  have FxhD := fun_mk (st := m_SumStep_house) lxhD cxhD exhD
  have bxhD := FxhD.binds (ps := ["self"]) fun _ _ _ _ _ _ us hl => match us, hl with | [_], _ => rfl
  have FxpD := fun_mk (st := m_SumStep_spelled) lxpD cxpD expD
  have bxpD := FxpD.binds (ps := ["self"]) fun _ _ _ _ _ _ us hl => match us, hl with | [_], _ => rfl
  have FxsE := fun_mk (st := m_GiveStep_sure) lxsE cxsE exsE
  have bxsE := FxsE.binds (ps := ["self"]) fun _ _ _ _ _ _ us hl => match us, hl with | [_], _ => rfl
  have FxpE := fun_mk (st := m_GiveStep_spelled) lxpE cxpE expE
  have bxpE := FxpE.binds (ps := ["self"]) fun _ _ _ _ _ _ us hl => match us, hl with | [_], _ => rfl
  have FxiF := fun_mk (st := m_AddStep_init) lxiF cxiF exiF
  have bxiF := FxiF.binds (ps := ["self", "where", "cell", "amount"]) fun _ _ _ _ _ _ us hl => match us, hl with | [_, _, _, _], _ => rfl
  have FxpF := fun_mk (st := m_AddStep_spelled) lxpF cxpF expF
  have bxpF := FxpF.binds (ps := ["self"]) fun _ _ _ _ _ _ us hl => match us, hl with | [_], _ => rfl
  have FxiG := fun_mk (st := m_PlusStep_init) lxiG cxiG exiG
  have bxiG := FxiG.binds (ps := ["self", "amount"]) fun _ _ _ _ _ _ us hl => match us, hl with | [_, _], _ => rfl
  have FxhZ := fun_mk (st := m_Step_house) lxhZ cxhZ exhZ
  have bxhZ := FxhZ.binds (ps := ["self"]) fun _ _ _ _ _ _ us hl => match us, hl with | [_], _ => rfl
  have FxpG := fun_mk (st := m_PlusStep_spelled) lxpG cxpG expG
  have bxpG := FxpG.binds (ps := ["self"]) fun _ _ _ _ _ _ us hl => match us, hl with | [_], _ => rfl
  have FxiN := fun_mk (st := m_NeedStep_init) lxiN cxiN exiN
  have bxiN := FxiN.binds (ps := ["self", "amount"]) fun _ _ _ _ _ _ us hl => match us, hl with | [_, _], _ => rfl
  have FxpN := fun_mk (st := m_NeedStep_spelled) lxpN cxpN expN
  have bxpN := FxpN.binds (ps := ["self"]) fun _ _ _ _ _ _ us hl => match us, hl with | [_], _ => rfl
  have W : TxW K (wmk WA WB WD WE WF WG WN) := ⟨fun k => match k with | .take => ⟨pgwA, hdwA, powA, sawA⟩ | .mean => ⟨pgwB, hdwB, powB, sawB⟩ | .sum => ⟨pgwD, hdwD, powD, sawD⟩ | .give => ⟨pgwE, hdwE, powE, sawE⟩ | .add => ⟨pgwF, hdwF, powF, sawF⟩ | .plus => ⟨pgwG, hdwG, powG, sawG⟩ | .need => ⟨pgwN, hdwN, powN, sawN⟩, fun k => match k with | .take => nWwA | .mean => nWwB | .sum => nWwD | .give => nWwE | .add => nWwF | .plus => nWwG | .need => nWwN, fun k => match k with | .take => nCwA | .mean => nCwB | .sum => nCwD | .give => nCwE | .add => nCwF | .plus => nCwG | .need => nCwN, fun k => match k with | .take => nLwA | .mean => nLwB | .sum => nLwD | .give => nLwE | .add => nLwF | .plus => nLwG | .need => nLwN, fun k => match k with | .take => nHwA | .mean => nHwB | .sum => nHwD | .give => nHwE | .add => nHwF | .plus => nHwG | .need => nHwN, fun k => match k with | .take => nAwA | .mean => nAwB | .sum => nAwD | .give => nAwE | .add => nAwF | .plus => nAwG | .need => nAwN⟩
  have Fpi := fun_mk (st := m_Pact_init) lpi cpi epi
  have bpi := Fpi.binds (ps := ["self", "manner", "steps"]) fun _ _ _ _ _ _ us hl => match us, hl with | [_, _, _], _ => rfl
  have Fps := fun_mk (st := m_Pact_spelled) lps cps eps
  have bps := Fps.binds (ps := ["self"]) fun _ _ _ _ _ _ us hl => match us, hl with | [_], _ => rfl
  have TP : TxP K CP := ⟨⟨pgP, hdP, poP, saP⟩, nPm, nPs, nPp⟩
  have TQ : TxQ K mg CP := ⟨PySem.W.mg_of X G nP, haP, hn, htk, hmP, iBP⟩
  have FW1 := fun_mk (st := s_is_whole) lW1 cW1 eW1
  have bW1 := FW1.binds (ps := ["thing"]) fun _ _ _ _ _ _ us hl => match us, hl with | [_], _ => rfl
  have mW1 : mg "is_whole" = some (.ref fW1) := PySem.W.mg_of X G aW1
  have FH1 := fun_mk (st := s_shown) lH1 cH1 eH1
  have bH1 := FH1.binds (ps := ["thing"]) fun _ _ _ _ _ _ us hl => match us, hl with | [_], _ => rfl
  have mH1 : mg "shown" = some (.ref fH1) := PySem.W.mg_of X G aH1
  have FR1 := fun_mk (st := s_read_thing) lR1 cR1 eR1
  have bR1 := FR1.binds (ps := ["text"]) fun _ _ _ _ _ _ us hl => match us, hl with | [_], _ => rfl
  have mR1 : mg "read_thing" = some (.ref fR1) := PySem.W.mg_of X G aR1
  have FG1 := fun_mk (st := s_is_sign) lG1 cG1 eG1
  have bG1 := FG1.binds (ps := ["sign"]) fun _ _ _ _ _ _ us hl => match us, hl with | [_], _ => rfl
  have mG1 : mg "is_sign" = some (.ref fG1) := PySem.W.mg_of X G aG1
  have FP1 := fun_mk (st := s_spell) lP1 cP1 eP1
  have bP1 := FP1.binds (ps := ["word", "numbers"]) fun _ _ _ _ _ _ us hl => match us, hl with | [_, _], _ => rfl
  have mP1 : mg "spell" = some (.ref fP1) := PySem.W.mg_of X G aP1
  have FS1 := fun_mk (st := s_read_step) lS1 cS1 eS1
  have bS1 := FS1.binds (ps := ["text"]) fun _ _ _ _ _ _ us hl => match us, hl with | [_], _ => rfl
  have mS1 : mg "read_step" = some (.ref fS1) := PySem.W.mg_of X G aS1
  have FN1 := fun_mk (st := s_read_number) lN1 cN1 eN1
  have bN1 := FN1.binds (ps := ["word", "letter"]) fun _ _ _ _ _ _ us hl => match us, hl with | [_, _], _ => rfl
  have mN1 : mg "read_number" = some (.ref fN1) := PySem.W.mg_of X G aN1
  have FM1 := fun_mk (st := s_made_step) lM1 cM1 eM1
  have bM1 := FM1.binds (ps := ["word", "numbers"]) fun _ _ _ _ _ _ us hl => match us, hl with | [_, _], _ => rfl
  have mM1 : mg "made_step" = some (.ref fM1) := PySem.W.mg_of X G aM1
  have FU1 := fun_mk (st := s_made_sum) lU1 cU1 eU1
  have bU1 := FU1.binds (ps := ["where", "low", "high"]) fun _ _ _ _ _ _ us hl => match us, hl with | [_, _, _], _ => rfl
  have mU1 : mg "made_sum" = some (.ref fU1) := PySem.W.mg_of X G aU1
  have FA3 := fun_mk (st := s_read_part) lA3 cA3 eA3
  have bA3 := FA3.binds (ps := ["text", "number"]) fun _ _ _ _ _ _ us hl => match us, hl with | [_, _], _ => rfl
  have mA3 : mg "read_part" = some (.ref fA3) := PySem.W.mg_of X G aA3
  have FB3 := fun_mk (st := s_read_pact) lB3 cB3 eB3
  have bB3 := FB3.binds (ps := ["text"]) fun _ _ _ _ _ _ us hl => match us, hl with | [_], _ => rfl
  have mB3 : mg "read_pact" = some (.ref fB3) := PySem.W.mg_of X G aB3
  have FC3 := fun_mk (st := s_houses_of) lC3 cC3 eC3
  have bC3 := FC3.binds (ps := ["pact"]) fun _ _ _ _ _ _ us hl => match us, hl with | [_], _ => rfl
  have mC3 : mg "houses_of" = some (.ref fC3) := PySem.W.mg_of X G aC3
  have FD3 := fun_mk (st := s_turning) lD3 cD3 eD3
  have bD3 := FD3.binds (ps := ["pact"]) fun _ _ _ _ _ _ us hl => match us, hl with | [_], _ => rfl
  have mD3 : mg "turning" = some (.ref fD3) := PySem.W.mg_of X G aD3
  have FA2 := fun_mk (st := s__law_cell) lA2 cA2 eA2
  have bA2 := FA2.binds (ps := ["_law_script", "_law_k"]) fun _ _ _ _ _ _ us hl => match us, hl with | [_, _], _ => rfl
  have mA2 : mg "_law_cell" = some (.ref fA2) := PySem.W.mg_of X G aA2
  have FW2 := fun_mk (st := s__law_whole) lW2 cW2 eW2
  have bW2 := FW2.binds (ps := ["_law_found"]) fun _ _ _ _ _ _ us hl => match us, hl with | [_], _ => rfl
  have mW2 : mg "_law_whole" = some (.ref fW2) := PySem.W.mg_of X G aW2
  have FX2 := fun_mk (st := s__law_mixed) lX2 cX2 eX2
  have bX2 := FX2.binds (ps := ["_law_cell_here", "_law_k"]) fun _ _ _ _ _ _ us hl => match us, hl with | [_, _], _ => rfl
  have mX2 : mg "_law_mixed" = some (.ref fX2) := PySem.W.mg_of X G aX2
  have FN2 := fun_mk (st := s__law_number) lN2 cN2 eN2
  have bN2 := FN2.binds (ps := ["_law_cell_here", "_law_k"]) fun _ _ _ _ _ _ us hl => match us, hl with | [_, _], _ => rfl
  have mN2 : mg "_law_number" = some (.ref fN2) := PySem.W.mg_of X G aN2
  have FE2 := fun_mk (st := s__law_either) lE2 cE2 eE2
  have bE2 := FE2.binds (ps := ["_law_cell_here", "_law_k"]) fun _ _ _ _ _ _ us hl => match us, hl with | [_, _], _ => rfl
  have mE2 : mg "_law_either" = some (.ref fE2) := PySem.W.mg_of X G aE2
  have FS2 := fun_mk (st := s__law_step) lS2 cS2 eS2
  have bS2 := FS2.binds (ps := ["_law_cell_here"]) fun _ _ _ _ _ _ us hl => match us, hl with | [_], _ => rfl
  have mS2 : mg "_law_step" = some (.ref fS2) := PySem.W.mg_of X G aS2
  have FT2 := fun_mk (st := s__law_text) lT2 cT2 eT2
  have bT2 := FT2.binds (ps := ["_law_step_here"]) fun _ _ _ _ _ _ us hl => match us, hl with | [_], _ => rfl
  have mT2 : mg "_law_text" = some (.ref fT2) := PySem.W.mg_of X G aT2
  have FH2 := fun_mk (st := s__law_houses) lH2 cH2 eH2
  have bH2 := FH2.binds (ps := ["_law_steps"]) fun _ _ _ _ _ _ us hl => match us, hl with | [_], _ => rfl
  have mH2 : mg "_law_houses" = some (.ref fH2) := PySem.W.mg_of X G aH2
  have FV2 := fun_mk (st := s__law_turning) lV2 cV2 eV2
  have bV2 := FV2.binds (ps := ["_law_steps"]) fun _ _ _ _ _ _ us hl => match us, hl with | [_], _ => rfl
  have mV2 : mg "_law_turning" = some (.ref fV2) := PySem.W.mg_of X G aV2
  have FR2 := fun_mk (st := s__law_right) lR2 cR2 eR2
  have bR2 := FR2.binds (ps := ["_law_pact", "_law_manner", "_law_steps"]) fun _ _ _ _ _ _ us hl => match us, hl with | [_, _, _], _ => rfl
  have mR2 : mg "_law_right" = some (.ref fR2) := PySem.W.mg_of X G aR2
  have FZ := fun_mk (st := s_law) lZ cZ eZ
  have B : TxB mg := ⟨PySem.W.mg_none_of X G y_isinstance, PySem.W.mg_none_of X G y_int, PySem.W.mg_none_of X G y_bool, PySem.W.mg_none_of X G y_str, PySem.W.mg_none_of X G y_len, PySem.W.mg_none_of X G y_range, PySem.W.mg_none_of X G y_tuple, PySem.W.mg_none_of X G y_list, PySem.W.mg_none_of X G y_any, PySem.W.mg_none_of X G y_all, PySem.W.mg_none_of X G y_max, PySem.W.mg_none_of X G y_sorted⟩
  have TT : K24T.Tx K mg CRd := ⟨⟨pgrd, hdrd, pord, sard⟩, nTx, nPl, PySem.W.mg_of X G nrd, PySem.W.mg_none_of X G y_isinstance, PySem.W.mg_none_of X G y_int, PySem.W.mg_none_of X G y_bool, PySem.W.mg_none_of X G y_str, PySem.W.mg_none_of X G y_len, PySem.W.mg_none_of X G y_ord, PySem.W.mg_none_of X G y_all, PySem.W.mg_none_of X G y_range, ⟨_, PySem.W.mg_of X G q_MOST_FIGURES_things⟩, ⟨_, PySem.W.mg_of X G q_MOST_SIGNS⟩, ⟨_, PySem.W.mg_of X G q_MOST_DEEP⟩, ⟨_, PySem.W.mg_of X G q_LONGEST⟩, ⟨_, PySem.W.mg_of X G q_BLANK⟩, ⟨_, PySem.W.mg_of X G q_PERCENT⟩, ⟨_, PySem.W.mg_of X G q_TILDE⟩⟩
  have tM : ∀ H, SqT K H aMn [.str "held", .str "walked"] := fun H => .inr ⟨_, _, _, lMn, rfl, rfl, (by show 2 ≤ sizeLine; decide), .cons ⟨mn1, rfl⟩ (.cons ⟨mn2, rfl⟩ .nil)⟩
  refine ⟨PySem.W.fnOf "law" "law" (defArgs s_law) (defBody s_law) (defScope s_law) .none kVZ dcZ pmZ anZ cdZ ctZ, fun s v => .of_eq rfl, fun base _ _ => ?_⟩
  have GCI := ok_cinit (P := l.prog) (w := w) (mg := mg) (base := base) FxiY W
  have WI : ∀ wd, WI l.prog w K mg base (wmk WA WB WD WE WF WG WN) wd := fun wd => match wd with | .take => ⟨fxiY, _, _, ⟨mkwA, uxiYA, jxiY, kcwA⟩, (GCI.imp fun _ _ _ _ z => cinit_w rfl z).mono (by decide), bxiY, PySem.W.mg_of X G nwA⟩ | .mean => ⟨fxiY, _, _, ⟨mkwB, uxiYB, jxiY, kcwB⟩, (GCI.imp fun _ _ _ _ z => cinit_w rfl z).mono (by decide), bxiY, PySem.W.mg_of X G nwB⟩ | .sum => ⟨fxiD, _, _, ⟨mkwD, uxiDD, jxiD, kcwD⟩, (ok_sinit FxiD W).mono (by decide), bxiD, PySem.W.mg_of X G nwD⟩ | .give => ⟨fxiY, _, _, ⟨mkwE, uxiYE, jxiY, kcwE⟩, (GCI.imp fun _ _ _ _ z => cinit_w rfl z).mono (by decide), bxiY, PySem.W.mg_of X G nwE⟩ | .add => ⟨fxiF, _, _, ⟨mkwF, uxiFF, jxiF, kcwF⟩, ok_ainit FxiF W (PySem.W.mg_of X G nCY) ⟨gaY, rdY, fcY, hiY, exiY⟩ GCI bxiY, bxiF, PySem.W.mg_of X G nwF⟩ | .plus => ⟨fxiG, _, _, ⟨mkwG, uxiGG, jxiG, kcwG⟩, (ok_pinit FxiG W).mono (by decide), bxiG, PySem.W.mg_of X G nwG⟩ | .need => ⟨fxiN, _, _, ⟨mkwN, uxiNN, jxiN, kcwN⟩, (ok_ninit FxiN W).mono (by decide), bxiN, PySem.W.mg_of X G nwN⟩ 
  have Hi := K24T.ok_init (P := l.prog) (w := w) (mg := mg) (base := base) Fri TT
  have Hp := K24T.ok_pass (P := l.prog) (w := w) (mg := mg) (base := base) Frp TT
  have Hn := K24T.ok_num (P := l.prog) (w := w) (mg := mg) (base := base) Frn TT
  have Hx := K24T.ok_signs (P := l.prog) (w := w) (mg := mg) (base := base) Frx TT
  have Mrn : Meth K CRd "read_number" frn := ⟨arn, jrn, ern⟩
  have Mrp : Meth K CRd "passes" frp := ⟨arp, jrp, erp⟩
  have Mrb : Meth K CRd "read_below" frb := ⟨arb, jrb, erb⟩
  have Mrx : Meth K CRd "read_signs" frx := ⟨arx, jrx, erx⟩
  have Mra : Meth K CRd "read_any" fra := ⟨ara, jra, era⟩
  have Hb := K24T.ok_below Frb TT Hn brn Mrn
  have Ha := K24T.ok_any Fra TT Hp brp Mrp Hb brb Mrb Hn brn Mrn Hx brx Mrx
  have HG := K24T.ok_sign (P := l.prog) (w := w) (mg := mg) (base := base) FG1 TT
  have HW := K24T.ok_whole (P := l.prog) (w := w) (mg := mg) (base := base) FW1 TT
  have GW1 : GF l.prog w K mg base CX0 1 "is_whole" ["thing"] K24T.spWhole := ⟨fW1, _, HW, bW1, eW1, mW1⟩
  have GH1 : GF l.prog w K mg base CX0 2 "shown" ["thing"] K24T.spShown := ⟨fH1, _, K24T.ok_shown FH1 TT HW bW1 eW1 mW1, bH1, eH1, mH1⟩
  have GR1 : GF l.prog w K mg base CX0 4 "read_thing" ["text"] K24T.spRead := ⟨fR1, _, K24T.ok_read FR1 TT ⟨mkrd, ari, jri, kcrd⟩ HG bG1 eG1 mG1 Hi bri Ha bra Mra, bR1, eR1, mR1⟩
  have GP1 : GF l.prog w K mg base CX0 3 "spell" ["word", "numbers"] spSpell := ⟨fP1, _, ok_spell FP1 GH1, bP1, eP1, mP1⟩
  have GU1 : GF l.prog w K mg base CX0 4 "made_sum" ["where", "low", "high"] (spMSum (wmk WA WB WD WE WF WG WN)) := ⟨fU1, _, ok_msum FU1 (WI .sum), bU1, eU1, mU1⟩
  have GM1 : GF l.prog w K mg base CX0 5 "made_step" ["word", "numbers"] (spMade (wmk WA WB WD WE WF WG WN)) := ⟨fM1, _, ok_mstep FM1 WI GU1, bM1, eM1, mM1⟩
  have GN1 : GF l.prog w K mg base CX0 5 "read_number" ["word", "letter"] spRNum := ⟨fN1, _, ok_rnum FN1 B (PySem.W.mg_of X G nNo) xNo (by decide +kernel) ⟨_, PySem.W.mg_of X G q_MOST_FIGURES_steps⟩ GR1 GW1, bN1, eN1, mN1⟩
  have GS1 : GF l.prog w K mg base CX0 6 "read_step" ["text"] (spRStep (wmk WA WB WD WE WF WG WN)) := ⟨fS1, _, ok_rstep FS1 B (PySem.W.mg_of X G nSh) (tab_mk lSh qSh tSh) GN1 GM1, bS1, eS1, mS1⟩
  have GA2 : GF l.prog w K mg base CX0 1 "_law_cell" ["_law_script", "_law_k"] (spCell K) := ⟨fA2, _, ok_lcell FA2 B, bA2, eA2, mA2⟩
  have GW2 : GF l.prog w K mg base CX0 1 "_law_whole" ["_law_found"] Lo.spWhole := ⟨fW2, _, ok_whole FW2 B, bW2, eW2, mW2⟩
  have GX2 : GF l.prog w K mg base CX0 1 "_law_mixed" ["_law_cell_here", "_law_k"] spMixed := ⟨fX2, _, ok_mixed FX2, bX2, eX2, mX2⟩
  have GN2 : GF l.prog w K mg base CX0 2 "_law_number" ["_law_cell_here", "_law_k"] spNumber := ⟨fN2, _, ok_number FN2 B GX2, bN2, eN2, mN2⟩
  have GE2 : GF l.prog w K mg base CX0 3 "_law_either" ["_law_cell_here", "_law_k"] spEither := ⟨fE2, _, ok_either FE2 GX2 GN2, bE2, eE2, mE2⟩
  have GS2 : GF l.prog w K mg base CX0 4 "_law_step" ["_law_cell_here"] spLStep := ⟨fS2, _, ok_lstep FS2 B (PySem.W.mg_none_of X G y_min) GN2 GE2, bS2, eS2, mS2⟩
  have GT2 : GF l.prog w K mg base CX0 1 "_law_text" ["_law_step_here"] spLText := ⟨fT2, _, ok_ltext FT2 B, bT2, eT2, mT2⟩
  have Gh : ∀ wd, GM l.prog w K mg base CX0 1 ((wmk WA WB WD WE WF WG WN) wd) "house" ["self"] (spHouse (wmk WA WB WD WE WF WG WN) wd) := fun wd => match wd with | .take => ⟨fxhY, _, ok_hcell (.inl rfl) FxhY W, bxhY, ⟨uxhYA, jxhY, exhY⟩⟩ | .mean => ⟨fxhY, _, ok_hcell (.inl rfl) FxhY W, bxhY, ⟨uxhYB, jxhY, exhY⟩⟩ | .sum => ⟨fxhD, _, ok_hsum FxhD W, bxhD, ⟨uxhDD, jxhD, exhD⟩⟩ | .give => ⟨fxhY, _, ok_hcell (.inl rfl) FxhY W, bxhY, ⟨uxhYE, jxhY, exhY⟩⟩ | .add => ⟨fxhY, _, ok_hcell (.inr rfl) FxhY W, bxhY, ⟨uxhYF, jxhY, exhY⟩⟩ | .plus => ⟨fxhZ, _, ok_hnone (.inl rfl) FxhZ, bxhZ, ⟨uxhZG, jxhZ, exhZ⟩⟩ | .need => ⟨fxhZ, _, ok_hnone (.inr rfl) FxhZ, bxhZ, ⟨uxhZN, jxhZ, exhZ⟩⟩ 
  have Gs : ∀ wd, GM l.prog w K mg base CX0 1 ((wmk WA WB WD WE WF WG WN) wd) "sure" ["self"] (spSure wd) := fun wd => match wd with | .take => ⟨fxsZ, _, ok_snone (by decide) FxsZ, bxsZ, ⟨uxsZA, jxsZ, exsZ⟩⟩ | .mean => ⟨fxsZ, _, ok_snone (by decide) FxsZ, bxsZ, ⟨uxsZB, jxsZ, exsZ⟩⟩ | .sum => ⟨fxsZ, _, ok_snone (by decide) FxsZ, bxsZ, ⟨uxsZD, jxsZ, exsZ⟩⟩ | .give => ⟨fxsE, _, ok_sgive FxsE, bxsE, ⟨uxsEE, jxsE, exsE⟩⟩ | .add => ⟨fxsZ, _, ok_snone (by decide) FxsZ, bxsZ, ⟨uxsZF, jxsZ, exsZ⟩⟩ | .plus => ⟨fxsZ, _, ok_snone (by decide) FxsZ, bxsZ, ⟨uxsZG, jxsZ, exsZ⟩⟩ | .need => ⟨fxsZ, _, ok_snone (by decide) FxsZ, bxsZ, ⟨uxsZN, jxsZ, exsZ⟩⟩ 
  have Gp : ∀ wd, GM l.prog w K mg base CX0 4 ((wmk WA WB WD WE WF WG WN) wd) "spelled" ["self"] (spSpelled (wmk WA WB WD WE WF WG WN) wd) := fun wd => match wd with | .take => ⟨fxpA, _, ok_ptake FxpA W GP1, bxpA, ⟨uxpAA, jxpA, expA⟩⟩ | .mean => ⟨fxpB, _, ok_pmean FxpB W GP1, bxpB, ⟨uxpBB, jxpB, expB⟩⟩ | .sum => ⟨fxpD, _, ok_psum FxpD W GP1, bxpD, ⟨uxpDD, jxpD, expD⟩⟩ | .give => ⟨fxpE, _, ok_pgive FxpE W GP1, bxpE, ⟨uxpEE, jxpE, expE⟩⟩ | .add => ⟨fxpF, _, ok_padd FxpF W GP1, bxpF, ⟨uxpFF, jxpF, expF⟩⟩ | .plus => ⟨fxpG, _, ok_pplus FxpG W GP1, bxpG, ⟨uxpGG, jxpG, expG⟩⟩ | .need => ⟨fxpN, _, ok_pneed FxpN W GP1, bxpN, ⟨uxpNN, jxpN, expN⟩⟩ 
  have GPI := ok_painit (P := l.prog) (w := w) (mg := mg) (base := base) Fpi B TP
  have GPS : GM l.prog w K mg base CX0 5 CP "spelled" ["self"] (spPSp CP (wmk WA WB WD WE WF WG WN)) := ⟨fps, _, ok_pasp Fps B TP W Gp, bps, ⟨aps, jps, eps⟩⟩
  have GA3 : GF l.prog w K mg base CX0 7 "read_part" ["text", "number"] (spRPart (wmk WA WB WD WE WF WG WN)) := ⟨fA3, _, ok_rpart FA3 GS1, bA3, eA3, mA3⟩
  have GB3 : GF l.prog w K mg base CX0 8 "read_pact" ["text"] (spRPact CP (wmk WA WB WD WE WF WG WN)) := ⟨fB3, _, ok_rpact FB3 B (PySem.W.mg_of X G nMnn) tM ⟨_, PySem.W.mg_of X G q_MOST_STEPS⟩ ⟨mkP, api, jpi, kcP⟩ (PySem.W.mg_of X G nP) GPI bpi GA3, bB3, eB3, mB3⟩
  have GC3 : GF l.prog w K mg base CX0 2 "houses_of" ["pact"] (spHouses CP (wmk WA WB WD WE WF WG WN)) := ⟨fC3, _, ok_houses FC3 B (PySem.W.mg_none_of X G y_set) TP W Gh, bC3, eC3, mC3⟩
  have GD3 : GF l.prog w K mg base CX0 2 "turning" ["pact"] (spTurn CP (wmk WA WB WD WE WF WG WN)) := ⟨fD3, _, ok_turning FD3 B TP W Gs, bD3, eD3, mD3⟩
  have GH2 : GF l.prog w K mg base CX0 1 "_law_houses" ["_law_steps"] spLHs := ⟨fH2, _, ok_lhs FH2 B, bH2, eH2, mH2⟩
  have GV2 : GF l.prog w K mg base CX0 1 "_law_turning" ["_law_steps"] spLTn := ⟨fV2, _, ok_ltn FV2 B, bV2, eV2, mV2⟩
  have GR2 : GF l.prog w K mg base CX0 5 "_law_right" ["_law_pact", "_law_manner", "_law_steps"] (spLRt CP (wmk WA WB WD WE WF WG WN)) := ⟨fR2, _, ok_lrt FR2 B TP TQ W GW2 Gp GT2 GC3 GH2 GD3 GV2, bR2, eR2, mR2⟩
  exact ok_law FZ B TP ⟨mkP, api, jpi, kcP⟩ (PySem.W.mg_of X G nP) GPI bpi GA2 GS2 GT2 GS1 GB3 GR2 GPS
theorem walk {l : PySem.W.OpenLaw} {q : Program} {loose : List Str} {XP : (Str → Option Value) → Heap → Prop} {YP : World → Heap → Prop} {d : DefRec} {K : Params → PySem.W.Frag} (hn : l.most = some 63) (hdf : d.params.defaults = [])
    (hY : ∀ (w : World) (h : Heap), YP w h → (K w.params).In h)
    (F : ∀ (w : World) (mg : Str → Option Value) (fa : Addr) (h : Heap), (K w.params).In h → h.Ns mainGlobals mg → mg d.name = some (.ref fa) →
      ∃ fd : FuncData, (∀ (s : Shared) (u : Value), BindsTo s fd ⟨[u], []⟩ [("_law_script", u)]) ∧ ∀ base : Heap, (K w.params).In base → base.Ns mainGlobals mg → FnOk l.prog w (K w.params) mg base CX0 9 fa fd ["_law_script"] (spLaw (K w.params))) :
    PySem.W.WalkO q loose XP YP l.row.toRowW d [] (fun f vs => PySem.call f vs) :=
  L2.walk_of (n := 63) (k := 9) (x := "_law_script") (CX := fun _ => CX0) (sp := fun w => spLaw (K w.params)) hn (by decide) hdf ⟨rfl, by decide, by decide⟩ hY F (fun _ _ a ns hl _ hS => ⟨a, ns, rfl, hS, hl, fun _ => rfl⟩) fun _ _ _ _ _ z => z
end K24
open PySem PySem.W PyProof.Rows
set_option maxRecDepth 100000 in
set_option maxHeartbeats 0 in
theorem PySem.Challenge.cw_pactroom_k24_pacts_there_and_back_holds : PySem.Challenge.rw_pactroom_k24_pacts_there_and_back.Holds := by
  w_on; o_law
  refine holds_open (q := Q.qv) (loose := Q.lo) (Xt := Q.Xt) (XP := XL Q.qv Q.lvv) (Yf := Hook.obs (kHook Q.Kf Q.Ka Q.ke)) (Ya := Hook.val (kHook Q.Kf Q.Ka Q.ke)) (YP := Hook.says (kHook Q.Kf Q.Ka Q.ke)) (N := 10786) Q.left (Hook.of (kHook Q.Kf Q.Ka Q.ke)) (Hook.keeps (kHook Q.Kf Q.Ka Q.ke)) (fun s e => xl_of s (Bool.and_eq_true_iff.mp e).1) XL.keeps (by rfl) (by rfl) (by rfl) (fun s e => recFacts_of (Bool.and_eq_true_iff.mp e).2) (by rfl) (by first | assumption | decide +kernel) (by decide +kernel) ⟨rfl, rfl, rfl, rfl, rfl, by decide +kernel⟩ ?hw ?hc
  (case hw => w_witness2)
  k_fill
  refine K24.walk (l := PySem.Challenge.rw_pactroom_k24_pacts_there_and_back) rfl rfl (fun w h Y => PySem.W.kIn_of Y) ?F
  case F =>
    intro w mg fa h KX G hmg
    refine' K24.all_mk KX G hmg ?nrd ?pgrd ?hdrd ?pord ?sard ?mkrd ?kcrd ?nTx ?nPl ?ari ?jri ?lri ?cri ?eri ?arp ?jrp ?lrp ?crp ?erp ?ara ?jra ?lra ?cra ?era ?arb ?jrb ?lrb ?crb ?erb ?arn ?jrn ?lrn ?crn ?ern ?arx ?jrx ?lrx ?crx ?erx ?nwA ?pgwA ?hdwA ?powA ?sawA ?mkwA ?kcwA ?nWwA ?nCwA ?nLwA ?nHwA ?nAwA ?uxiYA ?jxiY ?lxiY ?cxiY ?exiY ?uxhYA ?jxhY ?lxhY ?cxhY ?exhY ?uxsZA ?jxsZ ?lxsZ ?cxsZ ?exsZ ?uxpAA ?jxpA ?lxpA ?cxpA ?expA ?nwB ?pgwB ?hdwB ?powB ?sawB ?mkwB ?kcwB ?nWwB ?nCwB ?nLwB ?nHwB ?nAwB ?uxiYB ?uxhYB ?uxsZB ?uxpBB ?jxpB ?lxpB ?cxpB ?expB ?nwD ?pgwD ?hdwD ?powD ?sawD ?mkwD ?kcwD ?nWwD ?nCwD ?nLwD ?nHwD ?nAwD ?uxiDD ?jxiD ?lxiD ?cxiD ?exiD ?uxhDD ?jxhD ?lxhD ?cxhD ?exhD ?uxsZD ?uxpDD ?jxpD ?lxpD ?cxpD ?expD ?nwE ?pgwE ?hdwE ?powE ?sawE ?mkwE ?kcwE ?nWwE ?nCwE ?nLwE ?nHwE ?nAwE ?uxiYE ?uxhYE ?uxsEE ?jxsE ?lxsE ?cxsE ?exsE ?uxpEE ?jxpE ?lxpE ?cxpE ?expE ?nwF ?pgwF ?hdwF ?powF ?sawF ?mkwF ?kcwF ?nWwF ?nCwF ?nLwF ?nHwF ?nAwF ?uxiFF ?jxiF ?lxiF ?cxiF ?exiF ?uxhYF ?uxsZF ?uxpFF ?jxpF ?lxpF ?cxpF ?expF ?nwG ?pgwG ?hdwG ?powG ?sawG ?mkwG ?kcwG ?nWwG ?nCwG ?nLwG ?nHwG ?nAwG ?uxiGG ?jxiG ?lxiG ?cxiG ?exiG ?uxhZG ?jxhZ ?lxhZ ?cxhZ ?exhZ ?uxsZG ?uxpGG ?jxpG ?lxpG ?cxpG ?expG ?nwN ?pgwN ?hdwN ?powN ?sawN ?mkwN ?kcwN ?nWwN ?nCwN ?nLwN ?nHwN ?nAwN ?uxiNN ?jxiN ?lxiN ?cxiN ?exiN ?uxhZN ?uxsZN ?uxpNN ?jxpN ?lxpN ?cxpN ?expN ?nCY ?gaY ?rdY ?fcY ?hiY ?nP ?pgP ?hdP ?poP ?saP ?mkP ?kcP ?nPm ?nPs ?nPp ?api ?jpi ?lpi ?cpi ?epi ?aps ?jps ?lps ?cps ?eps ?haP ?hmP ?iBP ?hn ?htk ?aW1 ?lW1 ?cW1 ?eW1 ?aH1 ?lH1 ?cH1 ?eH1 ?aR1 ?lR1 ?cR1 ?eR1 ?aG1 ?lG1 ?cG1 ?eG1 ?aP1 ?lP1 ?cP1 ?eP1 ?aS1 ?lS1 ?cS1 ?eS1 ?aN1 ?lN1 ?cN1 ?eN1 ?aM1 ?lM1 ?cM1 ?eM1 ?aU1 ?lU1 ?cU1 ?eU1 ?aA3 ?lA3 ?cA3 ?eA3 ?aB3 ?lB3 ?cB3 ?eB3 ?aC3 ?lC3 ?cC3 ?eC3 ?aD3 ?lD3 ?cD3 ?eD3 ?aA2 ?lA2 ?cA2 ?eA2 ?aW2 ?lW2 ?cW2 ?eW2 ?aX2 ?lX2 ?cX2 ?eX2 ?aN2 ?lN2 ?cN2 ?eN2 ?aE2 ?lE2 ?cE2 ?eE2 ?aS2 ?lS2 ?cS2 ?eS2 ?aT2 ?lT2 ?cT2 ?eT2 ?aH2 ?lH2 ?cH2 ?eH2 ?aV2 ?lV2 ?cV2 ?eV2 ?aR2 ?lR2 ?cR2 ?eR2 ?aZ ?lZ ?cZ ?eZ ?y_isinstance ?y_int ?y_bool ?y_str ?y_len ?y_range ?y_tuple ?y_list ?y_any ?y_all ?y_max ?y_sorted ?y_min ?y_ord ?y_set ?q_MOST_FIGURES_things ?q_MOST_SIGNS ?q_MOST_PARTS ?q_MOST_DEEP ?q_LONGEST ?q_BLANK ?q_PERCENT ?q_TILDE ?q_MOST_FIGURES_steps ?q_MOST_STEPS ?nSh ?lSh ?qSh ?tSh ?nMnn ?lMn ?nNo ?xNo
    (case nrd => k_is)
    (case pgrd => k_is)
    (case hdrd => k_is)
    (case pord => k_is)
    (case sard => k_is)
    (case mkrd => k_is)
    (case kcrd => k_is)
    (case nTx => k_is)
    (case nPl => k_is)
    (case ari => k_is)
    (case jri => k_is)
    (case lri => k_is)
    (case cri => k_is)
    (case eri => k_is)
    (case arp => k_is)
    (case jrp => k_is)
    (case lrp => k_is)
    (case crp => k_is)
    (case erp => k_is)
    (case ara => k_is)
    (case jra => k_is)
    (case lra => k_is)
    (case cra => k_is)
    (case era => k_is)
    (case arb => k_is)
    (case jrb => k_is)
    (case lrb => k_is)
    (case crb => k_is)
    (case erb => k_is)
    (case arn => k_is)
    (case jrn => k_is)
    (case lrn => k_is)
    (case crn => k_is)
    (case ern => k_is)
    (case arx => k_is)
    (case jrx => k_is)
    (case lrx => k_is)
    (case crx => k_is)
    (case erx => k_is)
    (case nwA => k_is)
    (case pgwA => k_is)
    (case hdwA => k_is)
    (case powA => k_is)
    (case sawA => k_is)
    (case mkwA => k_is)
    (case kcwA => k_is)
    (case nWwA => k_is)
    (case nCwA => k_is)
    (case nLwA => k_is)
    (case nHwA => k_is)
    (case nAwA => k_is)
    (case uxiYA => k_is)
    (case jxiY => k_is)
    (case lxiY => k_is)
    (case cxiY => k_is)
    (case exiY => k_is)
    (case uxhYA => k_is)
    (case jxhY => k_is)
    (case lxhY => k_is)
    (case cxhY => k_is)
    (case exhY => k_is)
    (case uxsZA => k_is)
    (case jxsZ => k_is)
    (case lxsZ => k_is)
    (case cxsZ => k_is)
    (case exsZ => k_is)
    (case uxpAA => k_is)
    (case jxpA => k_is)
    (case lxpA => k_is)
    (case cxpA => k_is)
    (case expA => k_is)
    (case nwB => k_is)
    (case pgwB => k_is)
    (case hdwB => k_is)
    (case powB => k_is)
    (case sawB => k_is)
    (case mkwB => k_is)
    (case kcwB => k_is)
    (case nWwB => k_is)
    (case nCwB => k_is)
    (case nLwB => k_is)
    (case nHwB => k_is)
    (case nAwB => k_is)
    (case uxiYB => k_is)
    (case uxhYB => k_is)
    (case uxsZB => k_is)
    (case uxpBB => k_is)
    (case jxpB => k_is)
    (case lxpB => k_is)
    (case cxpB => k_is)
    (case expB => k_is)
    (case nwD => k_is)
    (case pgwD => k_is)
    (case hdwD => k_is)
    (case powD => k_is)
    (case sawD => k_is)
    (case mkwD => k_is)
    (case kcwD => k_is)
    (case nWwD => k_is)
    (case nCwD => k_is)
    (case nLwD => k_is)
    (case nHwD => k_is)
    (case nAwD => k_is)
    (case uxiDD => k_is)
    (case jxiD => k_is)
    (case lxiD => k_is)
    (case cxiD => k_is)
    (case exiD => k_is)
    (case uxhDD => k_is)
    (case jxhD => k_is)
    (case lxhD => k_is)
    (case cxhD => k_is)
    (case exhD => k_is)
    (case uxsZD => k_is)
    (case uxpDD => k_is)
    (case jxpD => k_is)
    (case lxpD => k_is)
    (case cxpD => k_is)
    (case expD => k_is)
    (case nwE => k_is)
    (case pgwE => k_is)
    (case hdwE => k_is)
    (case powE => k_is)
    (case sawE => k_is)
    (case mkwE => k_is)
    (case kcwE => k_is)
    (case nWwE => k_is)
    (case nCwE => k_is)
    (case nLwE => k_is)
    (case nHwE => k_is)
    (case nAwE => k_is)
    (case uxiYE => k_is)
    (case uxhYE => k_is)
    (case uxsEE => k_is)
    (case jxsE => k_is)
    (case lxsE => k_is)
    (case cxsE => k_is)
    (case exsE => k_is)
    (case uxpEE => k_is)
    (case jxpE => k_is)
    (case lxpE => k_is)
    (case cxpE => k_is)
    (case expE => k_is)
    (case nwF => k_is)
    (case pgwF => k_is)
    (case hdwF => k_is)
    (case powF => k_is)
    (case sawF => k_is)
    (case mkwF => k_is)
    (case kcwF => k_is)
    (case nWwF => k_is)
    (case nCwF => k_is)
    (case nLwF => k_is)
    (case nHwF => k_is)
    (case nAwF => k_is)
    (case uxiFF => k_is)
    (case jxiF => k_is)
    (case lxiF => k_is)
    (case cxiF => k_is)
    (case exiF => k_is)
    (case uxhYF => k_is)
    (case uxsZF => k_is)
    (case uxpFF => k_is)
    (case jxpF => k_is)
    (case lxpF => k_is)
    (case cxpF => k_is)
    (case expF => k_is)
    (case nwG => k_is)
    (case pgwG => k_is)
    (case hdwG => k_is)
    (case powG => k_is)
    (case sawG => k_is)
    (case mkwG => k_is)
    (case kcwG => k_is)
    (case nWwG => k_is)
    (case nCwG => k_is)
    (case nLwG => k_is)
    (case nHwG => k_is)
    (case nAwG => k_is)
    (case uxiGG => k_is)
    (case jxiG => k_is)
    (case lxiG => k_is)
    (case cxiG => k_is)
    (case exiG => k_is)
    (case uxhZG => k_is)
    (case jxhZ => k_is)
    (case lxhZ => k_is)
    (case cxhZ => k_is)
    (case exhZ => k_is)
    (case uxsZG => k_is)
    (case uxpGG => k_is)
    (case jxpG => k_is)
    (case lxpG => k_is)
    (case cxpG => k_is)
    (case expG => k_is)
    (case nwN => k_is)
    (case pgwN => k_is)
    (case hdwN => k_is)
    (case powN => k_is)
    (case sawN => k_is)
    (case mkwN => k_is)
    (case kcwN => k_is)
    (case nWwN => k_is)
    (case nCwN => k_is)
    (case nLwN => k_is)
    (case nHwN => k_is)
    (case nAwN => k_is)
    (case uxiNN => k_is)
    (case jxiN => k_is)
    (case lxiN => k_is)
    (case cxiN => k_is)
    (case exiN => k_is)
    (case uxhZN => k_is)
    (case uxsZN => k_is)
    (case uxpNN => k_is)
    (case jxpN => k_is)
    (case lxpN => k_is)
    (case cxpN => k_is)
    (case expN => k_is)
    (case nCY => k_is)
    (case gaY => k_is)
    (case rdY => k_is)
    (case fcY => k_is)
    (case hiY => rfl)
    (case nP => k_is)
    (case pgP => k_is)
    (case hdP => k_is)
    (case poP => k_is)
    (case saP => k_is)
    (case mkP => k_is)
    (case kcP => k_is)
    (case nPm => k_is)
    (case nPs => k_is)
    (case nPp => k_is)
    (case api => k_is)
    (case jpi => k_is)
    (case lpi => k_is)
    (case cpi => k_is)
    (case epi => k_is)
    (case aps => k_is)
    (case jps => k_is)
    (case lps => k_is)
    (case cps => k_is)
    (case eps => k_is)
    (case haP => k_is)
    (case hmP => k_is)
    (case iBP => kit_is)
    (case hn => k_is)
    (case htk => k_is)
    (case aW1 => k_is)
    (case lW1 => k_is)
    (case cW1 => k_is)
    (case eW1 => k_is)
    (case aH1 => k_is)
    (case lH1 => k_is)
    (case cH1 => k_is)
    (case eH1 => k_is)
    (case aR1 => k_is)
    (case lR1 => k_is)
    (case cR1 => k_is)
    (case eR1 => k_is)
    (case aG1 => k_is)
    (case lG1 => k_is)
    (case cG1 => k_is)
    (case eG1 => k_is)
    (case aP1 => k_is)
    (case lP1 => k_is)
    (case cP1 => k_is)
    (case eP1 => k_is)
    (case aS1 => k_is)
    (case lS1 => k_is)
    (case cS1 => k_is)
    (case eS1 => k_is)
    (case aN1 => k_is)
    (case lN1 => k_is)
    (case cN1 => k_is)
    (case eN1 => k_is)
    (case aM1 => k_is)
    (case lM1 => k_is)
    (case cM1 => k_is)
    (case eM1 => k_is)
    (case aU1 => k_is)
    (case lU1 => k_is)
    (case cU1 => k_is)
    (case eU1 => k_is)
    (case aA3 => k_is)
    (case lA3 => k_is)
    (case cA3 => k_is)
    (case eA3 => k_is)
    (case aB3 => k_is)
    (case lB3 => k_is)
    (case cB3 => k_is)
    (case eB3 => k_is)
    (case aC3 => k_is)
    (case lC3 => k_is)
    (case cC3 => k_is)
    (case eC3 => k_is)
    (case aD3 => k_is)
    (case lD3 => k_is)
    (case cD3 => k_is)
    (case eD3 => k_is)
    (case aA2 => k_is)
    (case lA2 => k_is)
    (case cA2 => k_is)
    (case eA2 => k_is)
    (case aW2 => k_is)
    (case lW2 => k_is)
    (case cW2 => k_is)
    (case eW2 => k_is)
    (case aX2 => k_is)
    (case lX2 => k_is)
    (case cX2 => k_is)
    (case eX2 => k_is)
    (case aN2 => k_is)
    (case lN2 => k_is)
    (case cN2 => k_is)
    (case eN2 => k_is)
    (case aE2 => k_is)
    (case lE2 => k_is)
    (case cE2 => k_is)
    (case eE2 => k_is)
    (case aS2 => k_is)
    (case lS2 => k_is)
    (case cS2 => k_is)
    (case eS2 => k_is)
    (case aT2 => k_is)
    (case lT2 => k_is)
    (case cT2 => k_is)
    (case eT2 => k_is)
    (case aH2 => k_is)
    (case lH2 => k_is)
    (case cH2 => k_is)
    (case eH2 => k_is)
    (case aV2 => k_is)
    (case lV2 => k_is)
    (case cV2 => k_is)
    (case eV2 => k_is)
    (case aR2 => k_is)
    (case lR2 => k_is)
    (case cR2 => k_is)
    (case eR2 => k_is)
    (case aZ => k_is)
    (case lZ => k_is)
    (case cZ => k_is)
    (case eZ => k_is)
    (case y_isinstance => k_is)
    (case y_int => k_is)
    (case y_bool => k_is)
    (case y_str => k_is)
    (case y_len => k_is)
    (case y_range => k_is)
    (case y_tuple => k_is)
    (case y_list => k_is)
    (case y_any => k_is)
    (case y_all => k_is)
    (case y_max => k_is)
    (case y_sorted => k_is)
    (case y_min => k_is)
    (case y_ord => k_is)
    (case y_set => k_is)
    (case q_MOST_FIGURES_things => k_is)
    (case q_MOST_SIGNS => k_is)
    (case q_MOST_PARTS => k_is)
    (case q_MOST_DEEP => k_is)
    (case q_LONGEST => k_is)
    (case q_BLANK => k_is)
    (case q_PERCENT => k_is)
    (case q_TILDE => k_is)
    (case q_MOST_FIGURES_steps => k_is)
    (case q_MOST_STEPS => k_is)
    (case nSh => k_is)
    (case lSh => k_is)
    (case qSh => rfl)
    (case tSh => kernel_rfl)
    (case nMnn => k_is)
    (case lMn => k_is)
    (case nNo => k_is)
    (case xNo => k_exc)
#print axioms PySem.Challenge.cw_pactroom_k24_pacts_there_and_back_holds
