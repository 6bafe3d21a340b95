import PyProof.Rows.All
import Wide.All
import OpenK.AllK
import Wide.FinOn
import Lean
import PyProof.EqAt
import PyProof.EqKinds
import PyProof.TupleCall
import PySem.Challenge.RW_pactroom_k15_who_waits_is_hindered
set_option Elab.async false
set_option linter.all false
set_option maxRecDepth 100000
namespace L2
open PySem PySem.Spec PyProof.Rows
/-! ### iterators that end while an error is being handled -/
/-- the error at x has no other error behind it -/
def NoCtx (h : Heap) (x : Addr) : Prop := ∃ ox fs, h.get? x = some ox ∧ ox.data = .fields fs ∧ fs[2]? = some .none
theorem NoCtx.keeps {h h' : Heap} {x : Addr} (n : NoCtx h x) (k : ∀ o, h.get? x = some o → h'.get? x = some o) : NoCtx h' x := by
  obtain ⟨ox, fs, e, d, z⟩ := n
  exact ⟨ox, fs, k _ e, d, z⟩
/-- nothing is handled, or an error with nothing behind it -/
def QtH (A : Around) (h : Heap) : Prop := A.handled = none ∨ ∃ x, A.handled = some (.ref x) ∧ NoCtx h x
theorem QtH.keeps {A : Around} {h h' : Heap} (q : QtH A h) (k : ∀ b o, h.get? b = some o → h'.get? b = some o) : QtH A h' :=
  q.imp id fun ⟨x, e, n⟩ => ⟨x, e, n.keeps (k x)⟩
section
variable {prog : Program} {w : World} {A : Around} {E : Value → Shared → Prop} {s : Shared}
theorem unchain_none {x : Addr} {e sl : Value} {Q : Value → Shared → Prop} (n : NoCtx s.heap x) (q : Q .none s) :
    wpAny (model prog w) A (runValue (.builtin "proto.unchain" ⟨[e, .ref x, sl, .bool false], []⟩)) Q E s := by
  obtain ⟨ox, fs, hx, hd, h2⟩ := n
  refine wpAny_runValue (codeAny_builtin (entryFor_of_tree (b := Builtin.«proto.unchain») (by kernel_rfl)) ?_)
  show wpAny _ _ (field (.ref x) 2 >>= _) _ _ s
  refine wpAny_bind (wpAny_field hx hd h2 ?_)
  exact wpAny_pure q
/-- a new StopIteration is raised -/
theorem stop_raise {α : Type} {Q : α → Shared → Prop} (hq : QtH A s.heap)
    (h : ∀ h' e, (∀ b o, s.heap.get? b = some o → h'.get? b = some o) → (∃ oe, h'.get? e = some oe ∧ oe.cls = .type "StopIteration") → E (.ref e) { s with heap := h' }) :
    wpAny (model prog w) A (newExc (.type "StopIteration") [] >>= fun e => (raiseNew e : Sem α)) Q E s := by
  refine wpAny_bind ?_; simp only [newExc, newTuple]
  refine wpAny_bind (wpAny_newObj_type ?_ (by size_fits)); refine wpAny_bind (m := firstArgMember _ _) (wpAny_of_eq (a := Value.none) (by first | rfl | (simp only [firstArgMember]; rfl)) ?_)
  refine wpAny_newObj_type ?_ (by size_fits); simp only [raiseNew]
  refine wpAny_bind (wpAny_handled ?_)
  have kp : ∀ (u v : Obj) b o, s.heap.get? b = some o → ((s.heap.push u).push v).get? b = some o := fun u v b o e => Heap.get?_push_of_some _ (Heap.get?_push_of_some _ e)
  rcases hq with hh | ⟨x, hh, n⟩
  · rw [hh]; exact wpAny_bind (wpAny_pure (wpAny_throw (h _ _ (kp _ _) ⟨_, Heap.get?_push_size _ rfl, rfl⟩)))
  · rw [hh]
    have xl : x < s.heap.objs.size := by
      obtain ⟨ox, _, e, _⟩ := id n
      exact Heap.lt_size e
    dsimp only
    rw [if_pos (by simp; exact Nat.ne_of_lt (Nat.lt_succ_of_lt xl))]
    refine wpAny_bind (wpAny_holding (unchain_none (n.keeps (kp _ _ x)) ?_))
    refine wpAny_bind ?_
    simp only [updateField]
    refine wpAny_bind (wpAny_load (Heap.get?_push_size _ rfl) ?_)
    dsimp only
    rw [if_pos (by simp; exact Nat.lt_of_lt_of_le (show 2 < 6 by decide) (Nat.le_add_right _ _))]
    refine wpAny_update (Heap.get?_push_size _ rfl) (wpAny_throw (h _ _ (fun b o eb => ?_) ⟨_, Heap.get?_update_self _ (Heap.get?_push_size _ rfl) rfl, rfl⟩))
    have hb := Heap.lt_size eb
    rw [Heap.get?_update_other _ _ (by rw [Heap.size_push]; exact Nat.ne_of_gt (Nat.lt_succ_of_lt hb))]
    exact kp _ _ b o eb
/-- an iterator of a list ends -/
theorem list_endQ {it l : Addr} {i : Nat} {items : Array Value} {Q : Option Value → Shared → Prop} (hq : QtH A s.heap) (hit : s.heap.IsListIter it l i) (hl : s.heap.IsList l items) (hx : items[i]? = none)
    (h : ∀ h', Heap.ExtBut it s.heap h' → Q none { s with heap := h' }) : wpAny (model prog w) A (pyNext (.ref it)) Q E s := by
  obtain ⟨oi, ei, ci, di⟩ := id hit
  obtain ⟨ol, el, _, nl, dl⟩ := hl
  unfold pyNext; refine wpAny_bind (wpAny_attempt (wpAny_callSpecial?_slot (name := Str.ofString "__next__") hit.typeIs slot_listiter_next (wpAny_call_entry slot_listiter_next hit.typeIs entry_listiter_next ?_ (args_listiter_next _))))
  show wpAny _ _ (field (.ref it) 0 >>= _) _ _ s; refine wpAny_bind (wpAny_field ei di (x := .ref l) rfl ?_)
  show wpAny _ _ (if (Value.ref l == Value.none) = true then _ else _) _ _ s; rw [if_neg (show ¬ ((Value.ref l == Value.none) = true) from fun z => by cases z)]
  show wpAny _ _ (field (.ref it) 1 >>= _) _ _ s; refine wpAny_bind (wpAny_field ei di (x := .int i 0) rfl ?_)
  show wpAny _ _ (seqItems? (.ref l) >>= _) _ _ s; refine wpAny_bind (wpAny_seqItems el dl ?_)
  simp only [Int.toNat_natCast, hx]; refine wpAny_bind (wpAny_rule (wpAny_bind (wpAny_setField ei di (by simp) ?_)))
  have kb : Heap.ExtBut it s.heap (s.heap.update it (Obj.mapFields fun a => a.setIfInBounds 0 Value.none)) := (Heap.SameBut.update ..).extBut
  refine stop_raise (s := { s with heap := s.heap.update it (Obj.mapFields fun a => a.setIfInBounds 0 Value.none) }) ?_ fun h' e kp ⟨oe, eo, ec⟩ => ?_
  · refine hq.imp id fun ⟨x, e, n⟩ => ⟨x, e, n.keeps fun o eo => ?_⟩
    rw [Heap.get?_update_other _ _ fun z => ?_]
    · exact eo
    · obtain ⟨ox, fs, ex, dx, x2⟩ := n
      rw [← z, ei] at ex
      cases ex
      rw [di] at dx
      cases dx
      cases x2
  · refine wpAny_bind (wpAny_isInstance (T := "StopIteration") (b := true) ⟨_, eo, ec⟩ isSubtype_stop ?_)
    exact wpAny_pure (h h' fun b o nb eb => kp b o (kb b o nb eb))
/-- one of a range -/
theorem range_endQ {it : Addr} {x left step : Int} {Q : Option Value → Shared → Prop} (hq : QtH A s.heap) (hit : IsRangeIter s.heap it x left step) (hl : left ≤ 0)
    (h : ∀ h', Heap.ExtBut it s.heap h' → Q none { s with heap := h' }) : wpAny (model prog w) A (pyNext (.ref it)) Q E s := by
  have ty : s.TypeIs (.ref it) "range_iterator" := ⟨_, hit, rfl⟩
  unfold pyNext; refine wpAny_bind (wpAny_attempt (wpAny_callSpecial?_slot (name := Str.ofString "__next__") ty F.slot_range_iterator_next (wpAny_call_entry F.slot_range_iterator_next ty F.entry_range_iterator_next ?_ (F.args_range_iterator_next_1 _))))
  show wpAny _ _ (field (.ref it) 0 >>= _) _ _ s; refine wpAny_bind (wpAny_field hit rfl (x := rawInt x) rfl ?_)
  show wpAny _ _ (field (.ref it) 1 >>= _) _ _ s; refine wpAny_bind (wpAny_field hit rfl (x := rawInt left) rfl ?_)
  show wpAny _ _ (field (.ref it) 2 >>= _) _ _ s; refine wpAny_bind (wpAny_field hit rfl (x := rawInt step) rfl ?_)
  show wpAny _ _ (if left ≤ 0 then _ else _) _ _ s; rw [if_pos hl]
  refine wpAny_bind (wpAny_rule (wpAny_bind (stop_raise hq fun h' e kp ⟨oe, eo, ec⟩ => ?_)))
  refine wpAny_bind (wpAny_isInstance (T := "StopIteration") (b := true) ⟨_, eo, ec⟩ isSubtype_stop ?_)
  exact wpAny_pure (h h' fun b o _ eb => kp b o eb)
end
end L2

/-! THE HAND LAYER, for ints, bools, texts, own classes, LISTS and tuples (index, slices, in, append, pop ..), calls, loops. Paste it whole ahead of your own text; what your proof does not reach may be deleted. -/
namespace L2
open PySem PySem.Spec PyProof.Rows

/-- a key: an int or a str -/
abbrev Key := Sum Int Str
def keyIs : Key → Value → Bool
  | .inl k, v => Value.isInt k v
  | .inr x, v => Value.isStrOf x v
def keyH (w : World) : Key → Int
  | .inl k => hashInt k
  | .inr x => hashStr w x
theorem keyIs_shape : ∀ {k : Key} {v : Value}, keyIs k v = true → (∃ i t, k = Sum.inl i ∧ v = Value.int i t) ∨ (∃ x t, k = Sum.inr x ∧ v = Value.str x t)
  | .inl i, v, h => by
    obtain ⟨t, e⟩ := Value.isInt_shape (k := i) (v := v) h
    exact .inl ⟨i, t, rfl, e⟩
  | .inr x, v, h => by
    obtain ⟨t, e⟩ := Value.isStrOf_shape (x := x) (v := v) h
    exact .inr ⟨x, t, rfl, e⟩
theorem key_ll (a b : Int) : decide ((Sum.inl a : Key) = Sum.inl b) = (a == b) := by
  by_cases e : a = b
  · subst e; simp
  · have h : ¬ (Sum.inl a : Key) = Sum.inl b := fun q => e (Sum.inl.inj q)
    rw [decide_eq_false h]
    exact (beq_eq_false_iff_ne.mpr e).symm
theorem key_rr (a b : Str) : decide ((Sum.inr a : Key) = Sum.inr b) = decide (a = b) := by
  by_cases e : a = b
  · subst e; simp
  · have h : ¬ (Sum.inr a : Key) = Sum.inr b := fun q => e (Sum.inr.inj q)
    rw [decide_eq_false h, decide_eq_false e]
theorem key_lr (a : Int) (b : Str) : decide ((Sum.inl a : Key) = Sum.inr b) = false := decide_eq_false (fun q => nomatch q)
theorem key_rl (a : Str) (b : Int) : decide ((Sum.inr a : Key) = Sum.inl b) = false := decide_eq_false (fun q => nomatch q)

def mixKind (prog : Program) (w : World) : PySem.KeyKind prog w Key where
  is := keyIs
  hash := keyH w
  inj := fun v a b ha hb => by
    rcases keyIs_shape ha with ⟨i, t, rfl, rfl⟩ | ⟨x, t, rfl, rfl⟩
    · rcases keyIs_shape hb with ⟨j, u, rfl, e⟩ | ⟨y, u, rfl, e⟩
      · injection e with e1 _; rw [e1]
      · exact nomatch e
    · rcases keyIs_shape hb with ⟨j, u, rfl, e⟩ | ⟨y, u, rfl, e⟩
      · exact nomatch e
      · injection e with e1 _; rw [e1]
  byValue := fun k v h => by
    rcases keyIs_shape h with ⟨i, t, rfl, rfl⟩ | ⟨x, t, rfl, rfl⟩ <;> rfl
  pyHash := fun hv h => by
    rcases keyIs_shape hv with ⟨i, t, rfl, rfl⟩ | ⟨x, t, rfl, rfl⟩
    · exact wpAny_pyHash_int h
    · exact wpAny_pyHash_str h
  eqBool := fun hu hv h => by
    rcases keyIs_shape hu with ⟨i, t, rfl, rfl⟩ | ⟨x, t, rfl, rfl⟩
    · rcases keyIs_shape hv with ⟨j, u, rfl, rfl⟩ | ⟨y, u, rfl, rfl⟩
      · rw [key_ll] at h; exact wpAny_eqBool_int h
      · rw [key_lr] at h; exact SeqAt.EqAt.int_str i t y u _ _ _ _ h
    · rcases keyIs_shape hv with ⟨j, u, rfl, rfl⟩ | ⟨y, u, rfl, rfl⟩
      · rw [key_rl] at h; exact SeqAt.EqAt.str_int x t j u _ _ _ _ h
      · rw [key_rr] at h; exact wpAny_eqBool_str h
  «strs» := fun k x t v h => by
    rcases keyIs_shape h with ⟨i, u, rfl, e⟩ | ⟨y, u, rfl, e⟩
    · exact nomatch e
    · injection e with e1 _
      subst e1
      cases v <;> rfl

end L2

namespace L2
open PySem PySem.Spec PyProof.Rows

/-- a value, without the heap -/
inductive V where
  | non | bl (b : Bool) | int (i : Int) | str (x : Str) | byt (b : Array UInt8) | flt (b : UInt64) | ref (a : Addr) | ty (n : String)
  deriving DecidableEq

def RelV : V → Value → Prop
  | .non, u => u = Value.none
  | .bl b, u => u = Value.bool b
  | .int i, u => ∃ t, u = Value.int i t
  | .str x, u => ∃ t, u = Value.str x t
  | .byt b, u => ∃ t, u = Value.bytes b t
  | .flt b, u => ∃ t, u = Value.float b t
  | .ref a, u => u = Value.ref a
  | .ty n, u => u = Value.type n

abbrev Vals : List V → List Value → Prop := Paired RelV
theorem Vals.length {xs : List V} {us : List Value} (r : Vals xs us) : xs.length = us.length := Paired.length r
theorem Vals.get : ∀ {xs : List V} {us : List Value} {i : Nat} {x : V}, Vals xs us → xs[i]? = some x → ∃ u, us[i]? = some u ∧ RelV x u
  | _, _, _, _, .nil, e => by simp at e
  | _, _, 0, _, .cons r _, e => by simp at e; subst e; exact ⟨_, rfl, r⟩
  | _, _, i + 1, x, .cons _ t, e => by
    obtain ⟨u, h1, h2⟩ := Vals.get (i := i) (x := x) t (by simpa using e)
    exact ⟨u, by simpa using h1, h2⟩
theorem Vals.append : ∀ {xs ys : List V} {us ws : List Value}, Vals xs us → Vals ys ws → Vals (xs ++ ys) (us ++ ws)
  | _, _, _, _, .nil, s => s
  | _, _, _, _, .cons r t, s => .cons r (Vals.append t s)
theorem Vals.take : ∀ {xs : List V} {us : List Value} (n : Nat), Vals xs us → Vals (xs.take n) (us.take n)
  | _, _, 0, _ => .nil
  | _, _, _ + 1, .nil => .nil
  | _, _, n + 1, .cons r t => .cons r (Vals.take n t)
theorem Vals.drop : ∀ {xs : List V} {us : List Value} (n : Nat), Vals xs us → Vals (xs.drop n) (us.drop n)
  | _, _, 0, r => r
  | _, _, _ + 1, .nil => .nil
  | _, _, n + 1, .cons _ t => Vals.drop n t
def RelO : Option V → Option Value → Prop
  | some v, some u => RelV v u
  | none, none => True
  | _, _ => False
def KV {κ : Type} : List (κ × V) → List (κ × Value) → Prop := Paired fun (p : κ × V) (q : κ × Value) => p.1 = q.1 ∧ RelV p.2 q.2

/-- a key of a dict (00_mix): an int or a text -/
def kV : Key → V
  | .inl i => .int i
  | .inr x => .str x

/-- what stands at a tracked address -/
inductive HO where
  /-- a list -/
  | lst (xs : List V)
  /-- a tuple (never changes) -/
  | tup (xs : List V)
  /-- a dict whose keys are ints and texts; one whose keys are tuples of ints and texts (the empty one is both) -/
  | dK (kvs : List (Key × V)) | dT (kvs : List (List Key × V))
  /-- a set of ints: its members, its size -/
  | set (S : Int → Bool) (n : Nat)
  /-- an instance of the class at C, its dict at dx, its attributes -/
  | ins (C dx : Addr) (fs : List (Str × V))
  /-- the dict of the instance at x -/
  | own (x : Addr)
  /-- the dict of an exception -/
  | xd (fs : List (Str × V))
  /-- a bound method, f of x -/
  | met (f x : Addr)
  /-- a range object lo, lo + 1, .. below hi -/
  | rng (lo hi : Int)
  /-- a thing that is known to the object (the script; a dict while a loop walks it): read, never written while it is so -/
  | frz (o : Obj) (u : HO)
  /-- a code object's table -/
  | tbl (ps : Array Value)
  /-- any other thing, by what is true of its one object (a def of one's own: SetO a S n := HO.ext fun h => ..) -/
  | ext (φ : Heap → Prop)

abbrev Hp := Addr → Option HO
def upd (H : Hp) (a : Addr) (o : HO) : Hp := fun b => if b = a then some o else H b
theorem upd_same {H : Hp} {a : Addr} {o : HO} : upd H a o a = some o := by unfold upd; rw [if_pos rfl]
theorem upd_ne {H : Hp} {a b : Addr} {o : HO} (h : b ≠ a) : upd H a o b = H b := by unfold upd; rw [if_neg h]
/-- two objects of different content stand apart -/
theorem ne_of {H : Hp} {a b : Addr} {o u : HO} (h : H a = some o) (h' : H b = some u) (d : o ≠ u) : a ≠ b := by
  intro e; subst e; rw [h] at h'; exact d (Option.some.inj h')
theorem ne_of_none {H : Hp} {a b : Addr} {o : HO} (h : H a = some o) (h' : H b = none) : a ≠ b := by
  intro e; subst e; rw [h] at h'; cases h'

section
variable (P : Program) (w : World)
def ObjOk (H : Hp) (h : Heap) (a : Addr) : HO → Prop
  | .lst xs => xs.length ≤ sizeLine ∧ ∃ (its : List Value) (n : Nat), Vals xs its ∧ h.get? a = some { cls := .type "list", data := .seq its.toArray n }
  | .tup xs => xs.length ≤ sizeLine ∧ ∃ its : List Value, Vals xs its ∧ IsTup h a its.toArray
  | .dK kvs => kvs.length ≤ sizeLine ∧ (a == sysModules) = false ∧ ∃ vs, KV kvs vs ∧ h.DictOf (mixKind P w) a vs
  | .dT kvs => kvs.length ≤ sizeLine ∧ (a == sysModules) = false ∧ ∃ xs : List (List Key × Addr × Value),
      Paired (fun (p : List Key × V) (q : List Key × Addr × Value) => p.1 = q.1 ∧ H q.2.1 = some (.tup (p.1.map kV)) ∧ RelV p.2 q.2.2) kvs xs ∧
      ∃ o es ep, h.get? a = some o ∧ o.ExactDict ∧ o.data = .dict es ep ∧ es.toList = xs.map (entryOfKey (tupleKind (mixKind P w))) ∧ (xs.map (·.1)).Nodup
  | .set S n => h.SetOf (intKind P w) a S n
  | .ins C dx fs => H dx = some (.own a) ∧ fs.length ≤ 1000 ∧ dx ≠ a ∧ h.get? a = some (PySem.W.instObj C dx) ∧
      ∃ mA, h.Ns1 dx mA ∧ (∀ f, RelO (fs.lookup f) (mA f)) ∧ PySem.Within mA (fs.map (·.1))
  | .own _ => ∃ o, h.get? a = some o
  | .xd fs => ∃ mA, h.Ns1 a mA ∧ ∀ f, RelO (fs.lookup f) (mA f)
  | .rng lo hi => ∃ t u v, h.get? a = some { cls := .type "range", data := .fields #[.int lo t, .int hi u, .int 1 v] }
  | .frz o u => h.get? a = some o ∧ ObjOk H h a u
  | .tbl ps => h.get? a = some { cls := .none, data := .fields ps }
  | .met f x => h.get? a = some (PySem.W.methodObj (.ref f) (.ref x))
  | .ext φ => φ h ∧ (∃ o, h.get? a = some o) ∧ ∀ h1 h2 : Heap, φ h1 → (∀ o, h1.get? a = some o → h2.get? a = some o) → φ h2
/-- the abstract heap is held -/
def HOk (H : Hp) (h : Heap) : Prop := ∀ a o, H a = some o → ObjOk P w H h a o
end

section
variable {P : Program} {w : World} {H H' : Hp} {h h' : Heap} {a : Addr} {o : HO}
theorem ObjOk.lt (x : ObjOk P w H h a o) : a < h.objs.size := by
  cases o with
  | lst xs => obtain ⟨_, _, _, _, e⟩ := x; exact Heap.lt_size e
  | tup xs => obtain ⟨_, _, _, p⟩ := x; exact p.lt
  | dK kvs => obtain ⟨_, _, _, _, o, _, _, e, _⟩ := x; exact Heap.lt_size e
  | dT kvs => obtain ⟨_, _, _, _, o, _, _, e, _⟩ := x; exact Heap.lt_size e
  | set S n => obtain ⟨o, _, _, _, e, _⟩ := x; exact Heap.lt_size e
  | ins C dx fs => obtain ⟨_, _, _, e, _⟩ := x; exact Heap.lt_size e
  | own y => obtain ⟨_, e⟩ := x; exact Heap.lt_size e
  | xd fs => obtain ⟨_, ⟨_, _, _, e, _⟩, _⟩ := x; exact Heap.lt_size e
  | rng lo hi => obtain ⟨_, _, _, e⟩ := x; exact Heap.lt_size e
  | frz ob u => obtain ⟨e, _⟩ := x; exact Heap.lt_size e
  | tbl ps => exact Heap.lt_size (show h.get? a = some _ from x)
  | met f y => exact Heap.lt_size (show h.get? a = some _ from x)
  | ext φ => obtain ⟨_, ⟨_, e⟩, _⟩ := x; exact Heap.lt_size e
theorem Paired.mapP {α β : Type} {F G : α → β → Prop} : ∀ {l₁ : List α} {l₂ : List β}, Paired F l₁ l₂ → (∀ a b, F a b → G a b) → Paired G l₁ l₂
  | _, _, .nil, _ => .nil
  | _, _, .cons r t, f => .cons (f _ _ r) (Paired.mapP t f)
/-- what an object's description leans on: its own object, its own dict, the tuples -/
theorem ObjOk.stay (x : ObjOk P w H h a o) (k : ∀ b u, (b = a ∨ H b = some (.own a)) → h.get? b = some u → h'.get? b = some u)
    (ho : ∀ b, H b = some (.own a) → H' b = some (.own a)) (ht : ∀ b xs, H b = some (.tup xs) → H' b = some (.tup xs)) : ObjOk P w H' h' a o := by
  induction o with
  | lst xs => obtain ⟨z, its, n, r, e⟩ := x; exact ⟨z, its, n, r, k _ _ (.inl rfl) e⟩
  | tup xs => obtain ⟨z, its, r, ob, e, c⟩ := x; exact ⟨z, its, r, ob, k _ _ (.inl rfl) e, c⟩
  | dK kvs => obtain ⟨z, y, vs, r, ob, es, ep, e, c⟩ := x; exact ⟨z, y, vs, r, ob, es, ep, k _ _ (.inl rfl) e, c⟩
  | dT kvs =>
    obtain ⟨z, y, xs, r, ob, es, ep, e, c⟩ := x
    exact ⟨z, y, xs, Paired.mapP r fun p q z => ⟨z.1, ht _ _ z.2.1, z.2.2⟩, ob, es, ep, k _ _ (.inl rfl) e, c⟩
  | set S n => obtain ⟨ob, es, ep, t, e, c⟩ := x; exact ⟨ob, es, ep, t, k _ _ (.inl rfl) e, c⟩
  | ins C dx fs =>
    obtain ⟨d, z, ne, e, mA, ⟨od, es, ep, e2, c⟩, r⟩ := x
    exact ⟨ho _ d, z, ne, k _ _ (.inl rfl) e, mA, ⟨od, es, ep, k _ _ (.inr d) e2, c⟩, r⟩
  | own y => obtain ⟨ob, e⟩ := x; exact ⟨ob, k _ _ (.inl rfl) e⟩
  | xd fs => obtain ⟨mA, ⟨od, es, ep, e, c⟩, r⟩ := x; exact ⟨mA, ⟨od, es, ep, k _ _ (.inl rfl) e, c⟩, r⟩
  | rng lo hi => obtain ⟨t, u, v, e⟩ := x; exact ⟨t, u, v, k _ _ (.inl rfl) e⟩
  | frz ob u ih => obtain ⟨e, q⟩ := x; exact ⟨k _ _ (.inl rfl) e, ih q⟩
  | tbl ps =>
    have e : h.get? a = some { cls := .none, data := .fields ps } := x
    show h'.get? a = some { cls := .none, data := .fields ps }
    exact k a _ (.inl rfl) e
  | met f y =>
    have e : h.get? a = some (PySem.W.methodObj (.ref f) (.ref y)) := x
    show h'.get? a = some (PySem.W.methodObj (.ref f) (.ref y))
    exact k a _ (.inl rfl) e
  | ext φ => obtain ⟨p, ⟨o, e⟩, st⟩ := x; exact ⟨st _ _ p fun o q => k _ _ (.inl rfl) q, ⟨o, k _ _ (.inl rfl) e⟩, st⟩
theorem HOk.lt (x : HOk P w H h) (e : H a = some o) : a < h.objs.size := (x a o e).lt
theorem HOk.fresh (x : HOk P w H h) (e : h.objs.size ≤ a) : H a = none := by
  cases q : H a with
  | none => rfl
  | some u => exact absurd (Nat.lt_of_lt_of_le (x.lt q) e) (Nat.lt_irrefl _)
/-- every object of the heap is kept -/
theorem HOk.kept (x : HOk P w H h) (k : ∀ b u, h.get? b = some u → h'.get? b = some u) : HOk P w H h' := fun a o e =>
  (x a o e).stay (fun b u _ q => k b u q) (fun _ q => q) fun _ _ q => q
/-- a new object is laid and tracked -/
theorem HOk.laid (x : HOk P w H h) (k : ∀ b u, h.get? b = some u → h'.get? b = some u) (hp : h.objs.size ≤ a) (new : ObjOk P w (upd H a o) h' a o) : HOk P w (upd H a o) h' := fun b u e => by
  have hn := x.fresh hp
  by_cases hb : b = a
  · subst hb; rw [upd_same] at e; cases e; exact new
  · rw [upd_ne hb] at e
    exact (x b u e).stay (fun c v _ q => k c v q) (fun c q => by rw [upd_ne (ne_of_none q hn)]; exact q) fun c xs q => by rw [upd_ne (ne_of_none q hn)]; exact q
end

/-- what may be read as u: it is u, or a known u -/
def Rd (H : Hp) (a : Addr) (u : HO) : Prop := H a = some u ∨ ∃ o, H a = some (.frz o u)
theorem Rd.ok {P : Program} {w : World} {H : Hp} {h : Heap} {a : Addr} {u : HO} (r : Rd H a u) (x : HOk P w H h) : ObjOk P w H h a u := by
  rcases r with r | ⟨o, r⟩
  · exact x a u r
  · obtain ⟨_, q⟩ := x a _ r
    exact q
/-- what may be written -/
def Mut : Option HO → Prop
  | some (.lst _) => True
  | some (.dK _) => True
  | some (.dT _) => True
  | some (.set _ _) => True
  | some (.ins _ _ _) => True
  | some (.ext _) => True
  | _ => False
section
variable {P : Program} {w : World} {H : Hp} {h h' : Heap} {x e : Addr} {o' : HO}
/-- the object at e is changed: x itself, or the dict of the instance x -/
theorem HOk.write (ok : HOk P w H h) (mu : Mut (H x)) (he : e = x ∨ H e = some (.own x)) (k : ∀ b u, b ≠ e → h.get? b = some u → h'.get? b = some u) (heo : ∃ u, h'.get? e = some u)
    (new : ObjOk P w (upd H x o') h' x o') : HOk P w (upd H x o') h' := fun b u q => by
  have nown : ∀ c y, H c = some (.own y) → c ≠ x := fun c y r z => by subst z; rw [r] at mu; exact mu
  have ntup : ∀ c xs, H c = some (.tup xs) → c ≠ x := fun c xs r z => by subst z; rw [r] at mu; exact mu
  by_cases hb : b = x
  · subst hb; rw [upd_same] at q; cases q; exact new
  · rw [upd_ne hb] at q
    by_cases hbe : b = e
    · have q' : H b = some (.own x) := by
        rcases he with z | z
        · exact absurd (hbe.trans z) hb
        · rw [hbe]; exact z
      rw [q] at q'; cases q'
      obtain ⟨v, hv⟩ := heo
      exact ⟨v, by rw [hbe]; exact hv⟩
    · refine (ok b u q).stay (fun c v hc r => k c v ?_ r) (fun c r => by rw [upd_ne (nown c b r)]; exact r) fun c xs r => by rw [upd_ne (ntup c xs r)]; exact r
      rcases hc with rfl | hc
      · exact hbe
      · rintro rfl
        rcases he with z | z
        · exact nown c b hc z
        · rw [hc] at z; cases z; exact hb rfl
end

/-! ### kept unless tracked; of the frames at fs (the callers') the slots may change (an exception that passes writes there); of the records at ex (iterators) nothing is said -/
structure Un (fs ex : List Addr) (H H' : Hp) (h h' : Heap) : Prop where
  keep : ∀ b o, h.get? b = some o → H b = none → b ∉ fs → b ∉ ex → h'.get? b = some o
  slot : ∀ b o, h.get? b = some o → H b = none → b ∈ fs → b ∉ ex → ∃ sl, h'.get? b = some { o with slots := sl }
  free : ∀ b o, h.get? b = some o → H b = none → b ∉ ex → H' b = none
  there : ∀ b o, h.get? b = some o → b ∉ ex → ∃ o', h'.get? b = some o'
  tups : ∀ b xs, H b = some (.tup xs) → H' b = some (.tup xs)
  frzs : ∀ b o u, H b = some (.frz o u) → H' b = some (.frz o u)
  tbls : ∀ b ps, H b = some (.tbl ps) → ∃ more, H' b = some (.tbl (ps ++ more))
section
variable {fs fs' ex ex' : List Addr} {H H1 H2 : Hp} {h h1 h2 h' : Heap} {a x e : Addr} {o : HO}
theorem Un.any (u : Un fs ex H H1 h h1) {b : Addr} {ob : Obj} (q : h.get? b = some ob) (n : H b = none) (hx : b ∉ ex) : ∃ sl, h1.get? b = some { ob with slots := sl } := by
  by_cases hb : b ∈ fs
  · exact u.slot b ob q n hb hx
  · exact ⟨ob.slots, u.keep b ob q n hb hx⟩
theorem Un.kept (k : ∀ b u, h.get? b = some u → h'.get? b = some u) : Un fs ex H H h h' :=
  ⟨fun b ob q _ _ _ => k b ob q, fun b ob q _ _ _ => ⟨ob.slots, k b ob q⟩, fun _ _ _ n _ => n, fun b ob q _ => ⟨ob, k b ob q⟩, fun _ _ q => q, fun _ _ _ q => q, fun _ ps q => ⟨#[], by rw [q]; simp⟩⟩
theorem Un.refl : Un fs ex H H h h := Un.kept fun _ _ q => q
theorem Un.laid (k : ∀ b u, h.get? b = some u → h'.get? b = some u) (hp : h.objs.size ≤ a) (hn : H a = none) : Un fs ex H (upd H a o) h h' where
  keep := fun b u q _ _ _ => k b u q
  slot := fun b u q _ _ _ => ⟨u.slots, k b u q⟩
  free := fun b u q n _ => by rw [upd_ne (Nat.ne_of_lt (Nat.lt_of_lt_of_le (Heap.lt_size q) hp))]; exact n
  there := fun b u q _ => ⟨u, k b u q⟩
  tups := fun b xs q => by rw [upd_ne (ne_of_none q hn)]; exact q
  frzs := fun b u xs q => by rw [upd_ne (ne_of_none q hn)]; exact q
  tbls := fun b ps q => ⟨#[], by rw [upd_ne (ne_of_none q hn), q]; simp⟩
theorem Un.write (mu : Mut (H x)) (he : e = x ∨ H e = some (.own x)) (k : ∀ b u, b ≠ e → h.get? b = some u → h'.get? b = some u) (heo : ∃ u, h'.get? e = some u) : Un fs ex H (upd H x o) h h' := by
  have hx : ∀ b, H b = none → b ≠ x := fun b n z => by subst z; rw [n] at mu; exact mu
  have hb : ∀ b, H b = none → b ≠ e := fun b n z => by
    subst z
    rcases he with r | r
    · exact hx b n r
    · rw [n] at r; cases r
  have hm : ∀ b u, H b = some u → ¬ Mut (some u) → b ≠ x := fun b u q nm z => by subst z; rw [q] at mu; exact nm mu
  refine ⟨fun b u q n _ _ => k b u (hb b n) q, fun b u q n _ _ => ⟨u.slots, k b u (hb b n) q⟩, fun b u q n _ => by rw [upd_ne (hx b n)]; exact n, fun b u q _ => ?_,
    fun b xs q => by rw [upd_ne (hm b _ q fun z => z)]; exact q, fun b u xs q => by rw [upd_ne (hm b _ q fun z => z)]; exact q, fun b ps q => ⟨#[], by rw [upd_ne (hm b _ q fun z => z), q]; simp⟩⟩
  by_cases hbe : b = e
  · subst hbe; exact heo
  · exact ⟨u, k b u hbe q⟩
end

/-! ### the heap without what is tracked -/
def trk (h : Heap) (H : Hp) : List Addr := (List.range h.objs.size).filter fun a => (H a).isSome
def hidT (h : Heap) (H : Hp) : Heap := PySem.W.hideAll h (trk h H)
theorem hidT_size (h : Heap) (H : Hp) : (hidT h H).objs.size = h.objs.size := PySem.W.hideAll_size _ _
theorem hidT_get {h : Heap} {H : Hp} {b : Addr} {o : Obj} (e : h.get? b = some o) (n : H b = none) : (hidT h H).get? b = some o :=
  PySem.W.hideAll_get _ e fun hm => by
    have q : (H b).isSome = true := (List.mem_filter.mp hm).2
    rw [n] at q; simp at q
theorem of_hidT {h : Heap} {H : Hp} {b : Addr} {o : Obj} (e : (hidT h H).get? b = some o) : h.get? b = some o ∧ H b = none := by
  have e' : h.get? b = some o := PySem.W.of_hideAll (trk h H) e
  refine ⟨e', ?_⟩
  cases q : H b with
  | none => rfl
  | some x =>
    have hm : b ∈ trk h H := List.mem_filter.mpr ⟨List.mem_range.mpr (Heap.lt_size e'), by simp [q]⟩
    have z : (hidT h H).get? b = none := PySem.W.hideAll_none (trk h H) hm
    rw [z] at e; cases e

/-! ### OpenK's ledger, filled with every new object but one -/
def allNews (g h : Heap) (L : Addr) : List (Addr × Obj) := (List.range h.objs.size).filterMap fun a => if a = L ∨ (g.get? a).isSome = true then none else (h.get? a).map fun o => (a, o)
def rest (g h : Heap) (L d : Addr) : List (Addr × Obj) := (allNews g h L).filter fun p => decide (p.1 ≠ d)
end L2

namespace L2
open PySem PySem.Spec PyProof.Rows

/-- the module's facts, over the base: the heap at the law's entry without what is tracked there -/
structure Mod (K : PySem.W.Frag) (mg : Str → Option Value) (base : Heap) : Prop where
  kin : K.In base
  glob : base.Ns mainGlobals mg
  blt : ∃ mb, base.Ns builtinsNs mb ∧ ∀ x : Str, x ≠ "__name__" → mb x = bootBuiltins x
  nolimit : base.NoLimit

/-- the context: a def's body (or a comprehension's block) running. base: fixed through the whole law; s₀, H₀: the entry; outer: the frames whose slots others may change (a def's callers); stack: all frames that run;
   ex: iterators that were made ahead of the entry and are walked here (a comprehension's); fn: the names whose cells were made at the entry (a def: all; a comprehension's block: its own); calm: not within an except suite; pn: pins that every state bears; xe: what is wanted of an exception that leaves the code -/
structure Cx where
  prog : Program
  w : World
  K : PySem.W.Frag
  mg : Str → Option Value
  base : Heap
  A : Around
  N : List Str
  s₀ : Shared
  H₀ : Hp
  env : Env
  outer : List Env
  stack : List Env
  ex : List Addr
  fn : Str → Bool
  calm : Bool
  pn : List (Addr × Obj)
  xe : Value → Shared → Prop
/-- the callers' frames -/
def frs (l : List Env) : List Addr := l.filterMap (·.frame)
abbrev Cx.fs (X : Cx) : List Addr := frs X.outer

def Vis (sc : Scope) (x : Str) : Prop := sc.names.lookup x = some .local ∨ sc.names.lookup x = some .cell ∨ sc.names.lookup x = some .free
def Loc (sc : Scope) (x : Str) : Prop := sc.names.lookup x = some .local ∨ sc.names.lookup x = some .cell
def Look (env : Env) (h : Heap) (m : Str → Option Value) (x : Str) (u : Value) : Prop :=
  (env.kindOf x = some .local ∧ m x = some u) ∨ ((env.kindOf x = some .cell ∨ env.kindOf x = some .free) ∧ ∃ c, env.cells.lookup x = some c ∧ h.IsCell c (some u))

structure Cx.Ok (X : Cx) : Prop where
  mod : Mod X.K X.mg X.base
  kind : X.env.scope.kind = .function
  glob : X.env.globals = mainGlobals
  blt : X.env.builtins = builtinsNs
  above : X.s₀.heap.objs.size ≤ X.env.locals
  inj : ∀ x y c, X.env.cells.lookup x = some c → X.env.cells.lookup y = some c → x = y
  has : ∀ x, (X.env.kindOf x = some .cell ∨ X.env.kindOf x = some .free) → ∃ c, X.env.cells.lookup x = some c
  cab : ∀ x c, X.fn x = true → X.env.cells.lookup x = some c → X.s₀.heap.objs.size ≤ c
  hd : X.calm = true → QtH X.A X.base
  frames : X.A.frames = some X.stack
  stk : X.stack = X.outer ∨ (X.stack = X.env :: X.outer ∧ X.env.frame = some X.env.locals)
  exf : ∀ b ∈ X.ex, b ≠ X.env.locals ∧ ∀ x c, X.env.cells.lookup x = some c → c ≠ b
  bs : ∀ b o, X.base.get? b = some o → X.s₀.heap.get? b = some o ∧ X.H₀ b = none
  bsz : X.base.objs.size ≤ X.s₀.heap.objs.size
  noex : ∀ b o, X.base.get? b = some o → b ∉ X.ex
  exfs : ∀ b ∈ X.ex, b ∉ X.fs
  funs : X.s₀.heap.FunFrames X.base X.outer
  frf : ∀ b ∈ X.fs, X.H₀ b = none

structure Inv (X : Cx) (pins : List (Addr × Obj)) (σ : List (Option V)) (H : Hp) (s : Shared) : Prop where
  ok : X.Ok
  os : s.os = X.s₀.os
  bare : AllBare s.gens
  base : Un X.fs X.ex X.H₀ H X.s₀.heap s.heap
  loc : ∃ m, s.heap.Ns X.env.locals m ∧ ∀ (i : Nat) (x : Str) (v : V), X.N[i]? = some x → σ[i]? = some (some v) → Vis X.env.scope x → ∃ u, RelV v u ∧ Look X.env s.heap m x u
  cell : ∀ x c, X.env.cells.lookup x = some c → ∃ v, s.heap.IsCell c v
  free : H X.env.locals = none
  freeC : ∀ x c, X.env.cells.lookup x = some c → H c = none
  pin : ∀ p ∈ X.pn ++ pins, s.heap.get? p.1 = some p.2 ∧ H p.1 = none ∧ p.1 ≠ X.env.locals ∧ p.1 ∉ X.fs ∧ ∀ v, p.2.data ≠ .cell v
  hok : HOk X.prog X.w H s.heap
  len : σ.length = X.N.length

section
variable {X : Cx} {pins : List (Addr × Obj)} {σ : List (Option V)} {H H' : Hp} {s : Shared} {h' : Heap}

theorem Cx.Ok.nofr (ok : X.Ok) {b : Addr} {o : Obj} (e : X.base.get? b = some o) : b ∉ X.fs := fun hb => by
  have := (ok.funs.mem hb).1
  rw [e] at this; cases this
theorem Inv.bs (I : Inv X pins σ H s) : ∀ b o, X.base.get? b = some o → s.heap.get? b = some o ∧ H b = none := fun b o e =>
  ⟨I.base.keep b o (I.ok.bs b o e).1 (I.ok.bs b o e).2 (I.ok.nofr e) (I.ok.noex b o e), I.base.free b o (I.ok.bs b o e).1 (I.ok.bs b o e).2 (I.ok.noex b o e)⟩
theorem Inv.bk (I : Inv X pins σ H s) : ∀ b o, X.base.get? b = some o → s.heap.get? b = some o := fun b o e => (I.bs b o e).1
theorem Inv.mod (I : Inv X pins σ H s) : Mod X.K X.mg X.base := I.ok.mod
theorem Inv.qt (I : Inv X pins σ H s) (hc : X.calm = true) : QtH X.A s.heap := (I.ok.hd hc).keeps I.bk
theorem Inv.kIn (I : Inv X pins σ H s) : X.K.In s.heap := I.ok.mod.kin.keeps I.bk
theorem Inv.lt (I : Inv X pins σ H s) : X.env.locals < s.heap.objs.size := let ⟨_, hn, _⟩ := I.loc; hn.lt
theorem Inv.sz (I : Inv X pins σ H s) : X.s₀.heap.objs.size ≤ s.heap.objs.size := Nat.le_trans I.ok.above (Nat.le_of_lt I.lt)
theorem Inv.nofs (I : Inv X pins σ H s) {a : Addr} (h : s.heap.objs.size ≤ a) : a ∉ X.fs := fun hb => by
  obtain ⟨_, o, ho, _⟩ := I.ok.funs.mem hb
  exact absurd (Nat.lt_of_lt_of_le (Heap.lt_size ho) (Nat.le_trans I.sz h)) (Nat.lt_irrefl _)
theorem Inv.cne (I : Inv X pins σ H s) : ∀ x c, X.env.cells.lookup x = some c → c ≠ X.env.locals := fun x c e z => by
  obtain ⟨v, o, ho, hd⟩ := I.cell x c e
  obtain ⟨m, ⟨o', es, ep, ho', hd', _⟩, _⟩ := I.loc
  rw [z, ho'] at ho; cases ho; rw [hd'] at hd; cases hd
theorem Inv.funs (I : Inv X pins σ H s) : s.heap.FunFrames X.base X.outer := by
  have all : ∀ (l : List Env), (∀ b ∈ frs l, b ∈ X.fs) → X.s₀.heap.FunFrames X.base l → s.heap.FunFrames X.base l := by
    intro l
    induction l with
    | nil => intro _ _; trivial
    | cons env r ih =>
      intro hs hl
      obtain ⟨hk, ⟨L, o, hf, hn, ho, hd⟩, hr⟩ := hl
      have hL : L ∈ X.fs := hs L (by unfold frs; rw [List.filterMap_cons, hf]; exact List.mem_cons_self)
      obtain ⟨sl, e⟩ := I.base.slot L o ho (I.ok.frf L hL) hL fun z => I.ok.exfs L z hL
      exact ⟨hk, ⟨L, _, hf, hn, e, hd⟩, ih (fun b hb => hs b (by unfold frs; rw [List.filterMap_cons, hf]; exact List.mem_cons_of_mem _ hb)) hr⟩
  exact all X.outer (fun _ hb => hb) I.ok.funs

/-- the frames that run, for a call -/
theorem Inv.stack (I : Inv X pins σ H s) : s.heap.FunFrames X.base X.stack := by
  rcases I.ok.stk with e | ⟨e, hf⟩
  · rw [e]; exact I.funs
  · rw [e]
    obtain ⟨m, hn, _⟩ := I.loc
    refine .cons (by rw [I.ok.kind]; decide) hf hn ?_ I.funs
    exact Heap.get?_none_of_le (Nat.le_trans I.ok.bsz I.ok.above)
theorem Inv.stkSub (I : Inv X pins σ H s) : ∀ b ∈ frs X.stack, b ∈ X.env.locals :: X.fs := fun b hb => by
  rcases I.ok.stk with e | ⟨e, hf⟩
  · rw [e] at hb; exact List.mem_cons_of_mem _ hb
  · rw [e] at hb
    unfold frs at hb
    rw [List.filterMap_cons, hf] at hb
    exact hb
theorem Inv.stkFree (I : Inv X pins σ H s) : ∀ b ∈ frs X.stack, H b = none := fun b hb => by
  rcases List.mem_cons.mp (I.stkSub b hb) with e | hb
  · rw [e]; exact I.free
  · obtain ⟨_, o, ho, _⟩ := I.ok.funs.mem hb
    exact I.base.free b o ho (I.ok.frf b hb) fun z => I.ok.exfs b z hb

/-- THE STEP: the untracked objects but the frame and the records at ch are kept (the callers' frames up to slots), the frame's map is kept, the new abstract heap is held -/
theorem Inv.step {g' : Array GenState} {t' : Nat} {d' : Drawn} {ch : List Addr} (I : Inv X pins σ H s)
    (hch : ∀ b ∈ ch, (b ∈ X.ex ∨ X.s₀.heap.objs.size ≤ b) ∧ b ≠ X.env.locals ∧ (∀ x c, X.env.cells.lookup x = some c → c ≠ b) ∧ ∀ p ∈ X.pn ++ pins, p.1 ≠ b)
    (keep : ∀ b o, b ≠ X.env.locals → b ∉ X.fs → b ∉ ch → s.heap.get? b = some o → H b = none → h'.get? b = some o)
    (slot : ∀ b o, b ≠ X.env.locals → b ∈ X.fs → b ∉ ch → s.heap.get? b = some o → H b = none → ∃ sl, h'.get? b = some { o with slots := sl }) (free : ∀ b o, b ∉ ch → s.heap.get? b = some o → H b = none → H' b = none)
    (there : ∀ b o, b ∉ ch → s.heap.get? b = some o → ∃ o', h'.get? b = some o')
    (tups : ∀ b xs, H b = some (.tup xs) → H' b = some (.tup xs)) (frzs : ∀ b o u, H b = some (.frz o u) → H' b = some (.frz o u)) (tbls : ∀ b ps, H b = some (.tbl ps) → ∃ more, H' b = some (.tbl (ps ++ more)))
    (ns : ∀ m, s.heap.Ns X.env.locals m → h'.Ns X.env.locals m) (hok : HOk X.prog X.w H' h') (hg : AllBare g') :
    Inv X pins σ H' { s with heap := h', gens := g', drawn := d', toks := t' } := by
  have neL : ∀ b o, X.s₀.heap.get? b = some o → b ≠ X.env.locals := fun b o e => Nat.ne_of_lt (Nat.lt_of_lt_of_le (Heap.lt_size e) I.ok.above)
  have neC : ∀ b o, X.s₀.heap.get? b = some o → b ∉ X.ex → b ∉ ch := fun b o e hx hb => by
    rcases (hch b hb).1 with z | z
    · exact hx z
    · exact absurd (Nat.lt_of_lt_of_le (Heap.lt_size e) z) (Nat.lt_irrefl _)
  have cellK : ∀ x c, X.env.cells.lookup x = some c → ∀ v, s.heap.IsCell c v → h'.IsCell c v := fun x c e v ⟨o, ho, hd⟩ => by
    have nch : c ∉ ch := fun z => (hch c z).2.2.1 x c e rfl
    by_cases hc : c ∈ X.fs
    · obtain ⟨sl, q⟩ := slot c o (I.cne x c e) hc nch ho (I.freeC x c e)
      exact ⟨_, q, hd⟩
    · exact ⟨o, keep c o (I.cne x c e) hc nch ho (I.freeC x c e), hd⟩
  refine ⟨I.ok, I.os, hg, ⟨fun b o e n hb hx => ?_, fun b o e n hb hx => ?_, fun b o e n hx => ?_, fun b o e hx => ?_, fun b xs e => tups b xs (I.base.tups b xs e), fun b o xs e => frzs b o xs (I.base.frzs b o xs e), fun b ps e => ?_⟩, ?_, fun x c e => ?_, ?_, fun x c e => ?_, fun p hp => ?_, hok, I.len⟩
  · exact keep b o (neL b o e) hb (neC b o e hx) (I.base.keep b o e n hb hx) (I.base.free b o e n hx)
  · obtain ⟨sl, e1⟩ := I.base.slot b o e n hb hx
    obtain ⟨sl', e2⟩ := slot b _ (neL b o e) hb (neC b o e hx) e1 (I.base.free b o e n hx)
    exact ⟨sl', e2⟩
  · obtain ⟨o', e1⟩ := I.base.there b o e hx
    exact free b o' (neC b o e hx) e1 (I.base.free b o e n hx)
  · obtain ⟨o', e1⟩ := I.base.there b o e hx
    exact there b o' (neC b o e hx) e1
  · obtain ⟨m1, e1⟩ := I.base.tbls b ps e
    obtain ⟨m2, e2⟩ := tbls b _ e1
    exact ⟨m1 ++ m2, by rw [e2, Array.append_assoc]⟩
  · obtain ⟨m, hn, hl⟩ := I.loc
    refine ⟨m, ns m hn, fun i x v e1 e2 e3 => ?_⟩
    obtain ⟨u, r, l⟩ := hl i x v e1 e2 e3
    refine ⟨u, r, ?_⟩
    rcases l with l | ⟨k, c, e, z⟩
    · exact .inl l
    · exact .inr ⟨k, c, e, cellK x c e _ z⟩
  · obtain ⟨v, z⟩ := I.cell x c e
    exact ⟨v, cellK x c e v z⟩
  · obtain ⟨m, ⟨o, _, _, ho, _⟩, _⟩ := I.loc
    exact free _ o (fun z => (hch _ z).2.1 rfl) ho I.free
  · obtain ⟨v, o, ho, hd⟩ := I.cell x c e
    exact free c o (fun z => (hch c z).2.2.1 x c e rfl) ho (I.freeC x c e)
  · obtain ⟨e, n, ne, nf, d⟩ := I.pin p hp
    have nch : p.1 ∉ ch := fun z => (hch p.1 z).2.2.2 p hp rfl
    exact ⟨keep p.1 p.2 ne nf nch e n, free p.1 p.2 nch e n, ne, nf, d⟩
/-- .. where the frame's own object is kept too -/
theorem Inv.un {t' : Nat} (I : Inv X pins σ H s) (u : Un X.fs [] H H' s.heap h') (hok : HOk X.prog X.w H' h') : Inv X pins σ H' { s with heap := h', toks := t' } := by
  obtain ⟨m, ⟨o, es, ep, ho, r⟩, _⟩ := id I.loc
  obtain ⟨sl, hL⟩ := u.any ho I.free (by simp)
  exact I.step (g' := s.gens) (d' := s.drawn) (ch := []) (fun _ z => nomatch z) (fun b o _ hb _ e n => u.keep b o e n hb (by simp)) (fun b o _ hb _ e n => u.slot b o e n hb (by simp)) (fun b o _ e n => u.free b o e n (by simp)) (fun b o _ e => u.there b o e (by simp)) u.tups u.frzs u.tbls (fun m' hm => by
    obtain ⟨o', es', ep', ho', r'⟩ := hm
    rw [ho] at ho'; cases ho'
    exact ⟨_, es', ep', hL, r'⟩) hok I.bare
/-- behind a call (or a comprehension's block): the slots of this frame may have changed too, the records at ch may have turned -/
theorem Inv.call {g' : Array GenState} {t' : Nat} {d' : Drawn} {ch : List Addr} (I : Inv X pins σ H s) (u : Un (frs X.stack) ch H H' s.heap h') (hok : HOk X.prog X.w H' h') (hg : AllBare g')
    (hch : ∀ b ∈ ch, (b ∈ X.ex ∨ X.s₀.heap.objs.size ≤ b) ∧ b ≠ X.env.locals ∧ (∀ x c, X.env.cells.lookup x = some c → c ≠ b) ∧ ∀ p ∈ X.pn ++ pins, p.1 ≠ b) :
    Inv X pins σ H' { s with heap := h', gens := g', drawn := d', toks := t' } := by
  obtain ⟨m, ⟨o, es, ep, ho, r⟩, _⟩ := id I.loc
  obtain ⟨sl, hL⟩ := u.any ho I.free fun z => (hch _ z).2.1 rfl
  exact I.step (ch := ch) hch (fun b o hL hb hc e n => u.keep b o e n (fun z => (List.mem_cons.mp (I.stkSub b z)).elim hL hb) hc) (fun b o _ _ hc e n => u.any e n hc) (fun b o hc e n => u.free b o e n hc) (fun b o hc e => u.there b o e hc) u.tups u.frzs u.tbls (fun m' hm => by
    obtain ⟨o', es', ep', ho', r'⟩ := hm
    rw [ho] at ho'; cases ho'
    exact ⟨_, es', ep', hL, r'⟩) hok hg
/-- an untracked record of ours (an iterator) has turned -/
theorem Inv.turned {t' : Nat} {it : Addr} (I : Inv X pins σ H s) (k : ∀ b o, b ≠ it → s.heap.get? b = some o → h'.get? b = some o) (hn : H it = none) (hL : it ≠ X.env.locals)
    (h1 : it ∈ X.ex ∨ X.s₀.heap.objs.size ≤ it) (h2 : ∀ x c, X.env.cells.lookup x = some c → c ≠ it) (h3 : ∀ p ∈ X.pn ++ pins, p.1 ≠ it) : Inv X pins σ H { s with heap := h', toks := t' } := by
  have nit : ∀ b u, H b = some u → b ≠ it := fun b u e z => by rw [z, hn] at e; cases e
  refine I.step (g' := s.gens) (d' := s.drawn) (ch := [it]) (fun b hb => ?_) (fun b o _ _ hc e _ => k b o (fun z => hc (by simp [z])) e) (fun b o _ _ hc e _ => ⟨o.slots, k b o (fun z => hc (by simp [z])) e⟩) (fun _ _ _ _ n => n)
    (fun b o hc e => ⟨o, k b o (fun z => hc (by simp [z])) e⟩) (fun _ _ e => e) (fun _ _ _ e => e) (fun b ps e => ⟨#[], by rw [e]; simp⟩) (fun m hm => ?_) (fun b u e => ?_) I.bare
  · have e : b = it := by simpa using hb
    subst e
    exact ⟨h1, hL, h2, h3⟩
  · obtain ⟨o, es, ep, ho, r⟩ := hm
    exact ⟨o, es, ep, k _ o (Ne.symm hL) ho, r⟩
  · refine (I.hok b u e).stay (fun c v hc q => k c v ?_ q) (fun _ q => q) fun _ _ q => q
    rcases hc with z | z
    · rw [z]; exact nit b u e
    · exact nit c _ z
theorem Inv.tok (I : Inv X pins σ H s) (t : Nat) : Inv X pins σ H { s with toks := t } := I.un (h' := s.heap) (t' := t) Un.refl I.hok
/-- all objects kept -/
theorem Inv.kept {t' : Nat} (I : Inv X pins σ H s) (k : ∀ b u, s.heap.get? b = some u → h'.get? b = some u) : Inv X pins σ H { s with heap := h', toks := t' } := I.un (Un.kept k) (I.hok.kept k)
/-- a new object laid and tracked -/
theorem Inv.laid {a : Addr} {o : HO} {t' : Nat} (I : Inv X pins σ H s) (k : ∀ b u, s.heap.get? b = some u → h'.get? b = some u) (hp : s.heap.objs.size ≤ a) (new : ObjOk X.prog X.w (upd H a o) h' a o) :
    Inv X pins σ (upd H a o) { s with heap := h', toks := t' } := I.un (Un.laid k hp (I.hok.fresh hp)) (I.hok.laid k hp new)
/-- an object written -/
theorem Inv.write {x e : Addr} {o : HO} {t' : Nat} (I : Inv X pins σ H s) (mu : Mut (H x)) (he : e = x ∨ H e = some (.own x)) (k : ∀ b u, b ≠ e → s.heap.get? b = some u → h'.get? b = some u) (heo : ∃ u, h'.get? e = some u)
    (new : ObjOk X.prog X.w (upd H x o) h' x o) : Inv X pins σ (upd H x o) { s with heap := h', toks := t' } := I.un (Un.write mu he k heo) (I.hok.write mu he k heo new)
/-- forgetting slots, pins -/
theorem Inv.weak {σ' : List (Option V)} (I : Inv X pins σ H s) (hl : σ'.length = σ.length) (w : ∀ (i : Nat) v, σ'[i]? = some (some v) → σ[i]? = some (some v)) : Inv X pins σ' H s :=
  ⟨I.ok, I.os, I.bare, I.base, let ⟨m, hn, hl'⟩ := I.loc; ⟨m, hn, fun i x v e1 e2 e3 => hl' i x v e1 (w i v e2) e3⟩, I.cell, I.free, I.freeC, I.pin, I.hok, hl.trans I.len⟩
theorem Inv.pins_of {pins' : List (Addr × Obj)} (I : Inv X pins σ H s) (h : ∀ p ∈ pins', s.heap.get? p.1 = some p.2 ∧ H p.1 = none ∧ p.1 ≠ X.env.locals ∧ p.1 ∉ X.fs ∧ ∀ v, p.2.data ≠ .cell v) : Inv X pins' σ H s :=
  ⟨I.ok, I.os, I.bare, I.base, I.loc, I.cell, I.free, I.freeC, fun p hp => (List.mem_append.mp hp).elim (fun z => I.pin p (List.mem_append_left _ z)) (h p), I.hok, I.len⟩

theorem nodup_ix {N : List Str} (hN : N.Nodup) {i j : Nat} {x : Str} (a : N[i]? = some x) (b : N[j]? = some x) : i = j := by
  obtain ⟨h1, e1⟩ := List.getElem?_eq_some_iff.mp a
  obtain ⟨h2, e2⟩ := List.getElem?_eq_some_iff.mp b
  exact (List.getElem_inj hN).mp (e1.trans e2.symm)

/-- a name is stored; what changed -/
theorem store_ok2 {M : Model} {A : Around} {E : Value → Shared → Prop} {i : Nat} {x : Str} {v : V} {u : Value} {Q : Unit → Shared → Prop} (I : Inv X pins σ H s) (hN : X.N.Nodup) (hi : X.N[i]? = some x) (hx : Loc X.env.scope x) (r : RelV v u)
    (h : ∀ s', Inv X pins (σ.set i (some v)) H s' → (∃ a, Heap.SameBut a s.heap s'.heap ∧ (a = X.env.locals ∨ X.env.cells.lookup x = some a)) → Q () s') (hf : X.fn x = true ∨ X.env.scope.names.lookup x = some .local := by first | exact .inl rfl | exact .inr rfl | assumption) : wpAny M A (storeName X.env x u) Q E s := by
  obtain ⟨m, hn, hl⟩ := id I.loc
  have hcls : (X.env.scope.kind == .class || (X.env.scope.kind == .module && X.env.locals != X.env.globals)) = false := by rw [I.ok.kind]; rfl
  have hiσ : i < σ.length := by rw [I.len]; exact (List.getElem?_eq_some_iff.mp hi).1
  have cne := I.cne
  have tracked : ∀ {a : Addr} {h' : Heap}, (∃ o, s.heap.get? a = some o ∧ H a = none) → Heap.SameBut a s.heap h' → HOk X.prog X.w H h' := fun {a h'} ha hs b ob e => by
    obtain ⟨_, _, hfree⟩ := ha
    refine (I.hok b ob e).stay (fun c w' hc q => (hs.2 c ?_).trans q) (fun _ q => q) fun _ _ q => q
    rintro rfl
    rcases hc with rfl | hc
    · rw [hfree] at e; cases e
    · rw [hfree] at hc; cases hc
  rcases hx with hk | hk
  · refine wpAny_storeName_local hk hn (fun h' hn' hs => ?_) hcls
    obtain ⟨oL, _, _, hoL, _⟩ := id hn
    refine h _ ⟨I.ok, I.os, I.bare, ⟨fun b o e n hb hx => ?_, fun b o e n hb hx => ?_, I.base.free, fun b o e hx => ?_, I.base.tups, I.base.frzs, I.base.tbls⟩, ⟨_, hn', fun j y v' e1 e2 e3 => ?_⟩, fun y c e => ?_, I.free, I.freeC, fun p hp => ?_, tracked ⟨oL, hoL, I.free⟩ hs, by simpa using I.len⟩ ⟨_, hs, .inl rfl⟩
    · exact (hs.2 b (Nat.ne_of_lt (Nat.lt_of_lt_of_le (Heap.lt_size e) I.ok.above))).trans (I.base.keep b o e n hb hx)
    · obtain ⟨sl, e1⟩ := I.base.slot b o e n hb hx
      exact ⟨sl, (hs.2 b (Nat.ne_of_lt (Nat.lt_of_lt_of_le (Heap.lt_size e) I.ok.above))).trans e1⟩
    · obtain ⟨o', e1⟩ := I.base.there b o e hx
      exact ⟨o', (hs.2 b (Nat.ne_of_lt (Nat.lt_of_lt_of_le (Heap.lt_size e) I.ok.above))).trans e1⟩
    · by_cases hj : j = i
      · subst hj
        rw [hi] at e1; cases e1
        rw [List.getElem?_set_self hiσ] at e2
        cases e2
        exact ⟨u, r, .inl ⟨hk, by simp⟩⟩
      · rw [List.getElem?_set_ne (Ne.symm hj)] at e2
        obtain ⟨u', r', q⟩ := hl j y v' e1 e2 e3
        refine ⟨u', r', ?_⟩
        rcases q with ⟨k, e⟩ | ⟨k, c, e, z⟩
        · refine .inl ⟨k, ?_⟩
          have : y ≠ x := fun e => hj (nodup_ix hN e1 (e ▸ hi))
          simp [this, e]
        · exact .inr ⟨k, c, e, z.sameBut hs (cne y c e)⟩
    · obtain ⟨w', z⟩ := I.cell y c e
      exact ⟨w', z.sameBut hs (cne y c e)⟩
    · obtain ⟨e, n, ne, nf, d⟩ := I.pin p hp
      exact ⟨(hs.2 p.1 ne).trans e, n, ne, nf, d⟩
  · have hfn : X.fn x = true := by
      rcases hf with z | z
      · exact z
      · rw [z] at hk; cases hk
    obtain ⟨c, hc⟩ := I.ok.has x (.inl hk)
    obtain ⟨w', z⟩ := I.cell x c hc
    refine wpAny_storeName_cell I.ok.kind hk hc z (fun h' hc' hs => ?_)
    obtain ⟨oc, hoc, hocd⟩ := id z
    refine h { s with heap := h' } ⟨I.ok, I.os, I.bare, ⟨fun b o e n hb hx => ?_, fun b o e n hb hx => ?_, I.base.free, fun b o e hx => ?_, I.base.tups, I.base.frzs, I.base.tbls⟩, ⟨m, hn.sameBut hs (Ne.symm (cne x c hc)), fun j y v' e1 e2 e3 => ?_⟩, fun y c' e => ?_, I.free, I.freeC, fun p hp => ?_, tracked ⟨oc, hoc, I.freeC x c hc⟩ hs, by simpa using I.len⟩ ⟨c, hs, .inr hc⟩
    · exact (hs.2 b (Nat.ne_of_lt (Nat.lt_of_lt_of_le (Heap.lt_size e) (I.ok.cab x c hfn hc)))).trans (I.base.keep b o e n hb hx)
    · obtain ⟨sl, e1⟩ := I.base.slot b o e n hb hx
      exact ⟨sl, (hs.2 b (Nat.ne_of_lt (Nat.lt_of_lt_of_le (Heap.lt_size e) (I.ok.cab x c hfn hc)))).trans e1⟩
    · obtain ⟨o', e1⟩ := I.base.there b o e hx
      exact ⟨o', (hs.2 b (Nat.ne_of_lt (Nat.lt_of_lt_of_le (Heap.lt_size e) (I.ok.cab x c hfn hc)))).trans e1⟩
    · by_cases hj : j = i
      · subst hj
        rw [hi] at e1; cases e1
        rw [List.getElem?_set_self hiσ] at e2
        cases e2
        exact ⟨u, r, .inr ⟨.inl hk, c, hc, hc'⟩⟩
      · rw [List.getElem?_set_ne (Ne.symm hj)] at e2
        obtain ⟨u', r', q⟩ := hl j y v' e1 e2 e3
        refine ⟨u', r', ?_⟩
        rcases q with q | ⟨k, c', e, z'⟩
        · exact .inl q
        · refine .inr ⟨k, c', e, z'.sameBut hs ?_⟩
          rintro rfl
          exact hj (nodup_ix hN e1 (I.ok.inj _ _ _ e hc ▸ hi))
    · by_cases hcc : c' = c
      · subst hcc; exact ⟨_, hc'⟩
      · obtain ⟨w2, z2⟩ := I.cell y c' e
        exact ⟨w2, z2.sameBut hs hcc⟩
    · obtain ⟨e, n, ne, nf, d⟩ := I.pin p hp
      refine ⟨(hs.2 p.1 ?_).trans e, n, ne, nf, d⟩
      intro q
      rw [q, hoc] at e
      have q' : oc = p.2 := Option.some.inj e
      exact d w' (by rw [← q']; exact hocd)
theorem store_ok {M : Model} {A : Around} {E : Value → Shared → Prop} {i : Nat} {x : Str} {v : V} {u : Value} {Q : Unit → Shared → Prop} (I : Inv X pins σ H s) (hN : X.N.Nodup) (hi : X.N[i]? = some x) (hx : Loc X.env.scope x) (r : RelV v u)
    (h : ∀ s', Inv X pins (σ.set i (some v)) H s' → Q () s') (hf : X.fn x = true ∨ X.env.scope.names.lookup x = some .local := by first | exact .inl rfl | exact .inr rfl | assumption) : wpAny M A (storeName X.env x u) Q E s :=
  store_ok2 I hN hi hx r (fun s' I' _ => h s' I') hf
/-- behind a call or a block, the state as it is -/
theorem Inv.call' {s' : Shared} {ch : List Addr} (I : Inv X pins σ H s) (ho : s'.os = s.os) (u : Un (frs X.stack) ch H H' s.heap s'.heap) (hok : HOk X.prog X.w H' s'.heap) (hg : AllBare s'.gens)
    (hch : ∀ b ∈ ch, (b ∈ X.ex ∨ X.s₀.heap.objs.size ≤ b) ∧ b ≠ X.env.locals ∧ (∀ x c, X.env.cells.lookup x = some c → c ≠ b) ∧ ∀ p ∈ X.pn ++ pins, p.1 ≠ b) : Inv X pins σ H' s' := by
  obtain ⟨h', g', d', t', o'⟩ := s'
  have e : o' = s.os := ho
  subst e
  exact I.call (g' := g') (t' := t') (d' := d') u hok hg hch
end

/-! ### the judgements -/
/-- an exception: its class, its own dict's address (where it has one), the abstract heap behind it -/
abbrev XK := Value → Option Addr → Hp → Prop
abbrev St := List (Option V)
abbrev VK := V → Hp → Prop
/-- an expression's reading; a test's; an argument list's -/
abbrev TE := St → Hp → VK → Prop
abbrev TT := St → Hp → (Bool → Hp → Prop) → Prop
abbrev TA := St → Hp → (List V → Hp → Prop) → Prop
/-- what is wanted behind a statement -/
structure Ends where
  nx : St → Hp → Prop
  rt : VK
  bk : St → Hp → Prop := fun _ _ => False
  ct : St → Hp → Prop := fun _ _ => False
abbrev TS := Ends → St → Hp → Prop

def EP (X : Cx) (pins : List (Addr × Obj)) (σ : St) (Q : VK) (u : Value) (s' : Shared) : Prop := ∃ v H', Inv X pins σ H' s' ∧ RelV v u ∧ Q v H'
def TP (X : Cx) (pins : List (Addr × Obj)) (σ : St) (Q : Bool → Hp → Prop) (b : Bool) (s' : Shared) : Prop := ∃ H', Inv X pins σ H' s' ∧ Q b H'
def AP (X : Cx) (pins : List (Addr × Obj)) (σ : St) (Q : List V → Hp → Prop) (us : List Value) (s' : Shared) : Prop := ∃ vs H', Inv X pins σ H' s' ∧ Vals vs us ∧ Q vs H'
def SP (X : Cx) (pins : List (Addr × Obj)) (D : Ends) (f : Flow) (s' : Shared) : Prop :=
  match f with
  | .next => ∃ σ' H', Inv X pins σ' H' s' ∧ D.nx σ' H'
  | .brk => ∃ σ' H', Inv X pins σ' H' s' ∧ D.bk σ' H'
  | .cont => ∃ σ' H', Inv X pins σ' H' s' ∧ D.ct σ' H'
  | .ret u => ∃ v σ' H', Inv X pins σ' H' s' ∧ RelV v u ∧ D.rt v H'

def PE (X : Cx) (e : Expr) (t : TE) : Prop :=
  ∀ (pins : List (Addr × Obj)) (s : Shared) (σ : St) (H : Hp) (Q : VK), Inv X pins σ H s → t σ H Q → wpAny (model X.prog X.w) X.A (eval e X.env) (EP X pins σ Q) X.xe s
def PT (X : Cx) (e : Expr) (t : TT) : Prop :=
  ∀ (pins : List (Addr × Obj)) (s : Shared) (σ : St) (H : Hp) (Q : Bool → Hp → Prop), Inv X pins σ H s → t σ H Q → wpAny (model X.prog X.w) X.A (isTrue e X.env (eval e X.env)) (TP X pins σ Q) X.xe s
/-- a test whatever its 'whole' is (and, or) -/
def PW (X : Cx) (e : Expr) (t : TT) : Prop :=
  ∀ (whole : Sem Value) (pins : List (Addr × Obj)) (s : Shared) (σ : St) (H : Hp) (Q : Bool → Hp → Prop), Inv X pins σ H s → t σ H Q → wpAny (model X.prog X.w) X.A (isTrue e X.env whole) (TP X pins σ Q) X.xe s
theorem PW.pt {X : Cx} {e : Expr} {t : TT} (h : PW X e t) : PT X e t := h _
/-- an argument list (no star), from the left -/
def PA (X : Cx) (es : List Expr) (t : TA) : Prop :=
  ∀ (pos : Pos) (pins : List (Addr × Obj)) (s : Shared) (σ : St) (H : Hp) (Q : List V → Hp → Prop), Inv X pins σ H s → t σ H Q → wpAny (model X.prog X.w) X.A (spliced (backTo pos (starEach es X.env))) (AP X pins σ Q) X.xe s
def PS (X : Cx) (st : Stmt) (t : TS) : Prop :=
  ∀ (pins : List (Addr × Obj)) (s : Shared) (σ : St) (H : Hp) (D : Ends), Inv X pins σ H s → t D σ H → wpAny (model X.prog X.w) X.A (exec st X.env) (SP X pins D) X.xe s
def PSs (X : Cx) (st : List Stmt) (t : TS) : Prop :=
  ∀ (pins : List (Addr × Obj)) (s : Shared) (σ : St) (H : Hp) (D : Ends), Inv X pins σ H s → t D σ H → wpAny (model X.prog X.w) X.A (execs st X.env) (SP X pins D) X.xe s
/-- weaken the end -/
theorem thn {α : Type} {t : Sem α} {Q Q' : α → Shared → Prop} {M : Model} {A : Around} {E : Value → Shared → Prop} {s : Shared} (h : wpAny M A t Q E s) (hQ : ∀ a s, Q a s → Q' a s) : wpAny M A t Q' E s := wpAny_mono h hQ fun _ _ x => x
end L2

namespace L2
open PySem PySem.Spec PyProof.Rows
section
variable {X : Cx}

/-! ### names and constants -/
def tVar (i : Nat) : TE := fun σ H Q => ∃ v, σ[i]? = some (some v) ∧ Q v H
def tC (v : V) : TE := fun _ H Q => Q v H
theorem pe_var {i : Nat} {x : Str} {pos : Pos} (hN : X.N[i]? = some x) (hv : Vis X.env.scope x) (hd : (x == ("__debug__" : Str)) = false := by decide) (hcd : (x == ("__classdict__" : Str)) = false := by decide) : PE X (.Name x pos) (tVar i) := by
  intro pins s σ H Q I h
  obtain ⟨v, e, h⟩ := h
  obtain ⟨m, hn, hl⟩ := I.loc
  obtain ⟨u, r, l⟩ := hl i x v hN e hv
  have fin : EP X pins σ Q u s := ⟨v, H, I, r, h⟩
  rcases l with ⟨hk, hm⟩ | ⟨hk, c, hc, hcell⟩
  · exact wpAny_Name (wpAny_loadName_local I.ok.kind hk hn hm fin) hd
  · rcases hk with hk | hk
    · exact wpAny_Name (wpAny_loadName_cell I.ok.kind hk hc hcell fin) hd
    · exact wpAny_Name (wpAny_loadName_free I.ok.kind hk hc hcell fin hcd) hd
theorem pe_int {i j pos} : PE X (.Constant (.int i) j pos) (tC (.int i)) := fun _ _ _ H _ I h => wpAny_Constant_int ⟨.int i, H, I.tok _, ⟨_, rfl⟩, h⟩
theorem pe_bl {b j pos} : PE X (.Constant (.bool b) j pos) (tC (.bl b)) := fun _ _ _ H _ I h => Constant_bool ⟨.bl b, H, I, rfl, h⟩
theorem pe_non {j pos} : PE X (.Constant .none j pos) (tC .non) := fun _ _ _ H _ I h => Constant_none ⟨.non, H, I, rfl, h⟩
theorem pe_str {x j pos} : PE X (.Constant (.str x) j pos) (tC (.str x)) := fun _ _ _ H _ I h => Calls.Constant_str ⟨.str x, H, I.tok _, ⟨_, rfl⟩, h⟩

/-- a global name of the def -/
def Gl (X : Cx) (x : Str) : Prop := X.env.kindOf x = some .globalImplicit
theorem ld_glob {E : Value → Shared → Prop} {pins : List (Addr × Obj)} {s : Shared} {σ : St} {H : Hp} {x : Str} {u : Value} {pos : Pos} {Q : Value → Shared → Prop} (I : Inv X pins σ H s) (hg : Gl X x) (hm : X.mg x = some u) (h : Q u s)
    (hd : (x == ("__debug__" : Str)) = false := by decide) : wpAny (model X.prog X.w) X.A (eval (.Name x pos) X.env) Q E s :=
  Calls.Name_function_global I.ok.kind hg (Calls.loadGlobal_global (by rw [I.ok.glob]; exact I.mod.glob.keeps I.bk) hm h) hd
theorem ld_blt {E : Value → Shared → Prop} {pins : List (Addr × Obj)} {s : Shared} {σ : St} {H : Hp} {x : Str} {u : Value} {pos : Pos} {Q : Value → Shared → Prop} (I : Inv X pins σ H s) (hg : Gl X x) (hm : X.mg x = none) (hv : bootBuiltins x = some u) (h : Q u s)
    (hn : x ≠ "__name__" := by decide) (hd : (x == ("__debug__" : Str)) = false := by decide) : wpAny (model X.prog X.w) X.A (eval (.Name x pos) X.env) Q E s := by
  obtain ⟨mb, h1, h2⟩ := I.mod.blt
  exact Calls.Name_function_global I.ok.kind hg (Calls.loadGlobal_builtin (by rw [I.ok.glob]; exact I.mod.glob.keeps I.bk) hm (by rw [I.ok.blt]; exact h1.keeps I.bk) ((h2 x hn).trans hv) h) hd
/-- a module's constant, a class, a function, as a value -/
theorem pe_glob {x : Str} {v : V} {u : Value} {pos : Pos} (hg : Gl X x) (hm : X.mg x = some u) (r : RelV v u) (hd : (x == ("__debug__" : Str)) = false := by decide) : PE X (.Name x pos) (tC v) :=
  fun _ _ _ H _ I h => ld_glob I hg hm ⟨v, H, I, r, h⟩ hd
theorem pe_bltn {x : Str} {v : V} {u : Value} {pos : Pos} (hg : Gl X x) (hm : X.mg x = none) (hv : bootBuiltins x = some u) (r : RelV v u) (hn : x ≠ "__name__" := by decide) (hd : (x == ("__debug__" : Str)) = false := by decide) : PE X (.Name x pos) (tC v) :=
  fun _ _ _ H _ I h => ld_blt I hg hm hv ⟨v, H, I, r, h⟩ hn hd

/-! ### arithmetic -/
/-- two ints -/
def t2I (ta tb : TE) (k : Int → Int → Hp → Prop) : St → Hp → Prop := fun σ H => ta σ H fun x H1 => tb σ H1 fun y H2 => ∃ i j, x = .int i ∧ y = .int j ∧ k i j H2
def tAdd (ta tb : TE) : TE := fun σ H Q => t2I ta tb (fun i j H2 => Q (.int (i + j)) H2) σ H
def tSub (ta tb : TE) : TE := fun σ H Q => t2I ta tb (fun i j H2 => Q (.int (i - j)) H2) σ H
/-- the left factor below 2^64 -/
def tMul (ta tb : TE) : TE := fun σ H Q => t2I ta tb (fun i j H2 => (-(2 ^ 64) < i ∧ i < 2 ^ 64) ∧ Q (.int (i * j)) H2) σ H
variable {a b : Expr} {ta tb : TE} {pos : Pos}
/-! ### comparisons -/
def PC (X : Cx) (op : CmpOp) (a b : Expr) (t : TE) : Prop :=
  ∀ (pins : List (Addr × Obj)) (s : Shared) (σ : St) (H : Hp) (Q : VK), Inv X pins σ H s → t σ H Q →
    wpAny (model X.prog X.w) X.A (eval a X.env) (fun v s₁ => wpAny (model X.prog X.w) X.A (eval b X.env) (fun u s₂ => wpAny (model X.prog X.w) X.A (compareOp op v u) (EP X pins σ Q) X.xe s₂) X.xe s₁) X.xe s
def tCmp (p : Int → Int → Bool) (ta tb : TE) : TE := fun σ H Q => t2I ta tb (fun i j H2 => Q (.bl (p i j)) H2) σ H
abbrev tLt : TE → TE → TE := tCmp fun i j => decide (i < j)
abbrev tLe : TE → TE → TE := tCmp fun i j => decide (i ≤ j)
abbrev tGt : TE → TE → TE := tCmp fun i j => decide (j < i)
abbrev tGe : TE → TE → TE := tCmp fun i j => decide (j ≤ i)
abbrev tEqI : TE → TE → TE := tCmp fun i j => decide (i = j)
abbrev tNeI : TE → TE → TE := tCmp fun i j => !decide (i = j)
/-- is None -/
def tIsN (ta : TE) : TE := fun σ H Q => ta σ H fun x H1 => Q (.bl (decide (x = .non))) H1
def tNotN (ta : TE) : TE := fun σ H Q => ta σ H fun x H1 => Q (.bl (!decide (x = .non))) H1
/-- a comparison as a value, as a test -/
def tB (t : TE) : TT := fun σ H Q => t σ H fun x H1 => ∃ c, x = .bl c ∧ Q c H1
/-- an expression whose value is a bool, as a test -/
theorem pt_val {e : Expr} {t : TE} (h : PE X e t) (he : ∀ whole, isTrue e X.env whole = (do let v ← whole; standAt e.pos; holding [v] (truthy v)) := by intro _; rfl) : PT X e (tB t) := by
  intro pins s σ H Q I hw
  refine isTrue_plain (thn (h pins s σ H _ I hw) fun v s1 ⟨x, H1, I1, r1, q1⟩ => ?_) (he _)
  obtain ⟨d, rfl, q⟩ := q1
  cases r1
  exact wpAny_truthy_bool ⟨H1, I1, q⟩

/-! ### and, or, not -/
variable {tA tB' : TT} {rest : List Expr}
def tAnd (t u : TT) : TT := fun σ H Q => t σ H fun c H1 => if c = true then u σ H1 Q else Q false H1
def tOr (t u : TT) : TT := fun σ H Q => t σ H fun c H1 => if c = true then Q true H1 else u σ H1 Q
def tNot (t : TT) : TT := fun σ H Q => t σ H fun c H1 => Q (!c) H1
theorem pw_and1 (ha : PT X a tA) : PW X (.BoolOp .And [a] pos) tA := by
  intro wh pins s σ H Q I h
  refine isTrue_and (thn (ha pins s σ H Q I h) fun c s1 e => ?_)
  cases c with
  | true => exact isTrue_and_nil e
  | false => exact e
theorem pw_or1 (ha : PT X a tA) : PW X (.BoolOp .Or [a] pos) tA := by
  intro wh pins s σ H Q I h
  refine isTrue_or (thn (ha pins s σ H Q I h) fun c s1 e => ?_)
  cases c with
  | false => exact isTrue_or_nil e
  | true => exact e
theorem pw_and (ha : PT X a tA) (hb : PW X (.BoolOp .And (b :: rest) pos) tB') : PW X (.BoolOp .And (a :: b :: rest) pos) (tAnd tA tB') := by
  intro wh pins s σ H Q I h
  refine isTrue_and (thn (ha pins s σ H _ I h) fun c s1 ⟨H1, I1, q1⟩ => ?_)
  cases c with
  | true => exact hb wh pins s1 σ H1 Q I1 q1
  | false => exact ⟨H1, I1, q1⟩
theorem pw_or (ha : PT X a tA) (hb : PW X (.BoolOp .Or (b :: rest) pos) tB') : PW X (.BoolOp .Or (a :: b :: rest) pos) (tOr tA tB') := by
  intro wh pins s σ H Q I h
  refine isTrue_or (thn (ha pins s σ H _ I h) fun c s1 ⟨H1, I1, q1⟩ => ?_)
  cases c with
  | true => exact ⟨H1, I1, q1⟩
  | false => exact hb wh pins s1 σ H1 Q I1 q1
theorem pt_not (ha : PT X a tA) : PT X (.UnaryOp .Not a pos) (tNot tA) := by
  intro pins s σ H Q I h
  exact isTrue_not (ha pins s σ H (fun c H1 => Q (!c) H1) I h)
/-- .. as values (bools) -/
def tAndV (ta tb : TE) : TE := fun σ H Q => ta σ H fun x H1 => ∃ c, x = .bl c ∧ if c = true then tb σ H1 Q else Q (.bl false) H1
def tOrV (ta tb : TE) : TE := fun σ H Q => ta σ H fun x H1 => ∃ c, x = .bl c ∧ if c = true then Q (.bl true) H1 else tb σ H1 Q
def tNotV (ta : TE) : TE := fun σ H Q => ta σ H fun x H1 => ∃ c, x = .bl c ∧ Q (.bl (!c)) H1
theorem pe_one {op} {t : TE} (h : PE X a t) : PE X (.BoolOp op [a] pos) t := fun pins s σ H Q I hw => BoolOp_one (h pins s σ H Q I hw)
theorem pe_and (ha : PE X a ta) (hb : PE X (.BoolOp .And (b :: rest) pos) tb) : PE X (.BoolOp .And (a :: b :: rest) pos) (tAndV ta tb) := by
  intro pins s σ H Q I h
  refine BoolOp_and (thn (ha pins s σ H _ I h) fun v s1 ⟨x, H1, I1, r1, q1⟩ => ?_)
  obtain ⟨c, rfl, q1⟩ := q1
  cases r1
  refine wpAny_truthy_bool ?_
  cases c with
  | true => exact hb pins s1 σ H1 Q I1 q1
  | false => exact ⟨.bl false, H1, I1, rfl, q1⟩
theorem pe_or (ha : PE X a ta) (hb : PE X (.BoolOp .Or (b :: rest) pos) tb) : PE X (.BoolOp .Or (a :: b :: rest) pos) (tOrV ta tb) := by
  intro pins s σ H Q I h
  refine BoolOp_or (thn (ha pins s σ H _ I h) fun v s1 ⟨x, H1, I1, r1, q1⟩ => ?_)
  obtain ⟨c, rfl, q1⟩ := q1
  cases r1
  refine wpAny_truthy_bool ?_
  cases c with
  | false => exact hb pins s1 σ H1 Q I1 q1
  | true => exact ⟨.bl true, H1, I1, rfl, q1⟩
/-- a if t else b -/
def tIf (t : TT) (ta tb : TE) : TE := fun σ H Q => t σ H fun c H1 => if c = true then ta σ H1 Q else tb σ H1 Q
end
end L2

namespace L2
open PySem PySem.Spec PyProof.Rows

/-! ### a list, a tuple that is read: tracked, frozen, or an object of the module -/
def SqL (K : PySem.W.Frag) (H : Hp) (a : Addr) (xs : List V) : Prop :=
  Rd H a (.lst xs) ∨
    ∃ (o : Obj) (its : Array Value) (n : Nat), K.lookup a = some o ∧ o.cls = .type "list" ∧ o.dict = none ∧ o.data = .seq its n ∧ its.size ≤ sizeLine ∧ Vals xs its.toList
def SqT (K : PySem.W.Frag) (H : Hp) (a : Addr) (xs : List V) : Prop :=
  Rd H a (.tup xs) ∨
    ∃ (o : Obj) (its : Array Value) (n : Nat), K.lookup a = some o ∧ o.cls = .type "tuple" ∧ o.data = .seq its n ∧ its.size ≤ sizeLine ∧ Vals xs its.toList
def absV : Value → Option V
  | .none => some .non
  | .bool b => some (.bl b)
  | .int i _ => some (.int i)
  | .str x _ => some (.str x)
  | .bytes b _ => some (.byt b)
  | .float b _ => some (.flt b)
  | .ref a => some (.ref a)
  | .type n => some (.ty n)
  | _ => none
theorem RelV.abs {x : V} {u : Value} (r : RelV x u) : absV u = some x := by
  cases x with
  | non => cases r; rfl
  | bl _ => cases r; rfl
  | int _ => obtain ⟨t, rfl⟩ := r; rfl
  | str _ => obtain ⟨t, rfl⟩ := r; rfl
  | byt _ => obtain ⟨t, rfl⟩ := r; rfl
  | flt _ => obtain ⟨t, rfl⟩ := r; rfl
  | ref _ => cases r; rfl
  | ty _ => cases r; rfl
theorem RelV.inj {x y : V} {u : Value} (r : RelV x u) (q : RelV y u) : x = y := Option.some.inj (r.abs.symm.trans q.abs)
theorem Vals.inj : ∀ {xs ys : List V} {us : List Value}, Vals xs us → Vals ys us → xs = ys
  | _, _, _, .nil, .nil => rfl
  | _, _, _, .cons r t, .cons r' t' => by rw [r.inj r', Vals.inj t t']
section
variable {X : Cx} {pins : List (Addr × Obj)} {σ : St} {H : Hp} {s : Shared} {a : Addr} {xs ys : List V}
theorem SqL.of {K : PySem.W.Frag} (h : H a = some (.lst xs)) : SqL K H a xs := .inl (.inl h)
theorem Inv.list (I : Inv X pins σ H s) (h : SqL X.K H a xs) : ∃ its : List Value, Vals xs its ∧ PlainL s.heap a its.toArray ∧ xs.length ≤ sizeLine := by
  rcases h with h | ⟨o, its, n, hk, hc, hd, hs, hz, r⟩
  · obtain ⟨z, its, n, r, e⟩ := h.ok I.hok
    exact ⟨its, r, ⟨_, n, e, rfl, rfl, rfl⟩, z⟩
  · refine ⟨its.toList, r, ⟨o, n, I.kIn a o hk, hc, hd, by simpa using hs⟩, ?_⟩
    have e := r.length
    simp only [Array.length_toList] at e
    omega
theorem Inv.tuple (I : Inv X pins σ H s) (h : SqT X.K H a xs) : ∃ its : List Value, Vals xs its ∧ IsTup s.heap a its.toArray ∧ xs.length ≤ sizeLine := by
  rcases h with h | ⟨o, its, n, hk, hc, hs, hz, r⟩
  · obtain ⟨z, its, r, p⟩ := h.ok I.hok
    exact ⟨its, r, p, z⟩
  · refine ⟨its.toList, r, ⟨o, I.kIn a o hk, hc, n, by simpa using hs⟩, ?_⟩
    have e := r.length
    simp only [Array.length_toList] at e
    omega
theorem Inv.list_inj (I : Inv X pins σ H s) (h : SqL X.K H a xs) (h' : SqL X.K H a ys) : xs = ys := by
  obtain ⟨its, r, ⟨o, n, e, _, _, d⟩, _⟩ := I.list h
  obtain ⟨its', r', ⟨o', n', e', _, _, d'⟩, _⟩ := I.list h'
  rw [e] at e'; cases e'
  rw [d] at d'
  injection d' with d1 _
  have : its = its' := by simpa using congrArg Array.toList d1
  subst this
  exact r.inj r'
end

/-! ### another wish about exceptions -/
abbrev Cx.wish (X : Cx) (E : Value → Shared → Prop) : Cx := { X with xe := E }
/-- no exception leaves -/
abbrev Cx.nox (X : Cx) : Cx := X.wish fun _ _ => False
theorem Cx.Ok.wish {X : Cx} (ok : X.Ok) (E : Value → Shared → Prop) : (X.wish E).Ok :=
  ⟨ok.mod, ok.kind, ok.glob, ok.blt, ok.above, ok.inj, ok.has, ok.cab, ok.hd, ok.frames, ok.stk, ok.exf, ok.bs, ok.bsz, ok.noex, ok.exfs, ok.funs, ok.frf⟩
theorem Cx.Ok.unwish {X : Cx} {E : Value → Shared → Prop} (ok : (X.wish E).Ok) : X.Ok :=
  ⟨ok.mod, ok.kind, ok.glob, ok.blt, ok.above, ok.inj, ok.has, ok.cab, ok.hd, ok.frames, ok.stk, ok.exf, ok.bs, ok.bsz, ok.noex, ok.exfs, ok.funs, ok.frf⟩
section
variable {X : Cx} {pins : List (Addr × Obj)} {σ : St} {H : Hp} {s : Shared} {E : Value → Shared → Prop}
theorem Inv.wish (I : Inv X pins σ H s) (E : Value → Shared → Prop) : Inv (X.wish E) pins σ H s := ⟨I.ok.wish E, I.os, I.bare, I.base, I.loc, I.cell, I.free, I.freeC, I.pin, I.hok, I.len⟩
theorem Inv.unwish (I : Inv (X.wish E) pins σ H s) : Inv X pins σ H s := ⟨I.ok.unwish, I.os, I.bare, I.base, I.loc, I.cell, I.free, I.freeC, I.pin, I.hok, I.len⟩
theorem SP.unwish {D : Ends} {f : Flow} {s' : Shared} (h : SP (X.wish E) pins D f s') : SP X pins D f s' := by
  cases f with
  | next => obtain ⟨σ', H', I, q⟩ := h; exact ⟨σ', H', I.unwish, q⟩
  | brk => obtain ⟨σ', H', I, q⟩ := h; exact ⟨σ', H', I.unwish, q⟩
  | cont => obtain ⟨σ', H', I, q⟩ := h; exact ⟨σ', H', I.unwish, q⟩
  | ret u => obtain ⟨v, σ', H', I, r, q⟩ := h; exact ⟨v, σ', H', I.unwish, r, q⟩
theorem PSs.nox {st : List Stmt} {t : TS} (h : PSs X.nox st t) : PSs X st t := fun pins s σ H D I hw =>
  wpAny_mono (h pins s σ H D (I.wish _) hw) (fun _ _ q => q.unwish) fun _ _ z => False.elim z
end

/-! ### blocks and small statements -/
section
variable {X : Cx} {st : Stmt} {rest : List Stmt} {t u : TS} {e : Expr} {te : TE} {pos : Pos}
def tNext : TS := fun D σ H => D.nx σ H
def tSeq (t u : TS) : TS := fun D σ H => t { D with nx := u D } σ H
theorem pss_nil : PSs X [] tNext := fun _ _ σ H _ I h => wpAny_execs_nil ⟨σ, H, I, h⟩
theorem pss_cons (h1 : PS X st t) (h2 : PSs X rest u) : PSs X (st :: rest) (tSeq t u) := by
  intro pins s σ H D I h
  refine wpAny_execs_cons (thn (h1 pins s σ H { D with nx := u D } I h) fun f s1 q => ?_)
  cases f with
  | next =>
    obtain ⟨σ', H', I', q⟩ := q
    exact h2 pins s1 σ' H' D I' q
  | ret v => exact q
  | brk => exact q
  | cont => exact q
theorem pss_one (h1 : PS X st t) : PSs X [st] t := by
  intro pins s σ H D I h
  refine wpAny_execs_cons (thn (h1 pins s σ H D I h) fun f s1 q => ?_)
  cases f with
  | next => exact wpAny_execs_nil q
  | ret v => exact q
  | brk => exact q
  | cont => exact q
def tBreak : TS := fun D σ H => D.bk σ H
def tCont : TS := fun D σ H => D.ct σ H
/-- in a def's body nothing is shown -/
theorem Inv.quiet {pins : List (Addr × Obj)} {σ : St} {H : Hp} {s : Shared} (I : Inv X pins σ H s) : interactive X.env = false := by simp [interactive, I.ok.kind]
/-- an expression whose value is dropped -/
def tDrop (te : TE) : TS := fun D σ H => te σ H fun _ H1 => D.nx σ H1
theorem ps_expr (he : PE X e te) (hs : swapsWith e none pos.line X.env = pure false := by rfl) : PS X (.Expr e pos) (tDrop te) := by
  intro pins s σ H D I h
  exact wpAny_Expr_any (thn (he pins s σ H _ I h) fun v s1 ⟨x, H1, I1, r1, q1⟩ => ⟨σ, H1, I1, q1⟩) I.quiet hs
def tRet (te : TE) : TS := fun D σ H => te σ H D.rt
theorem ps_ret (he : PE X e te) : PS X (.Return (some e) pos) (tRet te) := by
  intro pins s σ H D I h
  exact wpAny_Return_some (thn (he pins s σ H _ I h) fun v s1 ⟨x, H1, I1, r1, q1⟩ => ⟨x, σ, H1, I1, r1, q1⟩)
def tRetN : TS := fun D _ H => D.rt .non H
def tIfS (c : TT) (t u : TS) : TS := fun D σ H => c σ H fun b H1 => if b = true then t D σ H1 else u D σ H1
theorem ps_if {c : Expr} {a b : List Stmt} {tc : TT} (hc : PT X c tc) (ha : PSs X a t) (hb : PSs X b u) : PS X (.If c a b pos) (tIfS tc t u) := by
  intro pins s σ H D I h
  refine wpAny_If (thn (hc pins s σ H _ I h) fun d s1 ⟨H1, I1, q1⟩ => ?_)
  cases d with
  | true => exact ha pins s1 σ H1 D I1 q1
  | false => exact hb pins s1 σ H1 D I1 q1
/-- code that the proof never comes to -/
def tNever : TS := fun _ _ _ => False
theorem pss_never {sts : List Stmt} : PSs X sts tNever := fun _ _ _ _ _ _ h => h.elim
end

/-! ### targets -/
abbrev TG := V → St → Hp → (St → Hp → Prop) → Prop
abbrev TGs := List V → St → Hp → (St → Hp → Prop) → Prop
def PG (X : Cx) (target : Expr) (t : TG) : Prop :=
  ∀ (pins : List (Addr × Obj)) (s : Shared) (σ : St) (H : Hp) (v : V) (u : Value) (Q : St → Hp → Prop), Inv X pins σ H s → RelV v u → t v σ H Q →
    wpAny (model X.prog X.w) X.A (assign target X.env u) (fun _ s' => ∃ σ' H', Inv X pins σ' H' s' ∧ Q σ' H') X.xe s
/-- several targets, one after another -/
def PGs (X : Cx) (ts : List Expr) (t : TGs) : Prop :=
  ∀ (pins : List (Addr × Obj)) (s : Shared) (σ : St) (H : Hp) (vs : List V) (us : List Value) (Q : St → Hp → Prop), Inv X pins σ H s → Vals vs us → t vs σ H Q →
    wpAny (model X.prog X.w) X.A (assignInOrder ((assignEach ts X.env).map (·.2)) us) (fun _ s' => ∃ σ' H', Inv X pins σ' H' s' ∧ Q σ' H') X.xe s
/-- o[i] = v, by values -/
abbrev TSet := V → V → V → Hp → (Hp → Prop) → Prop
def PSet (X : Cx) (t : TSet) : Prop :=
  ∀ (pins : List (Addr × Obj)) (s : Shared) (σ : St) (H : Hp) (o i v : V) (ov iv u : Value) (Q : Hp → Prop), Inv X pins σ H s → RelV o ov → RelV i iv → RelV v u → t o i v H Q →
    wpAny (model X.prog X.w) X.A (setItem ov iv u) (fun _ s' => ∃ H', Inv X pins σ H' s' ∧ Q H') X.xe s
/-- a op= b, by values -/
abbrev TIp := V → V → Hp → VK → Prop
def PIp (X : Cx) (op : Operator) (t : TIp) : Prop :=
  ∀ (pins : List (Addr × Obj)) (s : Shared) (σ : St) (H : Hp) (x y : V) (v u : Value) (Q : VK), Inv X pins σ H s → RelV x v → RelV y u → t x y H Q →
    wpAny (model X.prog X.w) X.A (inplaceOp op v u) (EP X pins σ Q) X.xe s
section
variable {X : Cx} {pos : Pos}
def gName (i : Nat) : TG := fun v σ H Q => Q (σ.set i (some v)) H
theorem pg_name {i : Nat} {x : Str} (hN : X.N.Nodup) (hi : X.N[i]? = some x) (hx : Loc X.env.scope x) (hf : X.fn x = true ∨ X.env.scope.names.lookup x = some .local := by first | exact .inl rfl | exact .inr rfl | assumption) : PG X (.Name x pos) (gName i) := by
  intro pins s σ H v u Q I r h
  exact wpAny_assign_Name (store_ok I hN hi hx r (fun s' I' => ⟨_, H, I', h⟩) hf)
def gNil : TGs := fun vs σ H Q => vs = [] ∧ Q σ H
def gCons (t : TG) (u : TGs) : TGs := fun vs σ H Q => ∃ v r, vs = v :: r ∧ t v σ H fun σ' H' => u r σ' H' Q
theorem pgs_nil : PGs X [] gNil := by
  intro pins s σ H vs us Q I r h
  obtain ⟨e, h⟩ := h
  subst e
  cases r
  exact assignInOrder_nil ⟨σ, H, I, h⟩
theorem pgs_cons {e : Expr} {es : List Expr} {t : TG} {u : TGs} (h1 : PG X e t) (h2 : PGs X es u)
    (hs : (assignEach (e :: es) X.env).map (·.2) = assign e X.env :: (assignEach es X.env).map (·.2) := by rfl) : PGs X (e :: es) (gCons t u) := by
  intro pins s σ H vs us Q I r h
  obtain ⟨v, vr, e1, h⟩ := h
  subst e1
  cases r with
  | cons r rr =>
    rw [hs]
    refine assignInOrder_cons (thn (h1 pins s σ H _ _ _ I r h) fun _ s1 ⟨σ1, H1, I1, q1⟩ => ?_)
    exact h2 pins s1 σ1 H1 _ _ Q I1 rr q1
/-- (a, b, ..) = a tuple of that length -/
def gTup (K : PySem.W.Frag) (n : Nat) (t : TGs) : TG := fun v σ H Q => ∃ a xs, v = .ref a ∧ SqT K H a xs ∧ xs.length = n ∧ t xs σ H Q
theorem pg_tup {es : List Expr} {k : Nat} {t : TGs} {n : Nat} (hc : X.A.handled = none) (h : PGs X es t)
    (hn : (assignEach es X.env).length = n := by rfl) (hst : (assignEach es X.env).findIdx? (·.1) = none := by rfl) : PG X (.Tuple es k pos) (gTup X.K n t) := by
  intro pins s σ H v u Q I r hw
  obtain ⟨a, xs, e1, hq, hl, hw⟩ := hw
  subst e1
  cases r
  obtain ⟨its, rv, ht, hz⟩ := I.tuple hq
  refine assign_Tuple_tuple hc ht (by simp [hn, ← hl, rv.length]) hst fun h' hx => ?_
  have I1 : Inv X pins σ H { s with heap := h' } := I.kept (t' := s.toks) fun b o e => hx b o (Nat.ne_of_lt (Heap.lt_size e)) e
  exact h pins _ σ H xs _ Q I1 (by simpa using rv) hw
/-- o[i] = .. -/
def gSub (to ti : TE) (t : TSet) : TG := fun v σ H Q => to σ H fun o H1 => ti σ H1 fun i H2 => t o i v H2 fun H3 => Q σ H3
/-- target = value -/
def tAsg (te : TE) (g : TG) : TS := fun D σ H => te σ H fun x H1 => g x σ H1 D.nx
theorem ps_asg {tg e : Expr} {te : TE} {g : TG} (he : PE X e te) (hg : PG X tg g) (hs : swapsWithSole [tg] e pos.line X.env = pure false := by rfl) (hw : swappedStores [tg] e X.env = pure none := by rfl)
    (h1 : (assignEach [tg] X.env).map (·.2) = [assign tg X.env] := by rfl) : PS X (.Assign [tg] e pos) (tAsg te g) := by
  intro pins s σ H D I h
  refine wpAny_Assign_stores (thn (he pins s σ H _ I h) fun v s1 ⟨x, H1, I1, r1, q1⟩ => ?_) hs hw
  rw [h1]
  exact thn (hg pins s1 σ H1 x v _ I1 r1 q1) fun _ s2 q => q
/-- name = value -/
theorem ps_set {i : Nat} {x : Str} {e : Expr} {te : TE} {pos' : Pos} (hN : X.N.Nodup) (hi : X.N[i]? = some x) (hx : Loc X.env.scope x) (he : PE X e te) (hs : swapsWith e (some (.Name x pos')) pos.line X.env = pure false := by rfl) (hf : X.fn x = true ∨ X.env.scope.names.lookup x = some .local := by first | exact .inl rfl | exact .inr rfl | assumption) :
    PS X (.Assign [.Name x pos'] e pos) (tAsg te (gName i)) := by
  intro pins s σ H D I h
  refine wpAny_Assign_Name (thn (he pins s σ H _ I h) fun v s1 ⟨y, H1, I1, r1, q1⟩ => ?_) hs
  exact store_ok I1 hN hi hx r1 (fun s2 I2 => ⟨_, H1, I2, q1⟩) hf
/-- a, b = x, y with plain local names: stored from the right; the pair itself is not tracked (the opening rows as in PyProof/Rows/TupAssign.lean:23) -/
def tPar (i j : Nat) (ta : TA) : TS := fun D σ H => ta σ H fun vs H1 => ∃ v w, vs = [v, w] ∧ D.nx ((σ.set i (some v)).set j (some w)) H1
/-- name op= e -/
def tAug (i : Nat) (te : TE) (ti : TIp) : TS := fun D σ H => ∃ x, σ[i]? = some (some x) ∧ te σ H fun y H1 => ti x y H1 fun z H2 => D.nx (σ.set i (some z)) H2
/-- o[i] op= e -/
def tAugS (to ti te : TE) (tget : V → V → Hp → VK → Prop) (tip : TIp) (tset : TSet) : TS := fun D σ H => to σ H fun o H1 => ti σ H1 fun i H2 => tget o i H2 fun x H3 => te σ H3 fun y H4 => tip x y H4 fun z H5 => tset o i z H5 fun H6 => D.nx σ H6
/-- o[i], by values -/
def PGet (X : Cx) (t : V → V → Hp → VK → Prop) : Prop :=
  ∀ (pins : List (Addr × Obj)) (s : Shared) (σ : St) (H : Hp) (o i : V) (ov iv : Value) (Q : VK), Inv X pins σ H s → RelV o ov → RelV i iv → t o i H Q →
    wpAny (model X.prog X.w) X.A (getItem ov iv) (EP X pins σ Q) X.xe s
/-- ints -/
def ipI (f : Int → Int → Int) : TIp := fun x y H Q => ∃ i j, x = .int i ∧ y = .int j ∧ Q (.int (f i j)) H
end

/-! ### while -/
section
variable {X : Cx} {pos : Pos}
/-- the invariant W with its measure -/
def tWhile (c : TT) (tb : TS) : TS := fun D σ H => ∃ W : Nat → St → Hp → Prop, (∃ m, W m σ H) ∧ ∀ m σ H, W m σ H →
  c σ H fun b H1 => if b = true then ∃ N : St → Hp → Prop, (∀ σ' H', N σ' H' → ∃ m', m' < m ∧ W m' σ' H') ∧ tb { D with nx := N, ct := N, bk := D.nx } σ H1 else D.nx σ H1
end

/-! ### what a loop or a comprehension walks -/
/-- at turn i: it yields x (the heap may grow), or it stops -/
structure It where
  go : Nat → Hp → Prop
  yld : Nat → Hp → V → Hp → Prop
  stop : Nat → Hp → Prop
/-- the iterator's own objects may turn: they are not the frame's, not pinned, younger than the entry (or a comprehension's own) -/
def FpOk (X : Cx) (pins : List (Addr × Obj)) (H : Hp) (b : Addr) : Prop :=
  H b = none ∧ b ≠ X.env.locals ∧ b ∉ X.fs ∧ (b ∈ X.ex ∨ X.s₀.heap.objs.size ≤ b) ∧ (∀ x c, X.env.cells.lookup x = some c → c ≠ b) ∧ ∀ p ∈ X.pn ++ pins, p.1 ≠ b
theorem Inv.fpOk {X : Cx} {pins : List (Addr × Obj)} {σ : St} {H H' : Hp} {s : Shared} {b : Addr} (I : Inv X pins σ H s) (hb : s.heap.objs.size ≤ b) (hn : H' b = none) : FpOk X pins H' b := by
  refine ⟨hn, Nat.ne_of_gt (Nat.lt_of_lt_of_le I.lt hb), I.nofs hb, .inr (Nat.le_trans I.sz hb), fun x c e z => ?_, fun p hp z => ?_⟩
  · obtain ⟨v, q⟩ := I.cell x c e
    exact absurd (Nat.lt_of_lt_of_le q.lt (by rw [z]; exact hb)) (Nat.lt_irrefl _)
  · exact absurd (Nat.lt_of_lt_of_le (Heap.lt_size (I.pin p hp).1) (by rw [z]; exact hb)) (Nat.lt_irrefl _)
structure Turn (P : Program) (w : World) (K : PySem.W.Frag) (tg : Expr) (J : It) (fp : List Addr) (it : Addr) (tn : Nat → Heap → Prop) : Prop where
  mem : it ∈ fp
  obj : ∀ i h, tn i h → ∀ b ∈ fp, ∃ o, h.get? b = some o ∧ ∀ v, o.data ≠ .cell v
  keep : ∀ i h h', tn i h → (∀ b ∈ fp, ∀ o, h.get? b = some o → h'.get? b = some o) → tn i h'
  item : ∀ (X : Cx), X.prog = P → X.w = w → X.K = K → X.calm = true → ∀ (i : Nat) (pins : List (Addr × Obj)) (s : Shared) (σ : St) (H : Hp) (E : Value → Shared → Prop), Inv X pins σ H s → (∀ b ∈ fp, FpOk X pins H b) → tn i s.heap → J.go i H →
    wpAny (model P w) X.A (pyNext (.ref it)) (fun r s1 => ∃ u, r = some u ∧
      wpAny (model P w) X.A (letOwnedTupleGo tg (.ref it) u) (fun _ s2 => ∃ x H', Inv X pins σ H' s2 ∧ RelV x u ∧ J.yld i H x H' ∧ tn (i + 1) s2.heap ∧ ∀ b ∈ fp, H' b = none) E s1) E s
  done : ∀ (X : Cx), X.prog = P → X.w = w → X.K = K → X.calm = true → ∀ (i : Nat) (pins : List (Addr × Obj)) (s : Shared) (σ : St) (H : Hp) (E : Value → Shared → Prop), Inv X pins σ H s → (∀ b ∈ fp, FpOk X pins H b) → tn i s.heap → J.stop i H →
    wpAny (model P w) X.A (pyNext (.ref it)) (fun r s1 => r = none ∧ Inv X pins σ H s1) E s
  self : ∀ (A : Around) (i : Nat) (s : Shared) (Q : Value → Shared → Prop) (E : Value → Shared → Prop), tn i s.heap → Q (.ref it) s → wpAny (model P w) A (pyIter (.ref it)) Q E s
abbrev TI := St → Hp → (It → Hp → Prop) → Prop
/-- an iterator has come -/
def PIE (X : Cx) (pins : List (Addr × Obj)) (σ : St) (tg : Expr) (R : It → Hp → Prop) (itv : Value) (s2 : Shared) : Prop :=
  ∃ (it : Addr) (fp : List Addr) (tn : Nat → Heap → Prop) (J : It) (H' : Hp), itv = .ref it ∧ Inv X pins σ H' s2 ∧ Turn X.prog X.w X.K tg J fp it tn ∧ tn 0 s2.heap ∧ (∀ b ∈ fp, FpOk X pins H' b) ∧ R J H'
def PI (X : Cx) (tg iter : Expr) (wi : TI) : Prop :=
  ∀ (pins : List (Addr × Obj)) (s : Shared) (σ : St) (H : Hp) (R : It → Hp → Prop), Inv X pins σ H s → wi σ H R →
    wpAny (model X.prog X.w) X.A (eval iter X.env) (fun v s1 => wpAny (model X.prog X.w) X.A (pyIter v) (PIE X pins σ tg R) X.xe s1) X.xe s

/-- the step ahead of the store is nothing for an iterator that keeps no tuple -/
theorem go_of {M : Model} {A : Around} {E : Value → Shared → Prop} {s : Shared} {tg : Expr} {it : Addr} {u : Value} {o : Obj} {n : String} {vs : Array Value} {Q : Unit → Shared → Prop} (ho : s.heap.get? it = some o) (hc : o.cls = .type n) (hd : o.data = .fields vs)
    (hn : ["enumerate", "zip", "dict_itemiterator", "dict_reverseitemiterator", "odict_iterator", "itertools.zip_longest", "itertools.pairwise"].contains n = false) (hQ : Q () s) : wpAny M A (letOwnedTupleGo tg (.ref it) u) Q E s := by
  unfold letOwnedTupleGo
  cases tg <;> first
    | exact wpAny_pure hQ
    | (cases u <;> first
        | exact wpAny_pure hQ
        | (refine wpAny_bind (wpAny_load ho ?_)
           rw [hc, hd]
           show wpAny M A (if (["enumerate", "zip", "dict_itemiterator", "dict_reverseitemiterator", "odict_iterator", "itertools.zip_longest", "itertools.pairwise"].contains n && vs[0]? == some (rawInt _)) = true then _ else _) Q E s
           rw [if_neg (by intro h; rw [hn, Bool.false_and] at h; cases h)]
           exact wpAny_pure hQ))

/-- the list at a, as it stands at each turn (a loop may append to it) -/
def Itl (K : PySem.W.Frag) (a : Addr) : It :=
  ⟨fun i H => ∃ xs x, SqL K H a xs ∧ xs[i]? = some x, fun i H x H' => H' = H ∧ ∀ xs, SqL K H a xs → xs[i]? = some x, fun i H => ∃ xs, SqL K H a xs ∧ xs.length ≤ i⟩
def Itt (K : PySem.W.Frag) (a : Addr) : It :=
  ⟨fun i H => ∃ xs x, SqT K H a xs ∧ xs[i]? = some x, fun i H x H' => H' = H ∧ ∀ xs, SqT K H a xs → xs[i]? = some x, fun i H => ∃ xs, SqT K H a xs ∧ xs.length ≤ i⟩
/-- lo, lo + 1, .. (n of them) -/
def Itr (lo : Int) (n : Nat) : It := ⟨fun i _ => i < n, fun i H x H' => H' = H ∧ x = .int (lo + i), fun i _ => n ≤ i⟩
theorem turn_list {P : Program} {w : World} {K : PySem.W.Frag} {tg : Expr} (a it : Addr) : Turn P w K tg (Itl K a) [it] it (fun i h => h.IsListIter it a i) where
  mem := by simp
  obj := fun i h st b hb => by
    have e : b = it := by simpa using hb
    subst e
    obtain ⟨o, e, c, d⟩ := st
    exact ⟨o, e, fun v z => by rw [d] at z; cases z⟩
  keep := fun i h h' st k => st.at fun o e => k it (by simp) o e
  item := by
    intro X hP hw hK hc i pins s σ H E I hf st hg
    subst hP hw hK
    obtain ⟨xs, x, hq, hx⟩ := hg
    obtain ⟨its, rv, p, hz⟩ := I.list hq
    obtain ⟨u, hu, ru⟩ := rv.get hx
    obtain ⟨f0, f1, f2, f3, f4, f5⟩ := hf it (by simp)
    refine wpAny_pyNext_list_item st p.isList (x := u) (by simpa using hu) fun h' st' sb => ?_
    have I1 : Inv X pins σ H { s with heap := h' } := I.turned (t' := s.toks) (fun b o hb e => (sb.2 b hb).trans e) f0 f1 f3 f4 f5
    obtain ⟨o, e, c, d⟩ := id st'
    exact ⟨u, rfl, go_of (s := { s with heap := h' }) e c d (by decide) ⟨x, H, I1, ru, ⟨rfl, fun ys hy => by rw [I.list_inj hy hq]; exact hx⟩, st', fun b hb => (hf b hb).1⟩⟩
  done := by
    intro X hP hw hK hc i pins s σ H E I hf st hg
    subst hP hw hK
    obtain ⟨xs, hq, hx⟩ := hg
    obtain ⟨its, rv, p, hz⟩ := I.list hq
    obtain ⟨f0, f1, f2, f3, f4, f5⟩ := hf it (by simp)
    have hl := rv.length
    exact list_endQ (I.qt hc) st p.isList (by simp; omega) fun h' eb => ⟨rfl, I.turned (t' := s.toks) (fun b o hb e => eb b o hb e) f0 f1 f3 f4 f5⟩
  self := fun _ _ _ _ _ st h => wpAny_pyIter_listiter st h
theorem turn_range {P : Program} {w : World} {K : PySem.W.Frag} {tg : Expr} (it : Addr) (lo : Int) (n : Nat) : Turn P w K tg (Itr lo n) [it] it (fun i h => IsRangeIter h it (lo + (i : Nat) * 1) ((n : Int) - (i : Nat)) 1) where
  mem := by simp
  obj := fun i h st b hb => by
    have e : b = it := by simpa using hb
    subst e
    exact ⟨_, st, fun v z => by
      have z' : Data.fields _ = Data.cell v := z
      cases z'⟩
  keep := fun i h h' st k => k it (by simp) _ st
  item := by
    intro X hP hw hK hc i pins s σ H E I hf st hg
    subst hP hw hK
    obtain ⟨f0, f1, f2, f3, f4, f5⟩ := hf it (by simp)
    have hlt : i < n := hg
    refine wpAny_pyNext_range_item st (by omega) fun h' st' sb => ?_
    have e1 : lo + ((i : Nat) : Int) * 1 + 1 = lo + ((i + 1 : Nat) : Int) * 1 := by omega
    have e2 : (n : Int) - ((i : Nat) : Int) - 1 = (n : Int) - ((i + 1 : Nat) : Int) := by omega
    rw [e1, e2] at st'
    have I1 : Inv X pins σ H { s with heap := h', toks := s.toks + 1 } := I.turned (fun b o hb e => (sb.2 b hb).trans e) f0 f1 f3 f4 f5
    refine ⟨_, rfl, go_of (s := { s with heap := h', toks := s.toks + 1 }) (n := "range_iterator") st' rfl rfl (by decide) ⟨.int (lo + i), H, I1, ⟨s.toks, ?_⟩, ⟨rfl, rfl⟩, st', fun b hb => (hf b hb).1⟩⟩
    rw [Int.mul_one]
  done := by
    intro X hP hw hK hc i pins s σ H E I hf st hg
    subst hP hw hK
    obtain ⟨f0, f1, f2, f3, f4, f5⟩ := hf it (by simp)
    exact range_endQ (I.qt hc) st (by have : n ≤ i := hg; omega) fun h' eb => ⟨rfl, I.turned (t' := s.toks) (fun b o hb e => eb b o hb e) f0 f1 f3 f4 f5⟩
  self := fun _ _ _ _ _ st h => wpAny_pyIter_rangeiter st h
end L2

namespace L2
open PySem PySem.Spec PyProof.Rows
section
variable {X : Cx} {tg : Expr}
def iList (K : PySem.W.Frag) (tl : TE) : TI := fun σ H R => tl σ H fun x H1 => ∃ a, x = .ref a ∧ (∃ xs, SqL K H1 a xs) ∧ R (Itl K a) H1
def iTup (K : PySem.W.Frag) (tl : TE) : TI := fun σ H R => tl σ H fun x H1 => ∃ a, x = .ref a ∧ (∃ xs, SqT K H1 a xs) ∧ R (Itt K a) H1
theorem pi_list {l : Expr} {tl : TE} (hl : PE X l tl) : PI X tg l (iList X.K tl) := by
  intro pins s σ H R I h
  refine thn (hl pins s σ H _ I h) fun v s1 ⟨x, H1, I1, r1, q1⟩ => ?_
  obtain ⟨a, e, ⟨xs, hq⟩, q⟩ := q1
  subst e
  cases r1
  obtain ⟨its, rv, p, hz⟩ := I1.list hq
  refine wpAny_pyIter_list p.isList ?_
  refine ⟨s1.heap.objs.size, [s1.heap.objs.size], _, _, H1, rfl, I1.kept (t' := s1.toks) fun b o e => Heap.get?_push_of_some _ e, turn_list a _, ⟨_, Heap.get?_push_size _ rfl, rfl, rfl⟩, fun b hb => ?_, q⟩
  have e : b = s1.heap.objs.size := by simpa using hb
  subst e
  exact I1.fpOk (Nat.le_refl _) (I1.hok.fresh (Nat.le_refl _))
/-- a range object just made, walked -/
theorem range_it {pins : List (Addr × Obj)} {σ : St} {H : Hp} {s : Shared} {R : It → Hp → Prop} {E : Value → Shared → Prop} {lo hi : Int} {t u v : Tok} {tk : Nat} (I : Inv X pins σ H s) (h1 : -(2 ^ 62) ≤ lo) (h2 : lo < 2 ^ 62) (h3 : -(2 ^ 62) ≤ hi) (h4 : hi < 2 ^ 62)
    (q : R (Itr lo (hi - lo).toNat) H) : wpAny (model X.prog X.w) X.A (pyIter (.ref s.heap.objs.size)) (PIE X pins σ tg R) E { s with heap := s.heap.push { cls := .type "range", data := .fields #[.int lo t, .int hi u, .int 1 v] }, toks := tk } := by
  refine wpAny_pyIter_range (IsRange.new ..) (small_one h1 h2 h3 h4) ?_
  have I1 : Inv X pins σ H { s with heap := s.heap.push { cls := .type "range", data := .fields #[.int lo t, .int hi u, .int 1 v] }, toks := tk } := I.kept fun b o e => Heap.get?_push_of_some _ e
  refine ⟨(s.heap.push { cls := .type "range", data := .fields #[.int lo t, .int hi u, .int 1 v] }).objs.size, [(s.heap.push { cls := .type "range", data := .fields #[.int lo t, .int hi u, .int 1 v] }).objs.size], _, _, H, rfl,
    I1.kept (t' := tk) fun b o e => Heap.get?_push_of_some _ e, turn_range _ lo (hi - lo).toNat, ?_, fun b hb => ?_, q⟩
  · have e1 : lo + ((0 : Nat) : Int) * 1 = lo := by simp
    have e2 : (((hi - lo).toNat : Nat) : Int) - ((0 : Nat) : Int) = Builtin.Range.rangeSize lo hi 1 := by rw [rangeSize_one]; split <;> omega
    show IsRangeIter _ _ (lo + ((0 : Nat) : Int) * 1) ((((hi - lo).toNat : Nat) : Int) - ((0 : Nat) : Int)) 1
    rw [e1, e2]
    exact Heap.get?_push_size _ rfl
  · have e : b = (s.heap.push { cls := .type "range", data := .fields #[.int lo t, .int hi u, .int 1 v] }).objs.size := by simpa using hb
    subst e
    exact I1.fpOk (Nat.le_refl _) (I1.hok.fresh (Nat.le_refl _))
def iRng1 (ta : TA) : TI := fun σ H R => ta σ H fun vs H1 => ∃ j : Int, vs = [.int j] ∧ -(2 ^ 62) ≤ j ∧ j < 2 ^ 62 ∧ R (Itr 0 j.toNat) H1
def iRng2 (ta : TA) : TI := fun σ H R => ta σ H fun vs H1 => ∃ i j : Int, vs = [.int i, .int j] ∧ (-(2 ^ 62) ≤ i ∧ i < 2 ^ 62 ∧ -(2 ^ 62) ≤ j ∧ j < 2 ^ 62) ∧ R (Itr i (j - i).toNat) H1
theorem pi_range1 {a : Expr} {ta : TA} {p pos : Pos} (hg : Gl X "range") (hm : X.mg "range" = none) (ha : PA X [a] ta) (hs : starEach [a] X.env = [(false, eval a X.env)] := by rfl) : PI X tg (.Call (.Name "range" p) [a] [] pos) (iRng1 ta) := by
  intro pins s σ H R I h
  refine Call_ (ld_blt I hg hm boot_range (PyProof.Rows.callWith_type1 (thn (ha pos pins s σ H _ I h) fun us s1 ⟨vs, H1, I1, r1, q1⟩ => ?_) hs rfl))
  obtain ⟨j, e, q1, q2, q⟩ := q1
  subst e
  cases r1 with
  | cons r rr =>
    cases rr
    obtain ⟨t, rfl⟩ := r
    exact call_range_1 (range_it I1 (by omega) (by omega) q1 q2 (by simpa using q))
/-! ### for -/
/-- W: the invariant by the turn and a measure; N: what the body is to reach -/
def tFor (wi : TI) (g : TG) (tb : TS) : TS := fun D σ H => wi σ H fun J H1 => ∃ W : Nat → Nat → St → Hp → Prop, (∃ m, W 0 m σ H1) ∧ ∀ i m σ H, W i m σ H →
  (J.stop i H ∧ D.nx σ H) ∨ (J.go i H ∧ ∃ N : St → Hp → Prop, (∀ σ' H', N σ' H' → ∃ m', m' < m ∧ W (i + 1) m' σ' H') ∧ ∀ x H', J.yld i H x H' → g x σ H' fun σ2 H2 => tb { D with nx := N, ct := N, bk := D.nx } σ2 H2)
/-- the records at fp as they stand -/
def pinsAt (fp : List Addr) (h : Heap) : List (Addr × Obj) := fp.filterMap fun b => (h.get? b).map fun o => (b, o)
theorem mem_pinsAt {fp : List Addr} {h : Heap} {b : Addr} {o : Obj} (hb : b ∈ fp) (e : h.get? b = some o) : (b, o) ∈ pinsAt fp h := List.mem_filterMap.mpr ⟨b, hb, by rw [e]; rfl⟩
theorem of_pinsAt {fp : List Addr} {h : Heap} {p : Addr × Obj} (hp : p ∈ pinsAt fp h) : p.1 ∈ fp ∧ h.get? p.1 = some p.2 := by
  obtain ⟨b, hb, e⟩ := List.mem_filterMap.mp hp
  cases q : h.get? b with
  | none => rw [q] at e; cases e
  | some o =>
    rw [q] at e
    have e' : (b, o) = p := Option.some.inj e
    subst e'
    exact ⟨hb, q⟩
theorem Inv.pinned {pins : List (Addr × Obj)} {σ : St} {H : Hp} {s : Shared} {fp : List Addr} (I : Inv X pins σ H s) (hf : ∀ b ∈ fp, FpOk X pins H b) (ho : ∀ b ∈ fp, ∃ o, s.heap.get? b = some o ∧ ∀ v, o.data ≠ .cell v) : Inv X (pins ++ pinsAt fp s.heap) σ H s :=
  I.pins_of fun p hp => (List.mem_append.mp hp).elim (fun z => I.pin p (List.mem_append_right _ z)) fun z => by
    obtain ⟨hb, e⟩ := of_pinsAt z
    obtain ⟨f0, f1, f2, _⟩ := hf p.1 hb
    obtain ⟨o, e', d⟩ := ho p.1 hb
    rw [e] at e'; cases e'
    exact ⟨e, f0, f1, f2, d⟩
theorem Inv.unpinned {pins pl : List (Addr × Obj)} {σ : St} {H : Hp} {s : Shared} (I : Inv X (pins ++ pl) σ H s) : Inv X pins σ H s := I.pins_of fun p hp => I.pin p (List.mem_append_right _ (List.mem_append_left _ hp))
theorem ps_for {iter : Expr} {body : List Stmt} {wi : TI} {g : TG} {tb : TS} {pos : Pos} (hp : PassesOwn (model X.prog X.w) X.A X.env X.xe) (hc : X.calm = true) (hi : PI X tg iter wi) (hg : PG X tg g) (hb : PSs X body tb)
    (hs : ∀ x, foldedSetIterable iter X.env x = pure x := by intro _; rfl) : PS X (.For tg iter body [] pos) (tFor wi g tb) := by
  intro pins s σ H D I h
  refine wpAny_For (thn (hi pins s σ H _ I h) fun v s1 h1 => thn h1 fun itv s2 h2 => ?_) hs
  obtain ⟨it, fp, tn, J, H2, e, I2, T, st2, f2, W, ⟨m0, w0⟩, turn⟩ := h2
  subst e
  -- what stays true of the iterator's objects through the loop
  have stat : ∀ {H' : Hp}, (∀ b ∈ fp, H' b = none) → ∀ b ∈ fp, FpOk X pins H' b := fun hn b hb => ⟨hn b hb, (f2 b hb).2⟩
  refine codeAny_forLoop_any (fun n s' => ∃ i σ' H', Inv X pins σ' H' s' ∧ tn i s'.heap ∧ (∀ b ∈ fp, H' b = none) ∧ W i n σ' H') ?_ m0 ⟨0, σ, H2, I2, st2, fun b hb => (f2 b hb).1, w0⟩
  rintro n s3 ⟨i, σ3, H3, I3, st3, fr3, w3⟩
  rcases turn i n σ3 H3 w3 with ⟨stop, qn⟩ | ⟨go, N, hN, step⟩
  · refine wpAny_passesOwn hp (thn (T.done X rfl rfl rfl hc i pins s3 σ3 H3 X.xe I3 (stat fr3) st3 stop) fun r s4 ⟨hr, I4⟩ => ?_)
    subst hr
    exact wpAny_execs_nil ⟨σ3, H3, I4, qn⟩
  · refine wpAny_passesOwn hp (thn (T.item X rfl rfl rfl hc i pins s3 σ3 H3 X.xe I3 (stat fr3) st3 go) fun r s4 ⟨u, hr, h4⟩ => ?_)
    subst hr
    refine wpAny_passesOwn hp (thn h4 fun _ s5 ⟨x, H5, I5, r5, y5, st5, fr5⟩ => ?_)
    have I5' := I5.pinned (stat fr5) (T.obj _ _ st5)
    refine wpAny_passesOwn hp (thn (hg _ s5 σ3 H5 x u _ I5' r5 (step x H5 y5)) fun _ s6 ⟨σ6, H6, I6, q6⟩ => ?_)
    refine wpAny_passesOwn hp (thn (hb _ s6 σ6 H6 _ I6 q6) fun f s7 q7 => ?_)
    have again : ∀ {σ7 : St} {H7 : Hp}, Inv X (pins ++ pinsAt fp s5.heap) σ7 H7 s7 → N σ7 H7 → ∃ m, m < n ∧ ∃ i σ' H', Inv X pins σ' H' s7 ∧ tn i s7.heap ∧ (∀ b ∈ fp, H' b = none) ∧ W i m σ' H' := fun {σ7 H7} I7 n7 => by
      obtain ⟨m', hm, w7⟩ := hN σ7 H7 n7
      refine ⟨m', hm, i + 1, σ7, H7, I7.unpinned, T.keep _ _ _ st5 fun b hb o e => (I7.pin (b, o) (List.mem_append_right _ (List.mem_append_right _ (mem_pinsAt hb e)))).1, fun b hb => ?_, w7⟩
      obtain ⟨o, e, d⟩ := T.obj _ _ st5 b hb
      exact (I7.pin (b, o) (List.mem_append_right _ (List.mem_append_right _ (mem_pinsAt hb e)))).2.1
    cases f with
    | next => obtain ⟨σ7, H7, I7, n7⟩ := q7; exact again I7 n7
    | cont => obtain ⟨σ7, H7, I7, n7⟩ := q7; exact again I7 n7
    | brk => obtain ⟨σ7, H7, I7, q7⟩ := q7; exact ⟨σ7, H7, I7.unpinned, q7⟩
    | ret v => obtain ⟨x7, σ7, H7, I7, r7, q7⟩ := q7; exact ⟨x7, σ7, H7, I7.unpinned, r7, q7⟩
end

/-! ### the forms one uses -/
/-- over a list that the body leaves as it is -/
theorem for_list {K : PySem.W.Frag} {a : Addr} {xs : List V} {g : TG} {tb : TS} {D : Ends} {σ : St} {H : Hp} (Pv : Nat → St → Hp → Prop) (h0 : Pv 0 σ H) (hl : ∀ i σ H, i ≤ xs.length → Pv i σ H → SqL K H a xs)
    (hs : ∀ i x σ H, xs[i]? = some x → Pv i σ H → g x σ H fun σ2 H2 => tb { D with nx := Pv (i + 1), ct := Pv (i + 1), bk := D.nx } σ2 H2) (hd : ∀ σ H, Pv xs.length σ H → D.nx σ H) :
    ∃ W : Nat → Nat → St → Hp → Prop, (∃ m, W 0 m σ H) ∧ ∀ i m σ H, W i m σ H →
      ((Itl K a).stop i H ∧ D.nx σ H) ∨ ((Itl K a).go i H ∧ ∃ N : St → Hp → Prop, (∀ σ' H', N σ' H' → ∃ m', m' < m ∧ W (i + 1) m' σ' H') ∧ ∀ x H', (Itl K a).yld i H x H' → g x σ H' fun σ2 H2 => tb { D with nx := N, ct := N, bk := D.nx } σ2 H2) := by
  refine ⟨fun i m σ H => m = xs.length - i ∧ i ≤ xs.length ∧ Pv i σ H, ⟨xs.length, by simp, Nat.zero_le _, h0⟩, ?_⟩
  rintro i m σ H ⟨rfl, hi, p⟩
  have q := hl i σ H hi p
  by_cases hlt : i < xs.length
  · refine .inr ⟨⟨xs, xs[i], q, by simp [hlt]⟩, Pv (i + 1), fun σ' H' p' => ⟨xs.length - (i + 1), by omega, rfl, hlt, p'⟩, fun x H' y => ?_⟩
    obtain ⟨e, y⟩ := y
    subst e
    exact hs i x σ _ (y xs q) p
  · have e : i = xs.length := by omega
    subst e
    exact .inl ⟨⟨xs, q, Nat.le_refl _⟩, hd σ H p⟩
theorem for_range {lo : Int} {n : Nat} {g : TG} {tb : TS} {D : Ends} {σ : St} {H : Hp} (Pv : Nat → St → Hp → Prop) (h0 : Pv 0 σ H)
    (hs : ∀ i σ H, i < n → Pv i σ H → g (.int (lo + i)) σ H fun σ2 H2 => tb { D with nx := Pv (i + 1), ct := Pv (i + 1), bk := D.nx } σ2 H2) (hd : ∀ σ H, Pv n σ H → D.nx σ H) :
    ∃ W : Nat → Nat → St → Hp → Prop, (∃ m, W 0 m σ H) ∧ ∀ i m σ H, W i m σ H →
      ((Itr lo n).stop i H ∧ D.nx σ H) ∨ ((Itr lo n).go i H ∧ ∃ N : St → Hp → Prop, (∀ σ' H', N σ' H' → ∃ m', m' < m ∧ W (i + 1) m' σ' H') ∧ ∀ x H', (Itr lo n).yld i H x H' → g x σ H' fun σ2 H2 => tb { D with nx := N, ct := N, bk := D.nx } σ2 H2) := by
  refine ⟨fun i m σ H => m = n - i ∧ i ≤ n ∧ Pv i σ H, ⟨n, by simp, Nat.zero_le _, h0⟩, ?_⟩
  rintro i m σ H ⟨rfl, hi, p⟩
  by_cases hlt : i < n
  · refine .inr ⟨hlt, Pv (i + 1), fun σ' H' p' => ⟨n - (i + 1), by omega, rfl, hlt, p'⟩, fun x H' y => ?_⟩
    obtain ⟨e, y⟩ := y
    subst e y
    exact hs i σ _ hlt p
  · have e : i = n := by omega
    subst e
    exact .inl ⟨Nat.le_refl _, hd σ H p⟩
end L2

namespace L2
open PySem PySem.Spec PyProof.Rows

abbrev R2 := V → V → Hp → VK → Prop
/-- a two-place operation on values: f is binaryOp op, inplaceOp op or compareOp op -/
def OpR (X : Cx) (f : Value → Value → Sem Value) (r : R2) : Prop :=
  ∀ (pins : List (Addr × Obj)) (s : Shared) (σ : St) (H : Hp) (x y : V) (v u : Value) (Q : VK), Inv X pins σ H s → RelV x v → RelV y u → r x y H Q →
    wpAny (model X.prog X.w) X.A (f v u) (EP X pins σ Q) X.xe s
/-- a one-place operation -/
def UnR (X : Cx) (f : Value → Sem Value) (r : V → Hp → VK → Prop) : Prop :=
  ∀ (pins : List (Addr × Obj)) (s : Shared) (σ : St) (H : Hp) (x : V) (v : Value) (Q : VK), Inv X pins σ H s → RelV x v → r x H Q →
    wpAny (model X.prog X.w) X.A (f v) (EP X pins σ Q) X.xe s
/-- a call of a value that is known (a builtin, a type) with values -/
def CallR (X : Cx) (f : Value) (r : List V → Hp → VK → Prop) : Prop :=
  ∀ (pins : List (Addr × Obj)) (s : Shared) (σ : St) (H : Hp) (xs : List V) (us : List Value) (Q : VK), Inv X pins σ H s → Vals xs us → r xs H Q →
    wpAny (model X.prog X.w) X.A (call f us) (EP X pins σ Q) X.xe s
/-- a value's truth -/
def TruR (X : Cx) (r : V → Hp → (Bool → Hp → Prop) → Prop) : Prop :=
  ∀ (pins : List (Addr × Obj)) (s : Shared) (σ : St) (H : Hp) (x : V) (v : Value) (Q : Bool → Hp → Prop), Inv X pins σ H s → RelV x v → r x H Q →
    wpAny (model X.prog X.w) X.A (truthy v) (TP X pins σ Q) X.xe s

def tOp (r : R2) (ta tb : TE) : TE := fun σ H Q => ta σ H fun x H1 => tb σ H1 fun y H2 => r x y H2 Q
def tUn (r : V → Hp → VK → Prop) (ta : TE) : TE := fun σ H Q => ta σ H fun x H1 => r x H1 Q
/-- ints in, under C, and a value out -/
def rI (C : Int → Int → Prop) (g : Int → Int → V) : R2 := fun x y H Q => ∃ i j, x = .int i ∧ y = .int j ∧ C i j ∧ Q (g i j) H
def rI0 (g : Int → Int → V) : R2 := fun x y H Q => ∃ i j, x = .int i ∧ y = .int j ∧ Q (g i j) H
def rU (g : Int → V) : V → Hp → VK → Prop := fun x H Q => ∃ i, x = .int i ∧ Q (g i) H

section
variable {X : Cx} {a b c : Expr} {ta tb tc : TE} {pos : Pos}

theorem binT (ha : PE X a ta) (hb : PE X b tb) {pins : List (Addr × Obj)} {s : Shared} {σ : St} {H : Hp} {R : V → V → Hp → Prop} (I : Inv X pins σ H s)
    (h : ta σ H fun x H1 => tb σ H1 fun y H2 => R x y H2) {Q : Value → Shared → Prop} {f : Value → Value → Sem Value}
    (hf : ∀ v u s2 x y H2, Inv X pins σ H2 s2 → RelV x v → RelV y u → R x y H2 → wpAny (model X.prog X.w) X.A (f v u) Q X.xe s2) :
    wpAny (model X.prog X.w) X.A (eval a X.env) (fun v s₁ => wpAny (model X.prog X.w) X.A (eval b X.env) (fun u s₂ => wpAny (model X.prog X.w) X.A (f v u) Q X.xe s₂) X.xe s₁) X.xe s := by
  refine thn (ha pins s σ H _ I h) fun v s1 ⟨x, H1, I1, r1, q1⟩ => ?_
  refine thn (hb pins s1 σ H1 _ I1 q1) fun u s2 ⟨y, H2, I2, r2, q2⟩ => ?_
  exact hf v u s2 x y H2 I2 r1 r2 q2

theorem pe_op {op : Operator} {r : R2} (ho : OpR X (binaryOp op) r) (ha : PE X a ta) (hb : PE X b tb) : PE X (.BinOp a op b pos) (tOp r ta tb) := by
  intro pins s σ H Q I h
  exact wpAny_BinOp (binT ha hb I h fun v u s2 x y H2 I2 rx ry q => ho pins s2 σ H2 x y v u Q I2 rx ry q)
theorem pe_un {op : UnaryOp} {r : V → Hp → VK → Prop} (ho : UnR X (unaryOp op) r) (ha : PE X a ta) : PE X (.UnaryOp op a pos) (tUn r ta) := by
  intro pins s σ H Q I h
  exact UnaryOp_ (thn (ha pins s σ H _ I h) fun v s1 ⟨x, H1, I1, r1, q1⟩ => ho pins s1 σ H1 x v Q I1 r1 q1)
/-! ### ints -/
theorem opI {f : Value → Value → Sem Value} {C : Int → Int → Prop} {g : Int → Int → Int}
    (rule : ∀ (i j : Int) (t u : Tok) (s : Shared) (Q : Value → Shared → Prop) (E : Value → Shared → Prop), C i j → Q (.int (g i j) s.toks) { s with toks := s.toks + 1 } → wpAny (model X.prog X.w) X.A (f (.int i t) (.int j u)) Q E s) :
    OpR X f (rI C fun i j => .int (g i j)) := by
  intro pins s σ H x y v u Q I rx ry h
  obtain ⟨i, j, rfl, rfl, hc, q⟩ := h
  obtain ⟨t, rfl⟩ := rx
  obtain ⟨t', rfl⟩ := ry
  exact rule i j t t' s _ _ hc ⟨.int (g i j), H, I.tok _, ⟨_, rfl⟩, q⟩
theorem opI0 {f : Value → Value → Sem Value} {g : Int → Int → Int}
    (rule : ∀ (i j : Int) (t u : Tok) (s : Shared) (Q : Value → Shared → Prop) (E : Value → Shared → Prop), Q (.int (g i j) s.toks) { s with toks := s.toks + 1 } → wpAny (model X.prog X.w) X.A (f (.int i t) (.int j u)) Q E s) :
    OpR X f (rI0 fun i j => .int (g i j)) := by
  intro pins s σ H x y v u Q I rx ry h
  obtain ⟨i, j, rfl, rfl, q⟩ := h
  obtain ⟨t, rfl⟩ := rx
  obtain ⟨t', rfl⟩ := ry
  exact rule i j t t' s _ _ ⟨.int (g i j), H, I.tok _, ⟨_, rfl⟩, q⟩
theorem opB0 {f : Value → Value → Sem Value} {g : Int → Int → Bool}
    (rule : ∀ (i j : Int) (t u : Tok) (s : Shared) (Q : Value → Shared → Prop) (E : Value → Shared → Prop), Q (.bool (g i j)) s → wpAny (model X.prog X.w) X.A (f (.int i t) (.int j u)) Q E s) :
    OpR X f (rI0 fun i j => .bl (g i j)) := by
  intro pins s σ H x y v u Q I rx ry h
  obtain ⟨i, j, rfl, rfl, q⟩ := h
  obtain ⟨t, rfl⟩ := rx
  obtain ⟨t', rfl⟩ := ry
  exact rule i j t t' s _ _ ⟨.bl (g i j), H, I, rfl, q⟩

def CDiv (i j : Int) : Prop := 0 < j ∧ j < 1073741824
def CDivN (i j : Int) : Prop := j ≠ 0 ∧ j.natAbs < 1073741824
def CPow (i j : Int) : Prop := 0 ≤ j ∧ j ≤ 1000000 ∧ i.natAbs < 2 ^ 64
def CMul (i j : Int) : Prop := (-(2 ^ 64) < i ∧ i < 2 ^ 64) ∨ (-(2 ^ 64) < j ∧ j < 2 ^ 64)
theorem op_add : OpR X (binaryOp .Add) (rI0 fun i j => .int (i + j)) := opI0 fun _ _ _ _ _ _ _ q => add_int q
theorem op_sub : OpR X (binaryOp .Sub) (rI0 fun i j => .int (i - j)) := opI0 fun _ _ _ _ _ _ _ q => sub_int q
/-- // by a positive divisor -/
theorem op_fdiv : OpR X (binaryOp .FloorDiv) (rI CDiv fun i j => .int (i / j)) := opI fun i j _ _ _ _ _ hc q => by
  have h1 : (0 : Int) < j := hc.1
  have h2 : j < 1073741824 := hc.2
  exact floordiv_int (by omega) (by rw [Int.fdiv_eq_ediv_of_nonneg i (by omega)]; exact q) (.inl (PyProof.noPylong_small (by omega)))
/-- % by a positive divisor of any size -/
theorem op_mod : OpR X (binaryOp .Mod) (rI (fun _ j => 0 < j) fun i j => .int (i % j)) := opI fun i j _ _ _ _ _ hc q => by
  have h1 : (0 : Int) < j := hc
  exact mod_int' (by omega) (by rw [Int.fmod_eq_emod_of_nonneg i (by omega)]; exact q)
theorem op_pow : OpR X (binaryOp .Pow) (rI CPow fun i j => .int (i ^ j.toNat)) := opI fun _ _ _ _ _ _ _ hc q => pow_int_small hc.1 hc.2.1 hc.2.2 q
theorem unI {f : Value → Sem Value} {g : Int → Int}
    (rule : ∀ (i : Int) (t : Tok) (s : Shared) (Q : Value → Shared → Prop) (E : Value → Shared → Prop), Q (.int (g i) s.toks) { s with toks := s.toks + 1 } → wpAny (model X.prog X.w) X.A (f (.int i t)) Q E s) :
    UnR X f (rU fun i => .int (g i)) := by
  intro pins s σ H x v Q I rx h
  obtain ⟨i, rfl, q⟩ := h
  obtain ⟨t, rfl⟩ := rx
  exact rule i t s _ _ ⟨.int (g i), H, I.tok _, ⟨_, rfl⟩, q⟩
theorem un_neg : UnR X (unaryOp .USub) (rU fun i => .int (-i)) := unI fun _ _ _ _ _ q => neg_int q
/-! ### bools among ints: n += (a < b) -/
end

/-! ### comparisons -/
/-- the scalars that == tells apart as data does -/
def scal : V → V → Bool
  | .non, .non => true | .non, .int _ => true | .int _, .non => true | .non, .bl _ => true | .bl _, .non => true | .non, .str _ => true | .str _, .non => true
  | .int _, .int _ => true | .bl _, .bl _ => true | .str _, .str _ => true | .byt _, .byt _ => true
  | .int _, .str _ => true | .str _, .int _ => true | .bl _, .str _ => true | .str _, .bl _ => true
  | _, _ => false
def rEq : R2 := fun x y H Q => scal x y = true ∧ Q (.bl (decide (x = y))) H
def rNe : R2 := fun x y H Q => scal x y = true ∧ Q (.bl (!decide (x = y))) H

theorem dec_int {i j : Int} : decide (V.int i = V.int j) = (i == j) := by
  rw [Bool.eq_iff_iff]
  simp
theorem dec_bl {i j : Bool} : decide (V.bl i = V.bl j) = (i == j) := by
  rw [Bool.eq_iff_iff]
  simp
theorem dec_str {i j : Str} : decide (V.str i = V.str j) = (i == j) := by
  rw [Bool.eq_iff_iff]
  simp
theorem dec_byt {i j : Array UInt8} : decide (V.byt i = V.byt j) = (i.toList == j.toList) := by
  rw [Bool.eq_iff_iff]
  cases i
  cases j
  simp

section
variable {X : Cx} {a b c : Expr} {ta tb tc : TE} {pos : Pos}
theorem fin_bl {pins : List (Addr × Obj)} {σ : St} {H : Hp} {s : Shared} {Q : VK} {k k' : Bool} (I : Inv X pins σ H s) (q : Q (.bl k) H) (e : k = k') : EP X pins σ Q (.bool k') s := by
  subst e
  exact ⟨.bl k, H, I, rfl, q⟩
theorem op_eq : OpR X (compareOp .Eq) rEq := by
  intro pins s σ H x y v u Q I rx ry h
  obtain ⟨hs, q⟩ := h
  cases x with
  | non =>
    cases rx
    cases y with
    | non => cases ry; exact PySem.EqNone.eq_none_none (fin_bl I q (by simp))
    | bl j => cases ry; exact PySem.EqNone.eq_none_bool (fin_bl I q (by simp))
    | int j => obtain ⟨t', rfl⟩ := ry; exact PySem.EqNone.eq_none_int (fin_bl I q (by simp))
    | str j => obtain ⟨t', rfl⟩ := ry; exact PySem.EqNone.eq_none_str (fin_bl I q (by simp))
    | _ => exact absurd (show false = true from hs) Bool.false_ne_true
  | bl i =>
    cases rx
    cases y with
    | non => cases ry; exact PySem.EqNone.eq_bool_none (fin_bl I q (by simp))
    | bl j => cases ry; exact eq_bool (fin_bl I q dec_bl)
    | str j => obtain ⟨t', rfl⟩ := ry; exact PySem.EqMixed.eq_bool_str (fin_bl I q (by simp))
    | _ => exact absurd (show false = true from hs) Bool.false_ne_true
  | int i =>
    obtain ⟨t, rfl⟩ := rx
    cases y with
    | non => cases ry; exact PySem.EqNone.eq_int_none (fin_bl I q (by simp))
    | int j => obtain ⟨t', rfl⟩ := ry; exact eq_int (fin_bl I q dec_int)
    | str j => obtain ⟨t', rfl⟩ := ry; exact PySem.EqMixed.eq_int_str (fin_bl I q (by simp))
    | _ => exact absurd (show false = true from hs) Bool.false_ne_true
  | str i =>
    obtain ⟨t, rfl⟩ := rx
    cases y with
    | non => cases ry; exact PySem.EqNone.eq_str_none (fin_bl I q (by simp))
    | bl j => cases ry; exact PySem.EqMixed.eq_str_bool (fin_bl I q (by simp))
    | int j => obtain ⟨t', rfl⟩ := ry; exact PySem.EqMixed.eq_str_int (fin_bl I q (by simp))
    | str j => obtain ⟨t', rfl⟩ := ry; exact eq_str (fin_bl I q dec_str)
    | _ => exact absurd (show false = true from hs) Bool.false_ne_true
  | byt i =>
    obtain ⟨t, rfl⟩ := rx
    cases y with
    | byt j => obtain ⟨t', rfl⟩ := ry; exact PySem.W.eq_bytes (fin_bl I q dec_byt)
    | _ => exact absurd (show false = true from hs) Bool.false_ne_true
  | _ => cases y <;> exact absurd (show false = true from hs) Bool.false_ne_true
theorem op_lt : OpR X (compareOp .Lt) (rI0 fun i j => .bl (decide (i < j))) := opB0 fun _ _ _ _ _ _ _ q => lt_int q
theorem op_le : OpR X (compareOp .LtE) (rI0 fun i j => .bl (decide (i ≤ j))) := opB0 fun _ _ _ _ _ _ _ q => le_int q
theorem op_ge : OpR X (compareOp .GtE) (rI0 fun i j => .bl (decide (j ≤ i))) := opB0 fun _ _ _ _ _ _ _ q => ge_int q
/-- is None, is not None: the right side a value none -/
theorem op_isN : OpR X (compareOp .Is) (fun x y H Q => y = .non ∧ Q (.bl (decide (x = .non))) H) := by
  intro pins s σ H x y v u Q I rx ry h
  obtain ⟨rfl, q⟩ := h
  cases ry
  refine is_none_gen (fin_bl I q ?_)
  cases x <;> first
    | (cases rx; rfl)
    | (obtain ⟨t, rfl⟩ := rx; rfl)
theorem op_notN : OpR X (compareOp .IsNot) (fun x y H Q => y = .non ∧ Q (.bl (!decide (x = .non))) H) := by
  intro pins s σ H x y v u Q I rx ry h
  obtain ⟨rfl, q⟩ := h
  cases ry
  refine isnot_none_gen (fin_bl I q ?_)
  cases x <;> first
    | (cases rx; rfl)
    | (obtain ⟨t, rfl⟩ := rx; rfl)

/-- is, is not of two objects that are tracked lists or instances -/
def isObj : HO → Bool
  | .lst _ => true
  | .ins _ _ _ => true
  | _ => false
theorem nomark (b : Expr) {op : CmpOp} (h : op ≠ .In := by decide) (h2 : op ≠ .NotIn := by decide) : behindInMarks op b = false := by
  have e1 : (op == CmpOp.In) = false := by cases op <;> first | rfl | exact absurd rfl h
  have e2 : (op == CmpOp.NotIn) = false := by cases op <;> first | rfl | exact absurd rfl h2
  cases b <;> simp [behindInMarks, e1, e2]
/-- a comparison as a value; hm: nomark b, or (for in, not in) by with_unfolding_all rfl -/
theorem pe_cmpR {op : CmpOp} {r : R2} (ho : OpR X (compareOp op) r) (ha : PE X a ta) (hb : PE X b tb) (hm : behindInMarks op b = false) : PE X (.Compare a [op] [b] pos) (tOp r ta tb) := by
  intro pins s σ H Q I h
  exact wpAny_Compare1 (binT ha hb I h fun v u s2 x y H2 I2 rx ry q => ho pins s2 σ H2 x y v u Q I2 rx ry q) hm
/-- a reading of a value as a test -/
def tTest (t : TE) : TT := fun σ H Q => t σ H fun x H' => ∃ k, x = .bl k ∧ Q k H'
theorem pt_cmpR {op : CmpOp} {r : R2} (ho : OpR X (compareOp op) r) (ha : PE X a ta) (hb : PE X b tb) (hm : behindInMarks op b = false) : PT X (.Compare a [op] [b] pos) (tTest (tOp r ta tb)) := by
  intro pins s σ H Q I h
  refine wpAny_isTrue_Compare1 (thn (ha pins s σ H _ I h) fun v s1 ⟨x, H1, I1, r1, q1⟩ => thn (hb pins s1 σ H1 _ I1 q1) fun u s2 ⟨y, H2, I2, r2, q2⟩ =>
    thn (ho pins s2 σ H2 x y v u _ I2 r1 r2 q2) fun c s3 ⟨z, H3, I3, r3, k, e, q3⟩ => ?_) hm
  subst e
  cases r3
  exact wpAny_truthy_bool ⟨H3, I3, q3⟩
/-- a op1 b op2 c -/
def tChain (r r' : R2) (ta tb tc : TE) : TE := fun σ H Q => ta σ H fun x H1 => tb σ H1 fun y H2 => r x y H2 fun z H3 => ∃ k, z = .bl k ∧
  (if k = true then tc σ H3 fun w' H4 => r' y w' H4 Q else Q (.bl false) H3)
/-! ### truth -/
/-- a value's truth by the abstract heap -/
def TruV (K : PySem.W.Frag) (x : V) (H : Hp) (k : Bool) : Prop :=
  match x with
  | .non => k = false
  | .bl b => k = b
  | .int i => k = (i != 0)
  | .str y => y.length ≤ sizeLine ∧ k = ((y.length : Int) != 0)
  | .byt y => y.size ≤ sizeLine ∧ k = ((y.size : Int) != 0)
  | .ref p => (∃ xs, SqL K H p xs ∧ k = !xs.isEmpty) ∨ (∃ xs, SqT K H p xs ∧ k = !xs.isEmpty) ∨ ∃ kvs, H p = some (.dK kvs) ∧ k = !kvs.isEmpty
  | _ => False
theorem line63 : (sizeLine : Nat) < 2 ^ 63 := by rw [sizeLine_eq]; decide
/-! ### strs and bytes -/
def PlainIxT (b : Expr) : Prop := ∀ o i, subscripted b false o i = operate [o, i] (getItem o i)
/-! ### scalar builtins, by CallR -/
theorem vals1 {x : V} {us : List Value} (r : Vals [x] us) : ∃ u, us = [u] ∧ RelV x u := by
  cases r with
  | cons r1 r2 => cases r2; exact ⟨_, rfl, r1⟩
theorem vals2 {x y : V} {us : List Value} (r : Vals [x, y] us) : ∃ u w', us = [u, w'] ∧ RelV x u ∧ RelV y w' := by
  cases r with
  | cons r1 r2 =>
    cases r2 with
    | cons r3 r4 => cases r4; exact ⟨_, _, rfl, r1, r3⟩
/-- len of a str, a bytes, a list, a tuple -/
def LenV (K : PySem.W.Frag) (x : V) (H : Hp) (n : Nat) : Prop :=
  match x with
  | .str y => y.length ≤ sizeLine ∧ n = y.length
  | .byt y => y.size ≤ sizeLine ∧ n = y.size
  | .ref p => (∃ xs, SqL K H p xs ∧ n = xs.length) ∨ ∃ xs, SqT K H p xs ∧ n = xs.length
  | _ => False
end
end L2

namespace L2
open PySem PySem.Spec PyProof.Rows

/-! ### an instance, its attributes a map -/
structure ObjM (h : Heap) (x dx C : Addr) (mA : Str → Option Value) : Prop where
  obj : h.get? x = some (PySem.W.instObj C dx)
  ns : h.Ns1 dx mA
  ne : dx ≠ x

theorem lookIn_ns {h : Heap} {dx : Addr} {mA : Str → Option Value} (n : h.Ns1 dx mA) : ∃ od, h.get? dx = some od ∧ ∀ name, PySem.W.lookIn name od = some (mA name) := by
  obtain ⟨o, es, ep, ho, hd, hk, _, hm⟩ := n
  refine ⟨o, ho, fun name => ?_⟩
  have e := hm name
  unfold nsFind findBy at e
  rw [← Array.find?_toList] at e
  unfold PySem.W.lookIn
  rw [hd]
  dsimp only
  split
  · rename_i y q
    rw [q] at e
    exact congrArg some e
  · rename_i q
    rw [q] at e
    have a : es.toList.any (·.refKey) = false := by
      rw [List.any_eq_false]
      intro y hy
      obtain ⟨z, t, hkey⟩ := hk y (Array.mem_toList_iff.mp hy)
      simp [DictEntry.refKey, hkey]
    have a' : ¬ es.toList.any (·.refKey) = true := by rw [a]; exact Bool.false_ne_true
    rw [if_neg a']
    exact congrArg some e

theorem ObjM.look {h : Heap} {x dx C : Addr} {mA : Str → Option Value} (I : ObjM h x dx C mA) : ∃ od, PySem.W.InstAt h x (PySem.W.instObj C dx) C (some od) ∧ ∀ name, PySem.W.lookIn name od = some (mA name) :=
  let ⟨od, ho, hl⟩ := lookIn_ns I.ns
  ⟨od, ⟨I.obj, rfl, rfl, ho⟩, hl⟩

section
variable {prog : Program} {w : World} {A : Around} {E : Value → Shared → Prop} {s : Shared} {K : PySem.W.Frag} {x dx C f : Addr} {mA : Str → Option Value} {name : Str} {v : Value}

theorem get_map {expr : Bool} {Q : Value → Shared → Prop} (X : K.In s.heap) (I : ObjM s.heap x dx C mA) (hg : PySem.W.plainGet K C name = true) (hh : PySem.W.hasDictIn K C = true)
    (ha : PySem.W.findIn K (.ref C) name = some none) (hv : mA name = some v) (hv' : PySem.W.handedIn v = true) (h : Q v { s with toks := s.toks + 1 }) :
    wpAny (model prog w) A (getAttr (.ref x) name expr) Q E s := by
  obtain ⟨od, J, hl⟩ := I.look
  exact PySem.W.get_value X J (PySem.W.plainGet_of hg).1 (PySem.W.findObj_own hh ha rfl (by rw [hl, hv])) hv' h

theorem get_meth {pl : Sem Bool} {Q : Value × List Value → Shared → Prop} (X : K.In s.heap) (I : ObjM s.heap x dx C mA) (hg : PySem.W.plainGet K C name = true)
    (hf : PySem.W.findIn K (.ref C) name = some (some (.ref f))) (ht : PySem.W.isFn K (.ref f) = true) (hv : mA name = none) (h : Q (.ref f, [.ref x]) s) :
    wpAny (model prog w) A (getMethod (.ref x) name pl) Q E s := by
  obtain ⟨od, J, hl⟩ := I.look
  exact PySem.W.method_fn X J (PySem.W.plainGet_of hg).1 (PySem.W.plainGet_of hg).2 hf (beq_iff_eq.mp ht) (by show (PySem.W.lookIn name od).map (·.isSome) = some false; rw [hl, hv]; rfl) h

theorem set_map {ns : List Str} {Q : Unit → Shared → Prop} (X : K.In s.heap) (I : ObjM s.heap x dx C mA)
    (hs : PySem.W.findIn K (.ref C) "__setattr__" = some (some (.builtin "object.__setattr__"))) (hp : PySem.W.plainOver K C = true) (ht : PySem.W.takerIn K C name = some none) (hh : PySem.W.hasDictIn K C = true)
    (hw : PySem.Within mA ns) (hsz : ns.length ≤ sizeLine)
    (h : ∀ h', ObjM h' x dx C (fun y => if y = name then some v else mA y) → Heap.SameBut dx s.heap h' → Q () { s with heap := h', toks := s.toks + 2 }) :
    wpAny (model prog w) A (setAttr (.ref x) name v) Q E s := by
  obtain ⟨od, J, hl⟩ := I.look
  refine PySem.W.set_plain X J hs (PySem.W.osa_open (s := { s with toks := s.toks + 1 }) (r := none) X J hp ht fun b => ?_)
  obtain ⟨cd, hc, hd'⟩ := PySem.W.any_some hh
  have hx : s.heap.get? x = some ⟨.ref C, some dx, .plain, #[]⟩ := I.obj
  refine wpAny_bind (wpAny_pure (wpAny_bind (wpAny_bind (wpAny_loadPart hx (wpAny_bind (PySem.W.Looks.here (s := { s with toks := s.toks + 1 }) (PySem.W.looks_clsIn X hc) ?_))))))
  rw [hd']
  refine wpAny_pure (a := some dx) (wpAny_bind (wpAny_pure (wpAny_bind ?_)))
  refine wpAny_nsSet1 (s := { s with toks := s.toks + 1 }) I.ns fun h' hn2 hs2 => ?_
  obtain ⟨oD, esD, epD, hoD, hdD, hcD⟩ := hn2.count (PySem.Within.cons name v hw)
  refine wpAny_bind (wpAny_lookBehind hoD (by rw [hdD]; exact pastItsLine_dict (Nat.le_trans hcD (by rw [List.length_cons]; omega))) ?_)
  exact wpAny_pure (h _ ⟨(hs2.2 _ (Ne.symm I.ne)).trans I.obj, hn2, I.ne⟩ hs2)

/-- C(..): the dict at the heap's end, the instance behind it; then its __init__ -/
theorem make_map {R : Result → Shared → Prop} {vs : List Value} {kw : List (Str × Value)} (X : K.In s.heap) (hm : PySem.W.makesIn K C = true)
    (hi : PySem.W.findIn K (.ref C) "__init__" = some (some (.ref f))) (hf : PySem.W.typeIn K (.ref f) = some (.type "function"))
    (h : codeAny (model prog w) (A.under (.builtin "type.__call__" ⟨.ref C :: vs, kw⟩)) (.call (.ref f) ⟨.ref (s.heap.objs.size + 1) :: vs, kw⟩) (PySem.W.InitBack (s.heap.objs.size + 1) R)
      { s with heap := (s.heap.push PySem.W.emptyDict).push (PySem.W.instObj C s.heap.objs.size) }) :
    codeAny (model prog w) A (.call (.ref C) ⟨vs, kw⟩) R s := by
  obtain ⟨hh, g, d, t, os⟩ := s
  exact PySem.W.make_core (PySem.W.makes_of X hm) (PySem.W.looks_findIn X hi) (fun self => PySem.W.bind_fn X self hf) (.inl rfl) h
end

/-! ### the attributes as a list of pairs -/
def putF (f : Str) (v : V) : List (Str × V) → List (Str × V)
  | [] => [(f, v)]
  | (g, x) :: r => if g = f then (g, v) :: r else (g, x) :: putF f v r
theorem lookup_putF (f g : Str) (v : V) : ∀ fs : List (Str × V), (putF f v fs).lookup g = if g = f then some v else fs.lookup g
  | [] => by
    show List.lookup g [(f, v)] = _
    by_cases h : g = f
    · have hb : (g == f) = true := beq_iff_eq.mpr h
      simp only [List.lookup, hb, if_pos h]
    · have hb : (g == f) = false := beq_eq_false_iff_ne.mpr h
      simp only [List.lookup, hb, if_neg h]
  | (k, x) :: r => by
    have ih := lookup_putF f g v r
    rw [show putF f v ((k, x) :: r) = (if k = f then (k, v) :: r else (k, x) :: putF f v r) from rfl]
    by_cases hk : k = f
    · rw [if_pos hk]
      by_cases h : g = k
      · have hb : (g == k) = true := beq_iff_eq.mpr h
        simp only [List.lookup, hb, if_pos (h.trans hk)]
      · have hb : (g == k) = false := beq_eq_false_iff_ne.mpr h
        simp only [List.lookup, hb, if_neg (fun e : g = f => h (e.trans hk.symm))]
    · rw [if_neg hk]
      by_cases h : g = k
      · have hb : (g == k) = true := beq_iff_eq.mpr h
        simp only [List.lookup, hb, if_neg (fun e : g = f => hk (h.symm.trans e))]
      · have hb : (g == k) = false := beq_eq_false_iff_ne.mpr h
        simp only [List.lookup, hb]
        exact ih
theorem keys_putF (f : Str) (v : V) : ∀ fs : List (Str × V), f ∈ (putF f v fs).map (·.1) ∧ ∀ g, g ∈ fs.map (·.1) → g ∈ (putF f v fs).map (·.1)
  | [] => ⟨by simp [putF], fun g h => by simp at h⟩
  | (k, x) :: r => by
    obtain ⟨i1, i2⟩ := keys_putF f v r
    rw [show putF f v ((k, x) :: r) = (if k = f then (k, v) :: r else (k, x) :: putF f v r) from rfl]
    by_cases hk : k = f
    · rw [if_pos hk]
      subst hk
      exact ⟨by simp, fun g h => by simpa using h⟩
    · rw [if_neg hk]
      refine ⟨?_, fun g h => ?_⟩
      · rw [List.map_cons]
        exact List.mem_cons_of_mem _ i1
      · rw [List.map_cons] at h ⊢
        rcases List.mem_cons.mp h with e | e
        · exact List.mem_cons.mpr (.inl e)
        · exact List.mem_cons_of_mem _ (i2 g e)
theorem length_putF (f : Str) (v : V) : ∀ fs : List (Str × V), (putF f v fs).length ≤ fs.length + 1
  | [] => by simp [putF]
  | (k, x) :: r => by
    have ih := length_putF f v r
    rw [show putF f v ((k, x) :: r) = (if k = f then (k, v) :: r else (k, x) :: putF f v r) from rfl]
    by_cases hk : k = f
    · rw [if_pos hk, List.length_cons, List.length_cons]; omega
    · rw [if_neg hk, List.length_cons, List.length_cons]; omega

theorem RelO.some_of {v : V} {o : Option Value} (r : RelO (some v) o) : ∃ u, o = some u ∧ RelV v u := by
  cases o with
  | none => exact (show False from r).elim
  | some u => exact ⟨u, rfl, r⟩
theorem RelO.none_of {o : Option Value} (r : RelO none o) : o = none := by
  cases o with
  | none => rfl
  | some u => exact (show False from r).elim
theorem handed_of {v : V} {u : Value} (r : RelV v u) : PySem.W.handedIn u = true := by
  cases v with
  | non => cases (show u = Value.none from r); rfl
  | bl b => cases (show u = Value.bool b from r); rfl
  | int i => obtain ⟨t, e⟩ := (show ∃ t, u = Value.int i t from r); cases e; rfl
  | str x => obtain ⟨t, e⟩ := (show ∃ t, u = Value.str x t from r); cases e; rfl
  | byt b => obtain ⟨t, e⟩ := (show ∃ t, u = Value.bytes b t from r); cases e; rfl
  | flt b => obtain ⟨t, e⟩ := (show ∃ t, u = Value.float b t from r); cases e; rfl
  | ref a => cases (show u = Value.ref a from r); rfl
  | ty n => cases (show u = Value.type n from r); rfl

section
variable {P : Program} {w : World} {H H' : Hp} {h h' : Heap} {a C dx : Addr} {fs fs' : List (Str × V)}
theorem ins_get (hok : HOk P w H h) (e : H a = some (.ins C dx fs)) : ∃ mA, ObjM h a dx C mA ∧ (∀ f, RelO (fs.lookup f) (mA f)) ∧ PySem.Within mA (fs.map (·.1)) ∧ fs.length ≤ 1000 ∧ H dx = some (.own a) := by
  obtain ⟨d, z, ne, ob, mA, n, r, q⟩ := (show ObjOk P w H h a (.ins C dx fs) from hok a _ e)
  exact ⟨mA, ⟨ob, n, ne⟩, r, q, z, d⟩
end

/-! ### what of the text a class must have -/
structure Cls (K : PySem.W.Frag) (C : Addr) : Prop where
  pg : PySem.W.plainGet K C Str.empty = true
  hd : PySem.W.hasDictIn K C = true
  po : PySem.W.plainOver K C = true
  sa : PySem.W.findIn K (.ref C) "__setattr__" = some (some (.builtin "object.__setattr__"))
theorem Cls.get {K : PySem.W.Frag} {C : Addr} (c : Cls K C) (f : Str) : PySem.W.plainGet K C f = true := c.pg
/-- no class of it has the name -/
def NoAttr (K : PySem.W.Frag) (C : Addr) (f : Str) : Prop := PySem.W.findIn K (.ref C) f = some none
theorem NoAttr.taker {K : PySem.W.Frag} {C : Addr} {f : Str} (n : NoAttr K C f) : PySem.W.takerIn K C f = some none := by
  unfold PySem.W.takerIn
  rw [show PySem.W.findIn K (.ref C) f = some none from n]
  rfl
/-- a constant of the class -/
structure Con (K : PySem.W.Frag) (C : Addr) (f : Str) (v : V) (u : Value) : Prop where
  at_ : PySem.W.findIn K (.ref C) f = some (some u)
  rel : RelV v u
  get : PySem.W.specialIn K u "__get__" = some none
  cp : PySem.W.copiedNames.contains f = false
/-- a method: a plain def of the class or of one above it -/
structure Meth (K : PySem.W.Frag) (C : Addr) (m : Str) (f : Addr) : Prop where
  at_ : PySem.W.findIn K (.ref C) m = some (some (.ref f))
  fn : PySem.W.isFn K (.ref f) = true
  kp : PySem.W.keepIn K (.ref f) = true

section
variable {X : Cx} {pins : List (Addr × Obj)} {σ : St} {H : Hp} {s : Shared} {a C dx : Addr} {fs : List (Str × V)} {f : Str} {v : V} {A : Around} {E : Value → Shared → Prop}

theorem getattr_ok {b : Bool} {Q : Value → Shared → Prop} (I : Inv X pins σ H s) (e : H a = some (.ins C dx fs)) (c : Cls X.K C) (n : NoAttr X.K C f) (l : fs.lookup f = some v)
    (h : ∀ u s', Inv X pins σ H s' → RelV v u → Q u s') : wpAny (model X.prog X.w) A (getAttr (.ref a) f b) Q E s := by
  obtain ⟨mA, O, r, _, _, _⟩ := ins_get I.hok e
  obtain ⟨u, hu, ru⟩ := RelO.some_of (v := v) (o := mA f) (by rw [← l]; exact r f)
  exact get_map I.kIn O (c.get f) c.hd n hu (handed_of ru) (h u _ (I.tok _) ru)

theorem getmeth_ok {m : Str} {g : Addr} {pl : Sem Bool} {Q : Value × List Value → Shared → Prop} (I : Inv X pins σ H s) (e : H a = some (.ins C dx fs)) (c : Cls X.K C) (k : Meth X.K C m g) (l : fs.lookup m = none)
    (h : Q (.ref g, [.ref a]) s) : wpAny (model X.prog X.w) A (getMethod (.ref a) m pl) Q E s := by
  obtain ⟨mA, O, r, _, _, _⟩ := ins_get I.hok e
  have hn : mA m = none := RelO.none_of (by rw [← l]; exact r m)
  exact get_meth I.kIn O (c.get m) k.at_ k.fn hn h

theorem setattr_ok {y : V} {u : Value} {Q : Unit → Shared → Prop} (I : Inv X pins σ H s) (e : H a = some (.ins C dx fs)) (c : Cls X.K C) (n : NoAttr X.K C f) (hl : fs.length < 1000) (ry : RelV y u)
    (h : ∀ s', Inv X pins σ (upd H a (.ins C dx (putF f y fs))) s' → Q () s') : wpAny (model X.prog X.w) A (setAttr (.ref a) f u) Q E s := by
  obtain ⟨mA, O, r, wi, _, ho⟩ := ins_get I.hok e
  have hz : (fs.map (·.1)).length ≤ sizeLine := by rw [List.length_map, sizeLine_eq]; omega
  refine set_map I.kIn O c.sa c.po n.taker c.hd wi hz fun h' O' sb => h _ ?_
  have hd : ∃ o, h'.get? dx = some o := let ⟨o, _, _, e', _⟩ := O'.ns; ⟨o, e'⟩
  refine I.write (x := a) (e := dx) (by rw [e]; exact True.intro) (.inr ho) (fun b q hb z => (sb.2 b hb).trans z) hd ?_
  refine ⟨by rw [upd_ne O.ne]; exact ho, ?_, O.ne, O'.obj, _, O'.ns, fun g => ?_, fun g hg => ?_⟩
  · have := length_putF f y fs; omega
  · show RelO ((putF f y fs).lookup g) (if g = f then some u else mA g)
    rw [lookup_putF]
    by_cases q : g = f
    · rw [if_pos q, if_pos q]; exact ry
    · rw [if_neg q, if_neg q]; exact r g
  · by_cases q : g = f
    · rw [q]; exact (keys_putF f y fs).1
    · refine (keys_putF f y fs).2 g (wi g fun z => hg ?_)
      show (if g = f then some u else mA g) = none
      rw [if_neg q]; exact z

/-- a new instance, tracked, without attributes -/
theorem Inv.made (I : Inv X pins σ H s) : Inv X pins σ (upd (upd H s.heap.objs.size (.own (s.heap.objs.size + 1))) (s.heap.objs.size + 1) (.ins C s.heap.objs.size []))
    { s with heap := (s.heap.push PySem.W.emptyDict).push (PySem.W.instObj C s.heap.objs.size) } := by
  have e1 : (s.heap.push PySem.W.emptyDict).get? s.heap.objs.size = some PySem.W.emptyDict := Heap.get?_push_size s.heap rfl
  have e2 : ((s.heap.push PySem.W.emptyDict).push (PySem.W.instObj C s.heap.objs.size)).get? (s.heap.objs.size + 1) = some (PySem.W.instObj C s.heap.objs.size) := by
    have := Heap.get?_push_size (s.heap.push PySem.W.emptyDict) (o := PySem.W.instObj C s.heap.objs.size) rfl
    rwa [Heap.size_push] at this
  have e3 : (s.heap.push PySem.W.emptyDict).Ns s.heap.objs.size (fun _ => none) := ⟨PySem.W.emptyDict, #[], _, e1, rfl, (fun e he => absurd he (by simp)), fun _ => rfl⟩
  have I1 := I.laid (a := s.heap.objs.size) (o := .own (s.heap.objs.size + 1)) (h' := s.heap.push PySem.W.emptyDict) (t' := s.toks) (fun b u q => Heap.get?_push_of_some _ q) (Nat.le_refl _) ⟨_, e1⟩
  refine I1.laid (a := s.heap.objs.size + 1) (o := .ins C s.heap.objs.size []) (t' := s.toks) (fun b u q => Heap.get?_push_of_some _ q) (Nat.le_of_eq (Heap.size_push _ _)) ?_
  have ne : s.heap.objs.size ≠ s.heap.objs.size + 1 := Nat.ne_of_lt (Nat.lt_succ_self _)
  refine ⟨by rw [upd_ne ne, upd_same], Nat.zero_le _, ne, e2, fun _ => none, (Heap.Ns1.of_empty e3).at fun o q => Heap.get?_push_of_some _ q, fun _ => True.intro, fun y hy => absurd rfl hy⟩

/-- e.f where nothing but the object is asked: through attributeBase (super) and the last hold -/
theorem attr_of {prog : Program} {w : World} {env : Env} {e : Expr} {f : Str} {pos : Pos} {s : Shared} {Q : Value → Shared → Prop} (hb : attributeBase e f env (eval e env) = eval e env)
    (h : wpAny (model prog w) A (eval e env) (fun o s₁ => wpAny (model prog w) A (getAttr o f true) Q E s₁) E s) : wpAny (model prog w) A (eval (.Attribute e f pos) env) Q E s :=
  Attribute_any_ h (by rw [arm_eval_Attribute, hb])
end

/-! ### readings and rules -/
/-- e.f, an attribute of the instance -/
def tFld (K : PySem.W.Frag) (ta : TE) (f : Str) : TE := fun σ H Q => ta σ H fun x H1 => ∃ a C dx fs v, x = .ref a ∧ H1 a = some (.ins C dx fs) ∧ Cls K C ∧ NoAttr K C f ∧ fs.lookup f = some v ∧ Q v H1
/-- e.f, a constant of the class -/
def tCon (K : PySem.W.Frag) (ta : TE) (f : Str) : TE := fun σ H Q => ta σ H fun x H1 => ∃ a C dx fs v u, x = .ref a ∧ H1 a = some (.ins C dx fs) ∧ Cls K C ∧ Con K C f v u ∧ fs.lookup f = none ∧ Q v H1
/-- e.f = value -/
def sFld (K : PySem.W.Frag) (ta tv : TE) (f : Str) : TS := fun D σ H => tv σ H fun y H1 => ta σ H1 fun x H2 => ∃ a C dx fs, x = .ref a ∧ H2 a = some (.ins C dx fs) ∧ Cls K C ∧ NoAttr K C f ∧ fs.length < 1000 ∧
  D.nx σ (upd H2 a (.ins C dx (putF f y fs)))
/-- an augmented operator on two values -/
def InOp (X : Cx) (op : Operator) (rd : V → V → Hp → VK → Prop) : Prop :=
  ∀ (pins : List (Addr × Obj)) (s : Shared) (σ : St) (H : Hp) (x y : V) (u v : Value) (Q : VK), Inv X pins σ H s → RelV x u → RelV y v → rd x y H Q → wpAny (model X.prog X.w) X.A (inplaceOp op u v) (EP X pins σ Q) X.xe s
/-- e.f op= value -/
def sFldAug (K : PySem.W.Frag) (ta tv : TE) (rd : V → V → Hp → VK → Prop) (f : Str) : TS := fun D σ H => ta σ H fun x H1 => ∃ a C dx fs v, x = .ref a ∧ H1 a = some (.ins C dx fs) ∧ Cls K C ∧ NoAttr K C f ∧ fs.lookup f = some v ∧
  tv σ H1 fun y H2 => rd v y H2 fun z H3 => ∃ dx' fs', H3 a = some (.ins C dx' fs') ∧ fs'.length < 1000 ∧ D.nx σ (upd H3 a (.ins C dx' (putF f z fs')))

section
variable {X : Cx} {o e value : Expr} {f : Str} {pos pos' tpos : Pos} {ta tv : TE}
theorem pe_fld (he : PE X e ta) (hb : attributeBase e f X.env (eval e X.env) = eval e X.env) : PE X (.Attribute e f pos) (tFld X.K ta f) := by
  intro pins s σ H Q I h
  refine attr_of hb (thn (he pins s σ H _ I h) fun u s1 ⟨x, H1, I1, rx, a, C, dx, fs, v, ex, ea, c, n, l, q⟩ => ?_)
  subst ex
  obtain rfl : u = Value.ref a := rx
  exact getattr_ok I1 ea c n l fun u' s2 I2 ru => ⟨v, H1, I2, ru, q⟩
theorem ps_fld (ha : PE X o ta) (hv : PE X value tv) (hs : swapsWith value (some (.Attribute o f pos')) pos.line X.env = pure false) : PS X (.Assign [.Attribute o f pos'] value pos) (sFld X.K ta tv f) := by
  intro pins s σ H D I h
  refine plainObj_wpAny_Assign_Attribute (thn (hv pins s σ H _ I h) fun u s1 ⟨y, H1, I1, ry, q⟩ => thn (ha pins s1 σ H1 _ I1 q) fun ov s2 ⟨x, H2, I2, rx, a, C, dx, fs, ex, ea, c, n, l, q2⟩ => ?_) hs
  subst ex
  obtain rfl : ov = Value.ref a := rx
  exact setattr_ok I2 ea c n l ry fun s3 I3 => ⟨σ, _, I3, q2⟩
def rAdd : V → V → Hp → VK → Prop := fun x y H Q => ∃ i j, x = .int i ∧ y = .int j ∧ Q (.int (i + j)) H
def rSub : V → V → Hp → VK → Prop := fun x y H Q => ∃ i j, x = .int i ∧ y = .int j ∧ Q (.int (i - j)) H
end

/-! ### isinstance -/
section
variable {X : Cx} {pins : List (Addr × Obj)} {σ : St} {H : Hp} {s : Shared} {A : Around} {E : Value → Shared → Prop} {Q : Value → Shared → Prop} {c : Value} {b : Bool}
/-- the type of a value, as the fragment's deciders take it; for an instance its class -/
inductive TyOf (K : PySem.W.Frag) (H : Hp) : V → Value → Prop where
  | non : TyOf K H .non (.type "NoneType")
  | bl (x : Bool) : TyOf K H (.bl x) (.type "bool")
  | int (i : Int) : TyOf K H (.int i) (.type "int")
  | str (x : Str) : TyOf K H (.str x) (.type "str")
  | flt (x : UInt64) : TyOf K H (.flt x) (.type "float")
  | lst {a : Addr} {xs : List V} (e : H a = some (.lst xs)) : TyOf K H (.ref a) (.type "list")
  | frz {a : Addr} {o : Obj} {xs : List V} (e : H a = some (.frz o (.lst xs))) : TyOf K H (.ref a) (.type "list")
  | tup {a : Addr} {xs : List V} (e : H a = some (.tup xs)) : TyOf K H (.ref a) (.type "tuple")
  | dK {a : Addr} {kvs : List (Key × V)} (e : H a = some (.dK kvs)) : TyOf K H (.ref a) (.type "dict")
  | dT {a : Addr} {kvs : List (List Key × V)} (e : H a = some (.dT kvs)) : TyOf K H (.ref a) (.type "dict")
  | ins {a C dx : Addr} {fs : List (Str × V)} (e : H a = some (.ins C dx fs)) (cl : Cls K C) (ha : PySem.W.findIn K (.ref C) "__class__" = some (some (.builtin "object.__class__")))
      (hn : PySem.W.specialIn K (.builtin "object.__class__") "__get__" = some (some (.builtin "getset_descriptor.__get__"))) (htk : PySem.W.takesIn K (.builtin "object.__class__") = some true)
      (hm : PySem.W.mroIn K C (.type "object") = some true) : TyOf K H (.ref a) (.ref C)
end
end L2

namespace L2
open PySem PySem.Spec PyProof.Rows

/-! ### room -/
structure Room (k : Nat) (A : Around) : Prop where
  hd : 20 ≤ k → A.handled = none
  dp : A.depth + 3 * k + 5 < recursionLimit
  un : A.units + 16 * k + 200 < cLine
theorem Room.mono {j k : Nat} {A : Around} (r : Room k A) (h : j ≤ k) : Room j A := ⟨fun z => r.hd (Nat.le_trans z h), by have := r.dp; omega, by have := r.un; omega⟩
theorem Room.deeper {k : Nat} {A : Around} (r : Room (k + 1) A) (env : Env) : Room k (A.deeper env) :=
  ⟨fun z => r.hd (Nat.le_succ_of_le z), by have := r.dp; show A.depth + 1 + 3 * k + 5 < _; omega, by have := r.un; show A.units + 3 + 16 * k + 200 < _; omega⟩
theorem make_depth {A : Around} {C : Addr} {us : List Value} {kw : List (Str × Value)} : (A.under (.builtin "type.__call__" ⟨.ref C :: us, kw⟩)).depth = A.depth + 1 := by
  first | rfl | simp [Around.under, Code.weight, Code.isCreation, Code.isGuard, Code.isCaller, Code.frames, Code.isFrame, guardIds]
theorem make_units {A : Around} {C : Addr} {us : List Value} {kw : List (Str × Value)} : (A.under (.builtin "type.__call__" ⟨.ref C :: us, kw⟩)).units = A.units + 1 := by
  first | rfl | simp [Around.under, Code.cUnits, Code.frames, Code.isFrame]
theorem Room.make {k : Nat} {A : Around} (r : Room (k + 1) A) (C : Addr) (us : List Value) (kw : List (Str × Value)) : Room k (A.under (.builtin "type.__call__" ⟨.ref C :: us, kw⟩)) :=
  ⟨fun z => r.hd (Nat.le_succ_of_le z), by have := r.dp; rw [make_depth]; omega, by have := r.un; rw [make_units]; omega⟩
theorem Room.depth {k : Nat} {A : Around} (r : Room k A) : A.depth < recursionLimit := by have := r.dp; omega
theorem Room.units {k : Nat} {A : Around} (r : Room k A) : A.units + 64 < cLine := by have := r.un; omega
/-! ### argument lists and displays -/
def tNil : TA := fun _ H Q => Q [] H
def tCons (ta : TE) (tr : TA) : TA := fun σ H Q => ta σ H fun x H1 => tr σ H1 fun xs H2 => Q (x :: xs) H2
section
variable {X : Cx} {e : Expr} {es : List Expr} {te : TE} {t : TA} {pos : Pos}
theorem pa_nil : PA X [] tNil := fun _ _ _ _ H Q I h => Calls.spliced_nil ⟨[], H, I, .nil, h⟩
theorem pa_cons (ha : PE X e te) (hr : PA X es t) (hs : starEach (e :: es) X.env = (false, eval e X.env) :: starEach es X.env := by rfl) : PA X (e :: es) (tCons te t) := by
  intro pos pins s σ H Q I h
  rw [hs]
  show wpAny _ _ (spliced ((false, eval e X.env) :: backTo pos (starEach es X.env))) _ _ s
  refine Calls.spliced_cons (thn (ha pins s σ H _ I h) fun u s1 ⟨x, H1, I1, r1, q1⟩ => ?_)
  exact thn (hr pos pins s1 σ H1 _ I1 q1) fun us s2 ⟨xs, H2, I2, r2, q2⟩ => ⟨x :: xs, H2, I2, .cons r1 r2, q2⟩

/-- a tuple, a list of written items -/
def tTup (t : TA) : TE := fun σ H Q => t σ H fun xs H1 => xs.length ≤ sizeLine ∧ ∀ p, H1 p = none → Q (.ref p) (upd H1 p (.tup xs))
def tLst (t : TA) : TE := fun σ H Q => t σ H fun xs H1 => xs.length ≤ sizeLine ∧ ∀ p, H1 p = none → Q (.ref p) (upd H1 p (.lst xs))
theorem pe_tup {x1} (h : PA X es t) : PE X (.Tuple es x1 pos) (tTup t) := by
  intro pins s σ H Q I hq
  refine wpAny_Tuple_spliced (thn (h pos pins s σ H _ I hq) fun us s1 ⟨xs, H1, I1, r, z, q⟩ => ⟨by rw [← r.length]; exact z, ?_⟩)
  have hf : H1 s1.heap.objs.size = none := I1.hok.fresh (Nat.le_refl _)
  refine ⟨.ref s1.heap.objs.size, upd H1 s1.heap.objs.size (.tup xs), I1.laid (t' := s1.toks) (fun b u e => Heap.get?_push_of_some _ e) (Nat.le_refl _) ?_, rfl, q _ hf⟩
  exact ⟨z, us, r, ⟨_, Heap.get?_push_size _ rfl, rfl, _, rfl⟩⟩
theorem pe_lst (h : PA X es t) : PE X (.List es pos) (tLst t) := by
  intro pins s σ H Q I hq
  refine wpAny_List_spliced (thn (h pos pins s σ H _ I hq) fun us s1 ⟨xs, H1, I1, r, z, q⟩ => ⟨by rw [← r.length]; exact z, ?_⟩)
  have hf : H1 s1.heap.objs.size = none := I1.hok.fresh (Nat.le_refl _)
  refine ⟨.ref s1.heap.objs.size, upd H1 s1.heap.objs.size (.lst xs), I1.laid (t' := s1.toks) (fun b u e => Heap.get?_push_of_some _ e) (Nat.le_refl _) ?_, rfl, q _ hf⟩
  exact ⟨z, us, 0, r, Heap.get?_push_size _ rfl⟩
end

/-! ### what a def promises -/
/-- a def's promise: the bound arguments in the parameters' order, the heap, the wanted end, the wanted exception -/
abbrev Sp := List V → Hp → VK → XK → Prop
/-- how an exception lies behind a call (file 08 gives it): the callers' frames, abstract heap and state ahead of the call, the wish, the exception, the state -/
abbrev CXT := List Env → Hp → Shared → XK → Value → Shared → Prop

/-- the state at a call -/
structure Env0 (P : Program) (w : World) (K : PySem.W.Frag) (mg : Str → Option Value) (base : Heap) (A : Around) (outer : List Env) (s : Shared) (H : Hp) : Prop where
  frames : A.frames = some outer
  mod : Mod K mg base
  bs : ∀ b o, base.get? b = some o → s.heap.get? b = some o ∧ H b = none
  bsz : base.objs.size ≤ s.heap.objs.size
  funs : s.heap.FunFrames base outer
  frf : ∀ b ∈ frs outer, H b = none
  hok : HOk P w H s.heap
  bare : AllBare s.gens
  qt : QtH A base
/-- a call's end -/
def CE (outer : List Env) (P : Program) (w : World) (H : Hp) (s : Shared) (Q : VK) (u : Value) (s' : Shared) : Prop :=
  ∃ v H', s'.os = s.os ∧ AllBare s'.gens ∧ Un (frs outer) [] H H' s.heap s'.heap ∧ HOk P w H' s'.heap ∧ RelV v u ∧ Q v H'
def CR (CX : CXT) (outer : List Env) (P : Program) (w : World) (H : Hp) (s : Shared) (Q : VK) (E : XK) (r : Result) (s' : Shared) : Prop :=
  match r with
  | .ok (.ret u) => CE outer P w H s Q u s'
  | .ok _ => False
  | .error e => CX outer H s E e s'
structure FnOk (P : Program) (w : World) (K : PySem.W.Frag) (mg : Str → Option Value) (base : Heap) (CX : CXT) (k : Nat) (f : Addr) (fd : FuncData) (ps : List Str) (sp : Sp) : Prop where
  len : ∀ vs H Q E, sp vs H Q E → vs.length = ps.length
  run : ∀ (A : Around) (outer : List Env) (s : Shared) (H : Hp) (args : Args) (us : List Value) (vs : List V) (Q : VK) (E : XK), Room k A → Env0 P w K mg base A outer s H → BindsTo s fd args (ps.zip us) → Vals vs us → sp vs H Q E →
    codeAny (model P w) A (.call (.ref f) args) (CR CX outer P w H s Q E) s
/-- a weaker promise -/
theorem FnOk.imp {P : Program} {w : World} {K : PySem.W.Frag} {mg : Str → Option Value} {base : Heap} {CX : CXT} {k : Nat} {f : Addr} {fd : FuncData} {ps : List Str} {sp sp' : Sp} (F : FnOk P w K mg base CX k f fd ps sp)
    (h : ∀ vs H Q E, sp' vs H Q E → sp vs H Q E) : FnOk P w K mg base CX k f fd ps sp' :=
  ⟨fun vs H Q E q => F.len vs H Q E (h _ _ _ _ q), fun A outer s H args us vs Q E hr he hb hv hs => F.run A outer s H args us vs Q E hr he hb hv (h _ _ _ _ hs)⟩

theorem Env0.make {P : Program} {w : World} {K : PySem.W.Frag} {mg : Str → Option Value} {base : Heap} {A : Around} {outer : List Env} {s : Shared} {H : Hp} (e : Env0 P w K mg base A outer s H) (C : Addr) (us : List Value) (kw : List (Str × Value)) :
    Env0 P w K mg base (A.under (.builtin "type.__call__" ⟨.ref C :: us, kw⟩)) outer s H := ⟨by first | exact e.frames | (simpa [Around.under, Code.envs, Code.isFrame, pushEnvs] using e.frames), e.mod, e.bs, e.bsz, e.funs, e.frf, e.hok, e.bare, e.qt⟩
section
variable {X : Cx} {pins : List (Addr × Obj)} {σ : St} {H : Hp} {s s' : Shared}
/-- from a body: what a callee wants -/
theorem Inv.env0 (hq : QtH X.A X.base) (I : Inv X pins σ H s) : Env0 X.prog X.w X.K X.mg X.base X.A X.stack s H :=
  ⟨I.ok.frames, I.ok.mod, I.bs, Nat.le_trans I.ok.bsz I.sz, I.stack, I.stkFree, I.hok, I.bare, hq⟩
/-- behind a call -/
theorem Inv.after {Q : VK} {u : Value} (I : Inv X pins σ H s) (h : CE X.stack X.prog X.w H s Q u s') : EP X pins σ Q u s' := by
  obtain ⟨v, H', os, bare, un, hok, r, q⟩ := h
  obtain ⟨hh, g, d, t, os'⟩ := s'
  obtain rfl : os' = s.os := os
  exact ⟨v, H', I.call (h' := hh) (g' := g) (d' := d) (t' := t) (ch := []) un hok bare (fun b z => absurd z (by simp)), r, q⟩
end

/-! ### calls -/
/-- f(..): the written arguments, then the defaults dvs; E: what is wanted of an exception -/
def tCall (sp : Sp) (dvs : List V) (E : XK) (t : TA) : TE := fun σ H Q => t σ H fun vs H1 => sp (vs ++ dvs) H1 Q E
/-- o.m(..) of an instance of the class at C -/
def tMeth (C : Addr) (m : Str) (sp : Sp) (dvs : List V) (E : XK) (ta : TE) (t : TA) : TE := fun σ H Q => ta σ H fun x H1 => ∃ a dx fs, x = .ref a ∧ H1 a = some (.ins C dx fs) ∧ fs.lookup m = none ∧
  t σ H1 fun vs H2 => sp (x :: (vs ++ dvs)) H2 Q E
/-- C(..): a new instance and its dict, then __init__ -/
def tMake (C : Addr) (sp : Sp) (dvs : List V) (E : XK) (t : TA) : TE := fun σ H Q => t σ H fun vs H1 => ∀ x dx, H1 x = none → H1 dx = none → dx ≠ x →
  sp (.ref x :: (vs ++ dvs)) (upd (upd H1 dx (.own x)) x (.ins C dx [])) (fun v H2 => v = .non ∧ Q (.ref x) H2) E

/-- how the parameters are bound: us the positional arguments, kw the keywords' values by name, ds the defaults that fill up -/
def Binds (K : PySem.W.Frag) (fd : FuncData) (ps : List Str) (ds : List Value) : Prop :=
  ∀ (s : Shared) (us : List Value), K.In s.heap → (us ++ ds).length = ps.length → BindsTo s fd ⟨us, []⟩ (ps.zip (us ++ ds))
/-- every parameter is given -/
theorem Binds.all {K : PySem.W.Frag} {fd : FuncData} {ps : List Str} (h : ∀ us : List Value, us.length = ps.length → bindArgs fd ⟨us, []⟩ = pure (ps.zip us)) : Binds K fd ps [] := fun s us _ hl => by
  rw [List.append_nil] at hl ⊢
  exact .of_eq (h us hl)

/-- an exception of a callee reaches what this body wants of exceptions -/
def Passes (CX : CXT) (X : Cx) (E : XK) : Prop := ∀ (pins : List (Addr × Obj)) (σ : St) (H : Hp) (s : Shared) (e : Value) (s' : Shared), Inv X pins σ H s → CX X.stack H s E e s' → X.xe e s'

section
variable {X : Cx} {CX : CXT} {k : Nat} {f C : Addr} {fd : FuncData} {ps : List Str} {sp : Sp} {dvs : List V} {ds : List Value} {E : XK} {x m : Str} {p pos apos : Pos} {e o : Expr} {es : List Expr} {ta : TE} {t : TA}

/-- the callee runs -/
theorem run_fn {pins : List (Addr × Obj)} {σ : St} {H : Hp} {s : Shared} {Q : VK} {us : List Value} {vs : List V} (hcq : X.calm = true) (F : FnOk X.prog X.w X.K X.mg X.base CX k f fd ps sp) (hr : Room k X.A) (hb : Binds X.K fd ps ds) (hd : Vals dvs ds) (hx : Passes CX X E)
    (I : Inv X pins σ H s) (r : Vals vs us) (h : sp (vs ++ dvs) H Q E) : wpAny (model X.prog X.w) X.A (call (.ref f) us) (EP X pins σ Q) X.xe s := by
  have r2 : Vals (vs ++ dvs) (us ++ ds) := r.append hd
  have hl : (us ++ ds).length = ps.length := by rw [← r2.length]; exact F.len _ _ _ _ h
  refine wpAny_call (codeAny_mono (F.run X.A X.stack s H ⟨us, []⟩ (us ++ ds) (vs ++ dvs) Q E hr (I.env0 (I.ok.hd hcq)) (hb s us I.kIn hl) r2 h) fun r s' hq => ?_)
  cases r with
  | error e => exact hx pins σ H s e s' I hq
  | ok fl =>
    cases fl with
    | ret u => exact I.after hq
    | next => exact False.elim hq
    | brk => exact False.elim hq
    | cont => exact False.elim hq

theorem pe_call (F : FnOk X.prog X.w X.K X.mg X.base CX k f fd ps sp) (hr : Room k X.A) (hg : Gl X x) (hm : X.mg x = some (.ref f)) (hk : PySem.W.keepIn X.K (.ref f) = true) (hb : Binds X.K fd ps ds) (hd : Vals dvs ds) (hx : Passes CX X E)
    (ha : PA X (e :: es) t) (hdb : (x == ("__debug__" : Str)) = false := by decide) (he : starEach (e :: es) X.env = (false, eval e X.env) :: starEach es X.env := by rfl) (hpl : (backTo pos (starEach es X.env)).any (·.1) = false := by rfl) (hcq : X.calm = true := by rfl) :
    PE X (.Call (.Name x p) (e :: es) [] pos) (tCall sp dvs E t) := by
  intro pins s σ H Q I h
  refine wpAny_Call_Name_kw (ld_glob I hg hm ?_ hdb)
  refine PySem.W.callWith_K (h₀ := X.base) I.ok.mod.kin hk (thn (ha pos pins s σ H _ I h) fun us s1 ⟨vs, H1, I1, r, q⟩ => ⟨I1.kIn, ?_⟩) he hpl
  exact run_fn hcq F hr hb hd hx I1 r q
/-- o.m(e, ..) -/
theorem pe_meth {pl : Sem Bool} (he : PE X o ta) (c : Cls X.K C) (hm : Meth X.K C m f) (F : FnOk X.prog X.w X.K X.mg X.base CX k f fd ps sp) (hr : Room k X.A) (hb : Binds X.K fd ps ds) (hd : Vals dvs ds) (hx : Passes CX X E) (ha : PA X (e :: es) t)
    (hst : starEach (e :: es) X.env = (false, eval e X.env) :: starEach es X.env := by rfl) (hpl : (backTo pos (starEach es X.env)).any (·.1) = false := by rfl)
    (ht : eval (.Call (.Attribute o m apos) (e :: es) [] pos) X.env = (do
      let ov ← eval o X.env
      standAt apos.atName
      let (f, first) ← holding [ov] (getMethod ov m pl)
      callWith pos f first (backTo pos (starEach (e :: es) X.env)) (backToKw pos (keywordEach [] X.env))) := by rfl) (hcq : X.calm = true := by rfl) :
    PE X (.Call (.Attribute o m apos) (e :: es) [] pos) (tMeth C m sp dvs E ta t) := by
  intro pins s σ H Q I h
  refine PySem.W.methodCall_KW (pl := pl) (thn (he pins s σ H _ I h) fun u s1 ⟨x, H1, I1, rx, a, dx, fs, ex, ea, l, q⟩ => ?_) ht
  subst ex
  obtain rfl : u = Value.ref a := rx
  refine getmeth_ok I1 ea c hm l ?_
  refine PySem.W.callWith_K (first := [.ref a]) (h₀ := X.base) I.ok.mod.kin hm.kp (thn (ha pos pins s1 σ H1 _ I1 q) fun us s2 ⟨vs, H2, I2, r, q2⟩ => ⟨I2.kIn, ?_⟩) hst hpl
  exact run_fn hcq (us := .ref a :: us) (vs := .ref a :: vs) F hr hb hd hx I2 (.cons rfl r) q2
/-- o.m() -/
theorem pe_meth0 {pl : Sem Bool} (he : PE X o ta) (c : Cls X.K C) (hm : Meth X.K C m f) (F : FnOk X.prog X.w X.K X.mg X.base CX k f fd ps sp) (hr : Room k X.A) (hb : Binds X.K fd ps ds) (hd : Vals dvs ds) (hx : Passes CX X E)
    (ht : eval (.Call (.Attribute o m apos) [] [] pos) X.env = (do
      let ov ← eval o X.env
      standAt apos.atName
      let (f, first) ← holding [ov] (getMethod ov m pl)
      callWith pos f first (backTo pos (starEach [] X.env)) (backToKw pos (keywordEach [] X.env))) := by rfl) (hcq : X.calm = true := by rfl) :
    PE X (.Call (.Attribute o m apos) [] [] pos) (tMeth C m sp dvs E ta tNil) := by
  intro pins s σ H Q I h
  refine PySem.W.methodCall_KW (pl := pl) (thn (he pins s σ H _ I h) fun u s1 ⟨x, H1, I1, rx, a, dx, fs, ex, ea, l, q⟩ => ?_) ht
  subst ex
  obtain rfl : u = Value.ref a := rx
  refine getmeth_ok I1 ea c hm l ?_
  exact PySem.W.callWith_K0 (first := [.ref a]) I1.kIn hm.kp (run_fn hcq (us := [.ref a]) (vs := [.ref a]) F hr hb hd hx I1 (.cons rfl .nil) q)

/-- what a class must have to be made -/
structure Mk (K : PySem.W.Frag) (C f : Addr) : Prop where
  makes : PySem.W.makesIn K C = true
  init : PySem.W.findIn K (.ref C) "__init__" = some (some (.ref f))
  fn : PySem.W.isFn K (.ref f) = true
  kp : PySem.W.keepIn K (.ref C) = true

theorem run_make {pins : List (Addr × Obj)} {σ : St} {H : Hp} {s : Shared} {Q : VK} {us : List Value} {vs : List V} (hcq : X.calm = true) (M : Mk X.K C f) (F : FnOk X.prog X.w X.K X.mg X.base CX k f fd ps sp) (hr : Room (k + 1) X.A) (hb : Binds X.K fd ps ds) (hd : Vals dvs ds)
    (hx : Passes CX X E) (I : Inv X pins σ H s) (r : Vals vs us)
    (h : ∀ x dx, H x = none → H dx = none → dx ≠ x → sp (.ref x :: (vs ++ dvs)) (upd (upd H dx (.own x)) x (.ins C dx [])) (fun v H2 => v = .non ∧ Q (.ref x) H2) E) :
    wpAny (model X.prog X.w) X.A (call (.ref C) us) (EP X pins σ Q) X.xe s := by
  have hq := h (s.heap.objs.size + 1) s.heap.objs.size (I.hok.fresh (Nat.le_succ _)) (I.hok.fresh (Nat.le_refl _)) (Nat.ne_of_lt (Nat.lt_succ_self _))
  have I2 := Inv.made (C := C) I
  have r2 : Vals (V.ref (s.heap.objs.size + 1) :: (vs ++ dvs)) (Value.ref (s.heap.objs.size + 1) :: (us ++ ds)) := .cons rfl (r.append hd)
  have hl : (Value.ref (s.heap.objs.size + 1) :: us ++ ds).length = ps.length := by
    have e := r2.length
    rw [F.len _ _ _ _ hq] at e
    exact e.symm
  refine wpAny_call (make_map (f := f) I.kIn M.makes M.init (beq_iff_eq.mp M.fn) (codeAny_mono (F.run _ X.stack _ _ ⟨Value.ref (s.heap.objs.size + 1) :: us, []⟩ (Value.ref (s.heap.objs.size + 1) :: (us ++ ds)) _ _ E (hr.make C us [])
    ((I2.env0 (I2.ok.hd hcq)).make C us []) (hb _ (Value.ref (s.heap.objs.size + 1) :: us) I2.kIn hl) r2 hq) fun r s' hq' => ?_))
  cases r with
  | error e => exact hx pins σ _ _ e s' I2 hq'
  | ok fl =>
    cases fl with
    | ret u =>
      obtain ⟨v, H', I3, rv, ev, q3⟩ := I2.after hq'
      subst ev
      exact ⟨rv, ⟨V.ref (s.heap.objs.size + 1), H', I3, rfl, q3⟩⟩
    | next => exact False.elim hq'
    | brk => exact False.elim hq'
    | cont => exact False.elim hq'
theorem pe_make (M : Mk X.K C f) (F : FnOk X.prog X.w X.K X.mg X.base CX k f fd ps sp) (hr : Room (k + 1) X.A) (hg : Gl X x) (hm : X.mg x = some (.ref C)) (hb : Binds X.K fd ps ds) (hd : Vals dvs ds) (hx : Passes CX X E)
    (ha : PA X (e :: es) t) (hdb : (x == ("__debug__" : Str)) = false := by decide) (he : starEach (e :: es) X.env = (false, eval e X.env) :: starEach es X.env := by rfl) (hpl : (backTo pos (starEach es X.env)).any (·.1) = false := by rfl) (hcq : X.calm = true := by rfl) :
    PE X (.Call (.Name x p) (e :: es) [] pos) (tMake C sp dvs E t) := by
  intro pins s σ H Q I h
  refine wpAny_Call_Name_kw (ld_glob I hg hm ?_ hdb)
  refine PySem.W.callWith_K (h₀ := X.base) I.ok.mod.kin M.kp (thn (ha pos pins s σ H _ I h) fun us s1 ⟨vs, H1, I1, r, q⟩ => ⟨I1.kIn, ?_⟩) he hpl
  exact run_make hcq M F hr hb hd hx I1 r q
theorem pe_make0 (M : Mk X.K C f) (F : FnOk X.prog X.w X.K X.mg X.base CX k f fd ps sp) (hr : Room (k + 1) X.A) (hg : Gl X x) (hm : X.mg x = some (.ref C)) (hb : Binds X.K fd ps ds) (hd : Vals dvs ds) (hx : Passes CX X E)
    (hdb : (x == ("__debug__" : Str)) = false := by decide) (hcq : X.calm = true := by rfl) : PE X (.Call (.Name x p) [] [] pos) (tMake C sp dvs E tNil) := by
  intro pins s σ H Q I h
  refine wpAny_Call_Name_kw (ld_glob I hg hm ?_ hdb)
  exact PySem.W.callWith_K0 I.kIn M.kp (run_make hcq (us := []) M F hr hb hd hx I .nil h)
end

/-! ### keywords -/
/-- the values of the keywords, from the left -/
def PK (X : Cx) (kws : List Keyword) (t : TA) : Prop :=
  ∀ (pos : Pos) (pins : List (Addr × Obj)) (s : Shared) (σ : St) (H : Hp) (Q : List V → Hp → Prop), Inv X pins σ H s → t σ H Q → wpAny (model X.prog X.w) X.A (evalAll ((backToKw pos (keywordEach kws X.env)).map (·.2))) (AP X pins σ Q) X.xe s
section
variable {X : Cx} {CX : CXT} {k : Nat} {f C : Addr} {fd : FuncData} {ps ks : List Str} {sp : Sp} {E : XK} {x m : Str} {p pos apos kpos : Pos} {e o : Expr} {es : List Expr} {kws : List Keyword} {te ta : TE} {t tk : TA} {nm : Option Str}
/-- how a call with keywords binds: g puts the positional values us and the keywords' values ws (names ks) in the parameters' order, defaults among them -/
structure KBinds (K : PySem.W.Frag) (fd : FuncData) (ps ks : List Str) (g : List Value → List Value → List Value) (gV : List V → List V → List V) : Prop where
  to : ∀ (s : Shared) (us ws : List Value), K.In s.heap → (g us ws).length = ps.length → BindsTo s fd ⟨us, ks.zip ws⟩ (ps.zip (g us ws))
  rel : ∀ {vs : List V} {us : List Value} {zs : List V} {ws : List Value}, Vals vs us → Vals zs ws → Vals (gV vs zs) (g us ws)
def tCallK (sp : Sp) (gV : List V → List V → List V) (E : XK) (t tk : TA) : TE := fun σ H Q => t σ H fun vs H1 => tk σ H1 fun zs H2 => sp (gV vs zs) H2 Q E
variable {g : List Value → List Value → List Value} {gV : List V → List V → List V}
end

/-! ### a def's body keeps its promise -/
/-- names: the parameters first -/
structure FnScope (N P : List Str) (sc : Scope) : Prop where
  kind : sc.kind = .function
  co : sc.isCoroutine = false
  gen : sc.isGenerator = false
  nd : N.Nodup
  pre : N.take P.length = P
  par : ∀ x ∈ P, sc.names.lookup x = some .local ∨ sc.names.lookup x = some .cell
  nofree : ∀ y ∈ sc.names, y.2 ≠ .free

theorem bindL_out {kindOf : Str → Option NameKind} {x : Str} : ∀ {binds : List (Str × Value)} {m : Str → Option Value}, (∀ v, (x, v) ∉ binds) → bindL kindOf binds m x = m x
  | [], _, _ => rfl
  | (n, v) :: r, m, h => by
    unfold bindL
    rw [bindL_out fun w hw => h w (List.mem_cons_of_mem _ hw)]
    split
    · have : x ≠ n := by rintro rfl; exact h v List.mem_cons_self
      simp [this]
    · rfl
theorem bindC_out {kindOf : Str → Option NameKind} {x : Str} : ∀ {binds : List (Str × Value)} {m : Str → Option Value}, (∀ v, (x, v) ∉ binds) → bindC kindOf binds m x = m x
  | [], _, _ => rfl
  | (n, v) :: r, m, h => by
    unfold bindC
    rw [bindC_out fun w hw => h w (List.mem_cons_of_mem _ hw)]
    split
    · rfl
    · have : x ≠ n := by rintro rfl; exact h v List.mem_cons_self
      simp [this]
theorem bindL_get {kindOf : Str → Option NameKind} {x : Str} {v : Value} : ∀ {P : List Str} {vs : List Value} {i : Nat} {m : Str → Option Value}, P.Nodup → P[i]? = some x → vs[i]? = some v → kindOf x = some .local →
    bindL kindOf (P.zip vs) m x = some v
  | [], _, _, _, _, h, _, _ => by simp at h
  | _ :: _, [], _, _, _, _, h, _ => by simp at h
  | p :: P, w :: vs, 0, m, nd, h1, h2, hk => by
    simp at h1 h2; subst h1; subst h2
    show bindL kindOf ((p, w) :: P.zip vs) m p = _
    unfold bindL
    rw [bindL_out fun v hv => (List.nodup_cons.mp nd).1 (List.of_mem_zip hv).1, if_pos hk]
    simp
  | p :: P, w :: vs, i + 1, m, nd, h1, h2, hk => by
    show bindL kindOf ((p, w) :: P.zip vs) m x = _
    unfold bindL
    exact bindL_get (i := i) (List.nodup_cons.mp nd).2 (by simpa using h1) (by simpa using h2) hk
theorem bindC_get {kindOf : Str → Option NameKind} {x : Str} {v : Value} : ∀ {P : List Str} {vs : List Value} {i : Nat} {m : Str → Option Value}, P.Nodup → P[i]? = some x → vs[i]? = some v → kindOf x ≠ some .local →
    bindC kindOf (P.zip vs) m x = some v
  | [], _, _, _, _, h, _, _ => by simp at h
  | _ :: _, [], _, _, _, _, h, _ => by simp at h
  | p :: P, w :: vs, 0, m, nd, h1, h2, hk => by
    simp at h1 h2; subst h1; subst h2
    show bindC kindOf ((p, w) :: P.zip vs) m p = _
    unfold bindC
    rw [bindC_out fun v hv => (List.nodup_cons.mp nd).1 (List.of_mem_zip hv).1, if_neg hk]
    simp
  | p :: P, w :: vs, i + 1, m, nd, h1, h2, hk => by
    show bindC kindOf ((p, w) :: P.zip vs) m x = _
    unfold bindC
    exact bindC_get (i := i) (List.nodup_cons.mp nd).2 (by simpa using h1) (by simpa using h2) hk

/-- the names' values at the entry -/
def start (N : List Str) (vs : List V) : St := vs.map some ++ List.replicate (N.length - vs.length) none

/-- the context of a def's body, at its entry; an exception leaves the frame, then lies as CX says -/
def cxOf (CX : CXT) (P : Program) (w : World) (K : PySem.W.Frag) (mg : Str → Option Value) (base : Heap) (N : List Str) (qual : Str) (scope : Scope) (f : Addr) (cd : Value) (A : Around) (outer : List Env) (s : Shared) (H : Hp) (E : XK) : Cx where
  prog := P
  w := w
  K := K
  mg := mg
  base := base
  A := A.deeper (envOfC qual scope s.heap.objs.size f cd)
  N := N
  s₀ := s
  H₀ := H
  env := envOfC qual scope s.heap.objs.size f cd
  outer := outer
  stack := envOfC qual scope s.heap.objs.size f cd :: outer
  ex := []
  calm := true
  fn := fun _ => true
  pn := []
  xe := fun e s' => wpAny (model P w) (A.deeper (envOfC qual scope s.heap.objs.size f cd)) (leaving (envOfC qual scope s.heap.objs.size f cd) e) (fun _ s'' => CX outer H s E e s'') (fun e' s'' => CX outer H s E e' s'') s'

theorem cell_has {sc : Scope} {n : Nat} {x : Str} (h : sc.names.lookup x = some .cell) : ∃ c, (cellsFrom n sc.names []).lookup x = some c := by
  have q := PySem.W.cellsFrom_some sc.names n [] (.inl h)
  exact Option.isSome_iff_exists.mp q

theorem inv_start {CX : CXT} {P : Program} {w : World} {K : PySem.W.Frag} {mg : Str → Option Value} {base : Heap} {N ps : List Str} {qual : Str} {scope : Scope} {f : Addr} {cd : Value} {A : Around} {outer : List Env} {s s1 : Shared} {H : Hp} {E : XK} {us : List Value} {vs : List V}
    (S : FnScope N ps scope) (e0 : Env0 P w K mg base A outer s H) (hl : vs.length = ps.length) (r : Vals vs us)
    (x : InCallC s s.heap.objs.size (bindL (envOfC qual scope s.heap.objs.size f cd).kindOf (ps.zip us) fun _ => none) (cellsFrom (s.heap.objs.size + 1) scope.names []) (bindC (envOfC qual scope s.heap.objs.size f cd).kindOf (ps.zip us) fun _ => none) s1) :
    Inv (cxOf CX P w K mg base N qual scope f cd A outer s H E) [] (start N vs) H s1 := by
  have hpl : ps.length ≤ N.length := by have := congrArg List.length S.pre; rw [List.length_take] at this; omega
  obtain ⟨h1, tk, rfl, hk⟩ := x.done
  have noA : ∀ b : Addr, b ∉ (cxOf CX P w K mg base N qual scope f cd A outer s H E).ex := fun b z => absurd (show b ∈ ([] : List Addr) from z) (by simp)
  refine ⟨⟨e0.mod, S.kind, rfl, rfl, Nat.le_refl _, fun y z c h1 h2 => ?_, fun y hy => ?_, fun y c _ h => ?_, fun _ => e0.qt, Around.frames_deeper e0.frames, .inr ⟨rfl, rfl⟩, fun b z => absurd z (noA b), e0.bs, e0.bsz, fun b _ _ => noA b, fun b z => absurd z (noA b), e0.funs, e0.frf⟩,
    rfl, e0.bare, Un.kept hk, ⟨_, x.toInCall.ns, fun i y v h1 h2 h3 => ?_⟩, fun y c h => ⟨_, x.cell y c h⟩, e0.hok.fresh (Nat.le_refl _), fun y c h => ?_, fun p hp => absurd (show p ∈ ([] : List (Addr × Obj)) from hp) (by simp), e0.hok.kept hk, ?_⟩
  · exact name_of_addr x.apart (PySem.mem_of_lookup h1) (PySem.mem_of_lookup h2)
  · have hy : scope.names.lookup y = some .cell ∨ scope.names.lookup y = some .free := hy
    rcases hy with hy | hy
    · exact cell_has hy
    · exact absurd rfl (S.nofree _ (PySem.mem_of_lookup hy))
  · exact Nat.le_of_lt (x.above y c (PySem.mem_of_lookup h))
  · have hi : i < vs.length := by
      unfold start at h2
      by_cases hi : i < vs.length
      · exact hi
      · rw [List.getElem?_append_right (by simpa using hi)] at h2
        rw [List.getElem?_replicate] at h2
        split at h2 <;> cases h2
    have ha : vs[i]? = some v := by
      unfold start at h2
      rw [List.getElem?_append_left (by simpa using hi), List.getElem?_map] at h2
      cases e : vs[i]? with
      | none => rw [e] at h2; cases h2
      | some a => rw [e] at h2; cases h2; rfl
    obtain ⟨u, hu, rv⟩ := r.get ha
    have hp : ps[i]? = some y := by
      rw [← S.pre, List.getElem?_take_of_lt (by omega)]; exact h1
    have ndP : ps.Nodup := by rw [← S.pre]; exact S.nd.sublist (List.take_sublist _ _)
    refine ⟨u, rv, ?_⟩
    rcases S.par y (List.mem_of_getElem? hp) with k | k
    · exact .inl ⟨k, bindL_get ndP hp hu k⟩
    · obtain ⟨c, e⟩ := cell_has (n := s.heap.objs.size + 1) k
      refine .inr ⟨.inl k, c, e, ?_⟩
      have q := x.cell y c e
      rw [bindC_get ndP hp hu (by show scope.names.lookup y ≠ _; rw [k]; decide)] at q
      exact q
  · exact e0.hok.fresh (Nat.le_of_lt (x.above y c (PySem.mem_of_lookup h)))
  · unfold start
    show _ = N.length
    rw [List.length_append, List.length_map, List.length_replicate]
    omega

/-- THE RULE: a def (or a method) of the text, by its body. The body's reading t is chosen for each entry; it is run at the parameters' values -/
theorem fn_of {CX : CXT} {P : Program} {w : World} {K : PySem.W.Frag} {mg : Str → Option Value} {base : Heap} {k : Nat} {f : Addr} {name qual : Str} {params : Arguments} {body : List Stmt} {scope : Scope} {dV kV doc pm cdv ct oc : Value} {an od : Option Addr}
    {osl : Array (Option Value)} {N ps : List Str} {sp : Sp} (lk : K.lookup f = some ⟨oc, od, .func (PySem.W.fnOf name qual params body scope dV kV doc pm an cdv ct), osl⟩) (hcd : PySem.W.codeIn K cdv qual = true) (S : FnScope N ps scope)
    (len : ∀ vs H Q E, sp vs H Q E → vs.length = ps.length)
    (hbody : ∀ (A : Around) (outer : List Env) (s : Shared) (H : Hp) (vs : List V) (Q : VK) (E : XK), Room k (A.deeper (envOfC qual scope s.heap.objs.size f cdv)) → sp vs H Q E →
      ∃ t, PSs (cxOf CX P w K mg base N qual scope f cdv A outer s H E) body t ∧ t { nx := fun _ H' => Q .non H', rt := Q } (start N vs) H) :
    FnOk P w K mg base CX (k + 1) f (PySem.W.fnOf name qual params body scope dV kV doc pm an cdv ct) ps sp := by
  refine ⟨len, fun A outer s H args us vs Q E hr e0 hb r hsp => ?_⟩
  have hl := len _ _ _ _ hsp
  have KX : K.In s.heap := e0.mod.kin.keeps fun b o e => (e0.bs b o e).1
  have lim : s.heap.NoLimit := e0.mod.nolimit.keeps fun b o e => (e0.bs b o e).1
  have hkind : ∀ y ∈ ps.zip us, scope.names.lookup y.1 = some .local ∨ (scope.names.lookup y.1 = some .cell ∧ ((cellsFrom (s.heap.objs.size + 1) scope.names []).lookup y.1).isSome = true) := fun ⟨n, v⟩ hy => by
    rcases S.par n (List.of_mem_zip hy).1 with q | q
    · exact .inl q
    · exact .inr ⟨q, PySem.W.cellsFrom_some _ _ _ (.inl q)⟩
  refine codeAny_call_function hr.depth (KX _ _ lk) rfl S.co S.gen rfl (PySem.W.codeRec_of KX hcd) (hb _ _ _ _ ?_)
  refine wpAny_newFunctionEnv_cells S.kind hkind fun env he s1 x => ?_
  subst he
  refine ⟨lim.keeps x.toInCall.keep, codeAny_func ?_⟩
  obtain ⟨t, ht, hq⟩ := hbody A outer s H vs Q E (hr.deeper _) hsp
  have I : Inv (cxOf CX P w K mg base N qual scope f cdv A outer s H E) [] (start N vs) H s1 := inv_start S e0 hl r x
  refine wpAny_mono (ht [] s1 (start N vs) H _ I hq) (fun fl s' hs => ?_) fun e s' hs => hs
  have fin : ∀ {σ' : St} {H' : Hp} {v : V} {u : Value}, Inv (cxOf CX P w K mg base N qual scope f cdv A outer s H E) [] σ' H' s' → RelV v u → Q v H' → CE outer P w H s Q u s' :=
    fun {σ' H' v u} J rv q => ⟨v, H', J.os, J.bare, J.base, J.hok, rv, q⟩
  cases fl with
  | ret u =>
    obtain ⟨v, σ', H', J, rv, q⟩ := hs
    exact fin J rv q
  | next =>
    obtain ⟨σ', H', J, q⟩ := hs
    exact fin (v := V.non) (u := Value.none) J rfl q
  | brk =>
    obtain ⟨_, _, _, q⟩ := hs
    exact False.elim q
  | cont =>
    obtain ⟨_, _, _, q⟩ := hs
    exact False.elim q
end L2

namespace L2
open PySem PySem.Spec PyProof.Rows
section
variable {X : Cx} {x : Str} {p pos : Pos} {e : Expr} {es : List Expr} {t : TA} {id T : String} {r : List V → Hp → VK → Prop}

def tCB (r : List V → Hp → VK → Prop) (t : TA) : TE := fun σ H Q => t σ H fun vs H1 => r vs H1 Q
/-- f(e, ..), f a built-in function -/
theorem pe_callB (hc : CallR X (.builtin id) r) (hg : Gl X x) (hm : X.mg x = none) (hv : bootBuiltins x = some (.builtin id)) (ha : PA X (e :: es) t) (hn : x ≠ "__name__" := by decide) (hdb : (x == ("__debug__" : Str)) = false := by decide)
    (he : starEach (e :: es) X.env = (false, eval e X.env) :: starEach es X.env := by rfl) (hpl : (backTo pos (starEach es X.env)).any (·.1) = false := by rfl) : PE X (.Call (.Name x p) (e :: es) [] pos) (tCB r t) := by
  intro pins s σ H Q I h
  refine wpAny_Call_Name_kw (ld_blt I hg hm hv ?_ hn hdb)
  exact PyProof.Rows.callWith_builtin1 (thn (ha pos pins s σ H _ I h) fun us s1 ⟨vs, H1, I1, r1, q1⟩ => hc pins s1 σ H1 vs us Q I1 r1 q1) he hpl
end
end L2

namespace HT
open PySem PyProof.Rows

/-- t < u of tuples of ints -/
def lexLt : List Int → List Int → Bool
  | [], [] => false
  | [], _ :: _ => true
  | _ :: _, [] => false
  | x :: xs, y :: ys => if x = y then lexLt xs ys else decide (x < y)
section
open PySem.SeqAt
open PySem.AutoSeq1 (wpAny_loadPart')
open PySem.MeetsSeq PySem.MeetsSeq2 PySem.MeetsSeq3

end

section
variable {prog : Program} {w : World} {A : Around} {E : Value → Shared → Prop} {s : Shared}

/-! ### t[a:b], not the whole -/
/-- a slice's bound as a place among n (d where it is left out) -/
def sIx (n d : Nat) : Option Int → Nat
  | none => d
  | some v => if v < 0 then (v + (n : Int)).toNat else min v.toNat n
theorem sIx_none (n d : Nat) : sIx n d none = d := rfl
theorem sIx_nat (n d k : Nat) : sIx n d (some (k : Int)) = min k n := by
  show (if (k : Int) < 0 then ((k : Int) + (n : Int)).toNat else min (k : Int).toNat n) = min k n
  rw [if_neg (by omega), Int.toNat_natCast]
end
end HT

namespace L2
open PySem PySem.Spec PyProof.Rows

/-! ### the parts of a slice -/
abbrev TO := St → Hp → (Option Int → Hp → Prop) → Prop
/-- a slice's part (left out, or an int) -/
def PO (X : Cx) (e : Option Expr) (t : TO) : Prop :=
  ∀ (pins : List (Addr × Obj)) (s : Shared) (σ : St) (H : Hp) (Q : Option Int → Hp → Prop), Inv X pins σ H s → t σ H Q →
    wpAny (model X.prog X.w) X.A (evalPart e X.env) (fun u s' => ∃ o H', Inv X pins σ H' s' ∧ IsPart u o ∧ Q o H') X.xe s
def tNoPart : TO := fun _ H Q => Q none H
def tPart (t : TE) : TO := fun σ H Q => t σ H fun x H1 => ∃ i, x = .int i ∧ Q (some i) H1

section
variable {X : Cx} {e : Expr} {te : TE} {lo hi : Option Expr} {tl th : TO} {pos p2 : Pos}

theorem po_none : PO X none tNoPart := by
  intro pins s σ H Q I h
  rw [evalPart_none]
  exact wpAny_pure ⟨none, H, I, .none, h⟩
theorem po_some (h : PE X e te) : PO X (some e) (tPart te) := by
  intro pins s σ H Q I hw
  rw [evalPart_some]
  refine thn (h pins s σ H _ I hw) fun u s1 ⟨x, H1, I1, r1, q1⟩ => ?_
  obtain ⟨i, rfl, q⟩ := q1
  obtain ⟨t, rfl⟩ := r1
  exact ⟨some i, H1, I1, .int i t, q⟩

/-- what a slice of a value is, by values: the slice object stands at sl -/
def SlR (X : Cx) (r : V → Option Int → Option Int → Hp → VK → Prop) : Prop :=
  ∀ (pins : List (Addr × Obj)) (s : Shared) (σ : St) (H : Hp) (x : V) (v vl vu : Value) (lo hi : Option Int) (sl : Addr) (Q : VK), Inv X pins σ H s → RelV x v → s.heap.IsSliceOf sl vl vu .none → IsPart vl lo → IsPart vu hi → r x lo hi H Q →
    ∃ T id, typeLookup (.type T) "__getitem__" = pure (some (.builtin id)) ∧ s.TypeIs v T ∧ wpAny (model X.prog X.w) X.A (getItem v (.ref sl)) (EP X pins σ Q) X.xe s
def tSl (r : V → Option Int → Option Int → Hp → VK → Prop) (te : TE) (tl th : TO) : TE := fun σ H Q => te σ H fun x H1 => tl σ H1 fun l H2 => th σ H2 fun u H3 => r x l u H3 Q
/-- a[lo:hi], any a -/
theorem pe_slice {r : V → Option Int → Option Int → Hp → VK → Prop} (hr : SlR X r) (he : PE X e te) (hl : PO X lo tl) (hu : PO X hi th) : PE X (.Subscript e (.Slice lo hi none p2) pos) (tSl r te tl th) := by
  intro pins s σ H Q I h
  refine Subscript_ (thn (he pins s σ H _ I h) fun v s1 ⟨x, H1, I1, r1, q1⟩ => ?_)
  refine wpAny_Slice (thn (hl pins s1 σ H1 _ I1 q1) fun vl s2 ⟨l, H2, I2, pl, q2⟩ => thn (hu pins s2 σ H2 _ I2 q2) fun vu s3 ⟨u, H3, I3, pu, q3⟩ => ?_)
  rw [evalPart_none]
  refine wpAny_pure ?_
  have I4 : Inv X pins σ H3 { s3 with heap := s3.heap.push { cls := .type "slice", data := .fields #[vl, vu, .none] } } := I3.kept (t' := s3.toks) fun b ob q => Heap.get?_push_of_some _ q
  obtain ⟨T, id, hT, ht, hg⟩ := hr pins { s3 with heap := s3.heap.push { cls := .type "slice", data := .fields #[vl, vu, .none] } } σ H3 x v vl vu l u s3.heap.objs.size Q I4 r1 (Heap.IsSliceOf.new ..) pl pu q3
  show wpAny (model X.prog X.w) X.A (subscriptTail e (.Slice lo hi none p2) v (.ref s3.heap.objs.size)) (EP X pins σ Q) X.xe { s3 with heap := s3.heap.push { cls := .type "slice", data := .fields #[vl, vu, .none] } }
  exact tail_any (ops := [.ref s3.heap.objs.size, v]) ht hT hg (by with_unfolding_all rfl)

/-- the items of xs[lo:hi] -/
def cutV (xs : List V) (lo hi : Option Int) : List V := (xs.drop (HT.sIx xs.length 0 lo)).take (HT.sIx xs.length xs.length hi - HT.sIx xs.length 0 lo)
theorem cutV_length (xs : List V) (lo hi : Option Int) : (cutV xs lo hi).length ≤ xs.length := by
  unfold cutV
  rw [List.length_take, List.length_drop]
  omega
/-- t[lo:hi], not the whole of it (the whole would be t itself) -/
def rSlT (K : PySem.W.Frag) : V → Option Int → Option Int → Hp → VK → Prop := fun x lo hi H Q => ∃ a xs, x = .ref a ∧ SqT K H a xs ∧
  ¬ (HT.sIx xs.length 0 lo = 0 ∧ HT.sIx xs.length xs.length hi = xs.length) ∧ ∀ p, H p = none → Q (.ref p) (upd H p (.tup (cutV xs lo hi)))
/-! ### t < u, t + u -/
def rLtT (K : PySem.W.Frag) : R2 := fun x y H Q => ∃ a b ns ms, x = .ref a ∧ y = .ref b ∧ SqT K H a (ns.map V.int) ∧ SqT K H b (ms.map V.int) ∧ Q (.bl (HT.lexLt ns ms)) H
/-- t + u, t not empty: u empty gives t itself -/
def rCatT (K : PySem.W.Frag) : R2 := fun x y H Q => ∃ a b xs ys, x = .ref a ∧ y = .ref b ∧ SqT K H a xs ∧ SqT K H b ys ∧ xs ≠ [] ∧ xs.length + ys.length ≤ sizeLine ∧
  (ys = [] → Q (.ref a) H) ∧ (ys ≠ [] → ∀ p, H p = none → Q (.ref p) (upd H p (.tup (xs ++ ys))))
end
end L2

namespace L2
open PySem PySem.Spec PyProof.Rows

/-! ### places -/
/-- the place that an index of any sign means -/
def ixN (n : Nat) (i : Int) : Option Nat := if 0 ≤ i then (if i < n then some i.toNat else none) else if -(n : Int) ≤ i then some (i + n).toNat else none
def atI {α : Type} (xs : List α) (i : Int) : Option α := (ixN xs.length i).bind fun j => xs[j]?
theorem ixN_seq {n : Nat} {i : Int} {j : Nat} (h : ixN n i = some j) : seqIndex? i n = some j ∧ j < n ∧ -(n : Int) ≤ i ∧ i < n := by
  unfold ixN at h
  by_cases h0 : 0 ≤ i
  · rw [if_pos h0] at h
    by_cases h1 : i < n
    · rw [if_pos h1] at h
      have e : i.toNat = j := Option.some.inj h
      exact ⟨by rw [seqIndex_of h0 h1, e], by omega, by omega, h1⟩
    · rw [if_neg h1] at h; cases h
  · rw [if_neg h0] at h
    by_cases h1 : -(n : Int) ≤ i
    · rw [if_pos h1] at h
      have e : (i + n).toNat = j := Option.some.inj h
      exact ⟨by rw [seqIndex_neg (by omega) h1, e], by omega, h1, by omega⟩
    · rw [if_neg h1] at h; cases h
theorem atI_get {α : Type} {xs : List α} {i : Int} {v : α} (h : atI xs i = some v) : ∃ j, seqIndex? i xs.length = some j ∧ xs[j]? = some v ∧ j < xs.length ∧ -(xs.length : Int) ≤ i ∧ i < xs.length := by
  unfold atI at h
  cases e : ixN xs.length i with
  | none => rw [e] at h; cases h
  | some j =>
    rw [e] at h
    obtain ⟨h1, h2, h3, h4⟩ := ixN_seq e
    exact ⟨j, h1, h, h2, h3, h4⟩
theorem atI_nat {α : Type} {xs : List α} {j : Nat} {v : α} (h : xs[j]? = some v) : atI xs (j : Int) = some v := by
  have hj : j < xs.length := (List.getElem?_eq_some_iff.mp h).1
  have e : ixN xs.length (j : Int) = some j := by
    unfold ixN
    rw [if_pos (by omega), if_pos (by omega)]; simp
  unfold atI; rw [e]; exact h
/-! ### what may be subscripted -/
/-- what stands as an index of a plain subscript -/
def PlainIx (b : Expr) : Prop := ∀ o i, subscripted b false o i = operate [o, i] (getItem o i)
/-- a subscript by values -/
def IxR (X : Cx) (r : R2) : Prop :=
  ∀ (value slice : Expr) (pins : List (Addr × Obj)) (s : Shared) (σ : St) (H : Hp) (x y : V) (v u : Value) (Q : VK), Inv X pins σ H s → RelV x v → RelV y u → r x y H Q →
    subscripted slice false v u = operate [v, u] (getItem v u) → wpAny (model X.prog X.w) X.A (subscriptTail value slice v u) (EP X pins σ Q) X.xe s
/-- a call of a builtin's method by values: the receiver, the arguments -/
def MtR (X : Cx) (id : String) (r : V → List V → Hp → VK → Prop) : Prop :=
  ∀ (pins : List (Addr × Obj)) (s : Shared) (σ : St) (H : Hp) (x : V) (xs : List V) (v : Value) (us : List Value) (Q : VK), Inv X pins σ H s → RelV x v → Vals xs us → r x xs H Q →
    wpAny (model X.prog X.w) X.A (call (.builtin id) (v :: us)) (EP X pins σ Q) X.xe s
section
variable {X : Cx} {a b : Expr} {ta tb : TE} {pos : Pos}
/-- a[b] -/
theorem pe_ix {r : R2} (hr : IxR X r) (ha : PE X a ta) (hb : PE X b tb) (hs : PlainIx b) : PE X (.Subscript a b pos) (tOp r ta tb) := by
  intro pins s σ H Q I h
  exact Subscript_ (binT ha hb I h fun v u s2 x y H2 I2 rx ry q => hr a b pins s2 σ H2 x y v u Q I2 rx ry q (hs _ _))

def rIxL (K : PySem.W.Frag) : R2 := fun x y H Q => ∃ p xs i v, x = .ref p ∧ y = .int i ∧ SqL K H p xs ∧ atI xs i = some v ∧ Q v H
def rIxT (K : PySem.W.Frag) : R2 := fun x y H Q => ∃ p xs i v, x = .ref p ∧ y = .int i ∧ SqT K H p xs ∧ atI xs i = some v ∧ Q v H
def rIxS : R2 := fun x y H Q => ∃ z i c, x = .str z ∧ y = .int i ∧ z.length ≤ sizeLine ∧ atI z.cps.toList i = some c ∧ Q (.str ⟨#[c]⟩) H
theorem ix_list : IxR X (rIxL X.K) := by
  intro value slice pins s σ H x y v u Q I rx ry h hs
  obtain ⟨p, xs, i, z, rfl, rfl, hq, he, q⟩ := h
  cases rx
  obtain ⟨t, rfl⟩ := ry
  obtain ⟨its, r, pl, hz⟩ := I.list hq
  obtain ⟨j, h1, h2, h3, h4, h5⟩ := atI_get he
  obtain ⟨w, ew, rw'⟩ := r.get h2
  have hl := r.length
  have hn := line63
  have fin : EP X pins σ Q w s := ⟨z, H, I, rw', q⟩
  by_cases h0 : 0 ≤ i
  · have hj : i.toNat = j := by
      rw [seqIndex_of h0 h5] at h1
      exact Option.some.inj h1
    exact item_listR pl.isList h0 (by omega) (by rw [hj]; simpa using ew) fin hs
  · have hj : (i + (its.toArray.size : Int)).toNat = j := by
      rw [seqIndex_neg (by omega) h4] at h1
      rw [List.size_toArray, ← hl]
      exact Option.some.inj h1
    exact subscriptTail_builtinR (x := w) pl.isList.typeIs slot_list_getitem.lookup
      (wpAny_getItem_list_neg (Q := fun r s' => r = w ∧ EP X pins σ Q r s') pl.isList (by omega) (by rw [List.size_toArray] <;> omega) (by omega) (by rw [hj]; simpa using ew) ⟨rfl, fin⟩) hs
theorem ix_tup : IxR X (rIxT X.K) := by
  intro value slice pins s σ H x y v u Q I rx ry h hs
  obtain ⟨p, xs, i, z, rfl, rfl, hq, he, q⟩ := h
  cases rx
  obtain ⟨t, rfl⟩ := ry
  obtain ⟨its, r, pl, hz⟩ := I.tuple hq
  obtain ⟨j, h1, h2, h3, h4, h5⟩ := atI_get he
  obtain ⟨w, ew, rw'⟩ := r.get h2
  have hl := r.length
  have hn := line63
  have fin : EP X pins σ Q w s := ⟨z, H, I, rw', q⟩
  exact subscriptTail_builtinR (x := w) pl.typeIs slot_tuple_getitem.lookup
    (getItem_tuple (j := j) (Q := fun r s' => r = w ∧ EP X pins σ Q r s') pl (by omega) (by omega) (by rw [List.size_toArray, ← hl]; exact h1) (by simpa using ew) ⟨rfl, fin⟩) hs
/-- list, tuple or str -/
def rIx (K : PySem.W.Frag) : R2 := fun x y H Q => rIxL K x y H Q ∨ rIxT K x y H Q ∨ rIxS x y H Q
/-! ### xs[i] = v, any sign -/
def rSetL : V → V → V → Hp → (Hp → Prop) → Prop := fun o i v H Q => ∃ p xs k j, o = .ref p ∧ i = .int k ∧ H p = some (.lst xs) ∧ ixN xs.length k = some j ∧ Q (upd H p (.lst (xs.set j v)))
/-! ### slices -/
theorem slice_bounds (lo hi : Option Int) (n : Nat) : (sliceBounds lo hi none n).1 = ((HT.sIx n 0 lo : Nat) : Int) ∧ (sliceBounds lo hi none n).2.1 = ((HT.sIx n n hi : Nat) : Int) ∧ (sliceBounds lo hi none n).2.2 = 1 := by
  refine ⟨?_, ?_, rfl⟩
  · cases lo with
    | none => simp [sliceBounds, HT.sIx]
    | some i =>
      simp only [sliceBounds, HT.sIx, Option.getD_none, show (1 : Int) > 0 by decide, if_true]
      by_cases h : i < 0
      · simp only [h, if_true] <;> omega
      · simp only [h, if_false] <;> omega
  · cases hi with
    | none => simp [sliceBounds, HT.sIx]
    | some i =>
      simp only [sliceBounds, HT.sIx, Option.getD_none, show (1 : Int) > 0 by decide, if_true]
      by_cases h : i < 0
      · simp only [h, if_true] <;> omega
      · simp only [h, if_false] <;> omega
theorem slicePick_cut (its : List Value) (lo hi : Option Int) : slicePick its.toArray lo hi none = ((its.drop (HT.sIx its.length 0 lo)).take (HT.sIx its.length its.length hi - HT.sIx its.length 0 lo)).toArray := by
  obtain ⟨h1, h2, h3⟩ := slice_bounds lo hi its.toArray.size
  unfold slicePick
  rw [h1, h2, h3]
  simp only [sliceRange_one, pick_run, List.size_toArray] <;> rfl
/-- xs[lo:hi] of a list: a new list -/
def rSlL (K : PySem.W.Frag) : V → Option Int → Option Int → Hp → VK → Prop := fun x lo hi H Q => ∃ a xs, x = .ref a ∧ SqL K H a xs ∧ ∀ p, H p = none → Q (.ref p) (upd H p (.lst (cutV xs lo hi)))
theorem sl_list : SlR X (rSlL X.K) := by
  intro pins s σ H x v vl vu lo hi sl Q I rx hs pl pu h
  obtain ⟨a, xs, rfl, hx, q⟩ := h
  cases rx
  obtain ⟨its, r, ht, hz⟩ := I.list hx
  have hlen := r.length
  refine ⟨"list", _, slot_list_getitem.lookup, ht.isList.typeIs, ?_⟩
  refine wpAny_getItem_list_slice ht.isList hs pl pu .none (by simp) ?_ (by rw [List.size_toArray] <;> omega)
  rw [slicePick_cut, ← hlen]
  refine ⟨.ref s.heap.objs.size, _, I.laid (t' := s.toks) (o := .lst (cutV xs lo hi)) (fun b ob q => Heap.get?_push_of_some _ q) (Nat.le_refl _) ?_, rfl, q _ (I.hok.fresh (Nat.le_refl _))⟩
  exact ⟨Nat.le_trans (cutV_length xs lo hi) hz, _, 0, (r.drop (HT.sIx xs.length 0 lo)).take (HT.sIx xs.length xs.length hi - HT.sIx xs.length 0 lo), Heap.get?_push_size _ rfl⟩

/-! ### in, not in: flat items -/
def flatV : V → Bool
  | .non => true
  | .bl _ => true
  | .int _ => true
  | .str _ => true
  | _ => false
/-- == of flat values -/
def eqV : V → V → Bool
  | .non, .non => true
  | .bl a, .bl b => a == b
  | .bl a, .int b => (if a then 1 else 0) == b
  | .int a, .bl b => a == (if b then 1 else 0)
  | .int a, .int b => a == b
  | .str a, .str b => a == b
  | _, _ => false
/-- the items' answers, read off the values (a value's own answer does not lean on its token) -/
def eqU (x : V) (u : Value) : Bool := match u with
  | .none => eqV .non x
  | .bool b => eqV (.bl b) x
  | .int i _ => eqV (.int i) x
  | .str z _ => eqV (.str z) x
  | _ => false
def inV (x : V) (xs : List V) : Bool := xs.any fun y => eqV y x
/-- x in a list or tuple of flat items -/
def rIn (K : PySem.W.Frag) (neg : Bool) : R2 := fun x y H Q => ∃ p xs, y = .ref p ∧ (SqL K H p xs ∨ SqT K H p xs) ∧ flatV x = true ∧ xs.all flatV = true ∧ Q (.bl (if neg then !inV x xs else inV x xs)) H
/-! ### len, list(x), tuple(x) of any list or tuple that is read -/
theorem call_len_seq : CallR X (.builtin "len") (fun xs H Q => ∃ p ys, xs = [.ref p] ∧ (SqL X.K H p ys ∨ SqT X.K H p ys) ∧ Q (.int ys.length) H) := by
  intro pins s σ H xs us Q I r h
  obtain ⟨p, ys, rfl, hq, q⟩ := h
  obtain ⟨u, rfl, rx⟩ := vals1 r
  cases rx
  have hn := line63
  rcases hq with hq | hq
  · obtain ⟨its, r', pl, hz⟩ := I.list hq
    have hlen := r'.length
    exact Calls.call_len_list pl.isList (by simp only [List.size_toArray] <;> omega) ⟨.int ys.length, H, I.tok _, ⟨s.toks + 1, by rw [List.size_toArray, hlen]⟩, q⟩
  · obtain ⟨its, r', pl, hz⟩ := I.tuple hq
    have hlen := r'.length
    exact len_tuple pl (by simp only [List.size_toArray] <;> omega) ⟨.int ys.length, H, I.tok _, ⟨s.toks + 1, by rw [List.size_toArray, hlen]⟩, q⟩
/-! ### the call of a builtin's method: o.m(..) -/
/-- the value is of that builtin type -/
def tyV (K : PySem.W.Frag) (T : String) (x : V) (H : Hp) : Prop := match x with
  | .str _ => T = "str"
  | .int _ => T = "int"
  | .ref p => (T = "list" ∧ ∃ xs, SqL K H p xs) ∨ (T = "tuple" ∧ ∃ o, K.lookup p = some o ∧ o.cls = .type "tuple" ∧ o.dict = none) ∨
      (T = "dict" ∧ ((∃ kvs, H p = some (.dK kvs)) ∨ ∃ kvs, H p = some (.dT kvs))) ∨ (T = "set" ∧ ∃ S n, H p = some (.set S n))
  | _ => False
theorem tyV_is {pins : List (Addr × Obj)} {σ : St} {H : Hp} {s : Shared} {T : String} {x : V} {v : Value} (I : Inv X pins σ H s) (r : RelV x v) (ty : tyV X.K T x H) :
    s.TypeIs v T ∧ ∀ a, v = .ref a → ∃ ob, s.heap.get? a = some ob ∧ ob.dict = none := by
  cases x with
  | str z =>
    obtain ⟨t, rfl⟩ := r
    cases (show T = "str" from ty)
    exact ⟨typeIs_str s z t, fun _ e => nomatch e⟩
  | int i =>
    obtain ⟨t, rfl⟩ := r
    cases (show T = "int" from ty)
    exact ⟨typeIs_int s i t, fun _ e => nomatch e⟩
  | ref p =>
    cases r
    rcases ty with ⟨rfl, xs, hq⟩ | ⟨rfl, o, hk, hc, hd⟩ | ⟨rfl, hk⟩ | ⟨rfl, S, n, hk⟩
    · obtain ⟨its, _, pl, _⟩ := I.list hq
      refine ⟨pl.isList.typeIs, fun a e => ?_⟩
      cases e
      obtain ⟨o, n, e, c, hd, _⟩ := pl
      exact ⟨o, e, hd⟩
    · refine ⟨⟨o, I.kIn p o hk, hc⟩, fun a e => ?_⟩
      cases e
      exact ⟨o, I.kIn _ o hk, hd⟩
    · have z : ∃ o, s.heap.get? p = some o ∧ o.ExactDict := by
        rcases hk with ⟨kvs, hk⟩ | ⟨kvs, hk⟩
        · obtain ⟨_, _, _, _, o, _, _, e, ex, _⟩ := I.hok p _ hk
          exact ⟨o, e, ex⟩
        · obtain ⟨_, _, _, _, o, _, _, e, ex, _⟩ := I.hok p _ hk
          exact ⟨o, e, ex⟩
      obtain ⟨o, e, ex⟩ := z
      refine ⟨⟨o, e, ex.1⟩, fun a e2 => ?_⟩
      cases e2
      exact ⟨o, e, ex.2.1⟩
    · obtain ⟨o, _, _, _, e, ex, _⟩ := I.hok p _ hk
      refine ⟨⟨o, e, ex.1⟩, fun a e2 => ?_⟩
      cases e2
      exact ⟨o, e, ex.2.1⟩
  | _ => exact False.elim ty
def tBM0 (K : PySem.W.Frag) (T : String) (r : V → List V → Hp → VK → Prop) (to : TE) : TE := fun σ H Q => to σ H fun x H1 => tyV K T x H1 ∧ r x [] H1 Q
def tBM (K : PySem.W.Frag) (T : String) (r : V → List V → Hp → VK → Prop) (to : TE) (t : TA) : TE := fun σ H Q => to σ H fun x H1 => tyV K T x H1 ∧ t σ H1 fun xs H2 => r x xs H2 Q
variable {o e : Expr} {es : List Expr} {to : TE} {t : TA} {name : Str} {apos cpos : Pos} {T id : String} {r : V → List V → Hp → VK → Prop}
theorem pe_bm (pa : PlainAttrs T) (slot : Slot T name id) (hty : typeOf (.builtin id) = pure (.type "method_descriptor")) (hm : MtR X id r) (ho : PE X o to) (ha : PA X (e :: es) t)
    (hbase : attributeBase o name X.env (eval o X.env) = eval o X.env := by rfl)
    (hfew : ((backTo cpos (starEach (e :: es) X.env)).all (fun x => !x.1) && (backToKw cpos (keywordEach [] X.env)).all (fun x => x.1.isSome)
      && decide ((e :: es).length + ([] : List Keyword).length + (if ([] : List Keyword).isEmpty then 0 else 1) < 30)) = true := by rfl)
    (hline : (apos.endLine == cpos.line) = true := by rfl) (hs : starEach (e :: es) X.env = (false, eval e X.env) :: starEach es X.env := by rfl) (hplain : (backTo cpos (starEach es X.env)).any (·.1) = false := by rfl) :
    PE X (.Call (.Attribute o name apos) (e :: es) [] cpos) (tBM X.K T r to t) := by
  intro pins s σ H Q I h
  refine wpAny_Call_method_late hbase hfew hline rfl (thn (ho pins s σ H _ I h) fun v s1 ⟨x, H1, I1, r1, ty, q1⟩ => ?_)
  obtain ⟨h1, h2⟩ := tyV_is I1 r1 ty
  refine ⟨T, id, pa, slot, hty, h1, h2, ?_⟩
  have hA := ha cpos pins s1 σ H1 _ I1 q1
  rw [hs] at hA ⊢
  refine Calls.callWith_builtin (by show (false || (backTo cpos (starEach es X.env)).any (·.1)) = false; rw [hplain] <;> rfl) (Calls.evalArgs_plain ?_)
  exact thn hA fun us s2 ⟨vs, H2, I2, r2, q2⟩ => hm pins s2 σ H2 x vs v us Q I2 r1 r2 q2
/- xs.append(e), list.index on a module's tuple .. are MtR facts of 06m -/
end
end L2

namespace L2
open PySem PySem.Spec PyProof.Rows

def MtM (X : Cx) (id : String) (r : V → List V → Hp → VK → Prop) : Prop :=
  ∀ (pins : List (Addr × Obj)) (s : Shared) (σ : St) (H : Hp) (x : V) (xs : List V) (v : Value) (us : List Value) (Q : VK), Inv X pins σ H s → RelV x v → Vals xs us → r x xs H Q →
    wpAny (model X.prog X.w) X.A (call (.builtin id) (v :: us)) (EP X pins σ Q) X.xe s

/-! ### lists of values -/
theorem Vals.one : ∀ {x : V} {us : List Value}, Vals [x] us → ∃ u, us = [u] ∧ RelV x u
  | _, _, .cons r .nil => ⟨_, rfl, r⟩
theorem Vals.two : ∀ {x y : V} {us : List Value}, Vals [x, y] us → ∃ u v, us = [u, v] ∧ RelV x u ∧ RelV y v
  | _, _, _, .cons r (.cons q .nil) => ⟨_, _, rfl, r, q⟩
section
variable {X : Cx} {pins : List (Addr × Obj)} {σ : St} {H : Hp} {s : Shared} {l b : Addr} {xs ys zs : List V}

/-! ### the two steps: a tracked list is rewritten, a new list is laid -/
theorem Inv.lset {its its' : List Value} {n : Nat} {f : Array Value → Array Value} {t' : Nat} (I : Inv X pins σ H s) (hH : H l = some (.lst xs))
    (e : s.heap.get? l = some { cls := .type "list", data := .seq its.toArray n }) (hf : f its.toArray = its'.toArray) (hv : Vals ys its') (hz : ys.length ≤ sizeLine) :
    Inv X pins σ (upd H l (.lst ys)) { s with heap := s.heap.update l (Obj.mapSeq f), toks := t' } := by
  have q := PySem.IsL.update e f
  rw [hf] at q
  refine I.write (x := l) (e := l) (by rw [hH]; exact trivial) (.inl rfl) (fun b' u hb hu => (Heap.get?_update_other s.heap (Obj.mapSeq f) (Ne.symm hb)).trans hu) ⟨_, q⟩ ?_
  exact ⟨hz, its', _, hv, q⟩
theorem Inv.lnew {its : List Value} {t' : Nat} (I : Inv X pins σ H s) (hv : Vals ys its) (hz : ys.length ≤ sizeLine) :
    Inv X pins σ (upd H s.heap.objs.size (.lst ys)) { s with heap := s.heap.push { cls := .type "list", data := .seq its.toArray }, toks := t' } :=
  I.laid (fun _ _ q => Heap.get?_push_of_some _ q) (Nat.le_refl _) ⟨hz, its, 0, hv, Heap.get?_push_size _ rfl⟩
theorem Inv.fresh (I : Inv X pins σ H s) : H s.heap.objs.size = none := I.hok.fresh (Nat.le_refl _)
theorem Inv.lstM (I : Inv X pins σ H s) (hH : H l = some (.lst xs)) : xs.length ≤ sizeLine ∧ ∃ (its : List Value) (n : Nat), Vals xs its ∧ xs.length = its.length ∧ s.heap.get? l = some { cls := .type "list", data := .seq its.toArray n } := by
  obtain ⟨z, its, n, r, e⟩ := I.hok l _ hH
  exact ⟨z, its, n, r, r.length, e⟩

end

section
variable {X : Cx}

/-! ### methods -/
def rAppend : V → List V → Hp → VK → Prop := fun x vs H Q => ∃ l xs y, x = .ref l ∧ vs = [y] ∧ H l = some (.lst xs) ∧ xs.length < sizeLine ∧ Q .non (upd H l (.lst (xs ++ [y])))
theorem mt_append : MtM X "list.append" rAppend := by
  intro pins s σ H x vs v us Q I rx rv h
  obtain ⟨l, xs, y, rfl, rfl, hH, hz, q⟩ := h
  cases rx
  obtain ⟨u, rfl, ru⟩ := rv.one
  obtain ⟨z, its, n, r, hl, e⟩ := I.lstM hH
  refine call_meets F.slot_list_append ⟨_, e, rfl⟩ F.entry_list_append (F.args_list_append_2 _ _) (PySem.list_append l its.toArray n u (by rw [List.size_toArray]; omega)) ⟨e, ?_⟩
  refine ⟨.non, _, I.lset (its' := its ++ [u]) hH e (by simp) (r.append (.cons ru .nil)) ?_, rfl, q⟩
  rw [List.length_append, List.length_singleton]
  omega

def rExtend : V → List V → Hp → VK → Prop := fun x vs H Q => ∃ l b xs zs, x = .ref l ∧ vs = [.ref b] ∧ H l = some (.lst xs) ∧ H b = some (.lst zs) ∧ xs.length + zs.length ≤ sizeLine ∧ Q .non (upd H l (.lst (xs ++ zs)))
def rPop : V → List V → Hp → VK → Prop := fun x vs H Q => ∃ l xs y, x = .ref l ∧ vs = [] ∧ H l = some (.lst xs) ∧ xs[xs.length - 1]? = some y ∧ Q y (upd H l (.lst xs.dropLast))
def rPopAt : V → List V → Hp → VK → Prop := fun x vs H Q => ∃ l xs i k y, x = .ref l ∧ vs = [.int i] ∧ H l = some (.lst xs) ∧ -(2 ^ 63) ≤ i ∧ i < 2 ^ 63 ∧ seqIndex? i xs.length = some k ∧ xs[k]? = some y ∧ Q y (upd H l (.lst (xs.eraseIdx k)))
def rReverse : V → List V → Hp → VK → Prop := fun x vs H Q => ∃ l xs, x = .ref l ∧ vs = [] ∧ H l = some (.lst xs) ∧ Q .non (upd H l (.lst xs.reverse))
def rClear : V → List V → Hp → VK → Prop := fun x vs H Q => ∃ l xs, x = .ref l ∧ vs = [] ∧ H l = some (.lst xs) ∧ Q .non (upd H l (.lst []))
/-! ### list + list, list += list, list * int -/
def rCat : R2 := fun x y H Q => ∃ l b xs zs, x = .ref l ∧ y = .ref b ∧ H l = some (.lst xs) ∧ H b = some (.lst zs) ∧ xs.length + zs.length ≤ sizeLine ∧ ∀ p, H p = none → Q (.ref p) (upd H p (.lst (xs ++ zs)))
theorem op_cat : OpR X (binaryOp .Add) rCat := by
  intro pins s σ H x y v u Q I rx ry h
  obtain ⟨l, b, xs, zs, rfl, rfl, hH, hB, hz, q⟩ := h
  cases rx
  cases ry
  obtain ⟨z, its, n, r, hl, e⟩ := I.lstM hH
  obtain ⟨z2, its2, n2, r2, hl2, e2⟩ := I.lstM hB
  refine PySem.P.add_list e e2 ?_ (by rw [List.size_toArray, List.size_toArray]; omega)
  have ea : its.toArray ++ its2.toArray = (its ++ its2).toArray := by simp
  rw [ea]
  exact ⟨.ref _, _, I.lnew (t' := s.toks) (r.append r2) (by rw [List.length_append]; omega), rfl, q _ I.fresh⟩
/-- a list times an int (a negative one is nothing) -/
def rRep : R2 := fun x y H Q => ∃ l k xs, x = .ref l ∧ y = .int k ∧ H l = some (.lst xs) ∧ -(2 ^ 63) ≤ k ∧ k < 2 ^ 63 ∧ xs.length * k.toNat ≤ sizeLine ∧
  ∀ p, H p = none → Q (.ref p) (upd H p (.lst (List.replicate k.toNat xs).flatten))
/-! ### del xs[i] -/
end

/-! ### xs[a:b] = ys -/
section
variable {prog : Program} {w : World} {A : Around} {E : Value → Shared → Prop} {s : Shared}
end

section
variable {X : Cx}
end
end L2

namespace Att
open PySem PySem.W PySem.Calls PyProof.Rows

/-! ### the script -/
theorem ints_of_wellAll {P : Params} {h : Heap} : ∀ (ns : List Int) (vs : List Value), WellAll P h vs (ns.map WData.int) → IntsAre vs ns := by
  intro ns
  induction ns with
  | nil =>
    intro vs w
    rw [List.map_nil] at w
    cases w
    exact .nil
  | cons n ns ih =>
    intro vs w
    rw [List.map_cons] at w
    cases w with
    | cons a b =>
      cases a
      exact .cons _ _ (ih _ b)

theorem script_of {l : OpenLaw} {n : Nat} (hn : l.most = some n) {P : Params} {h : Heap} {args : List WData} {vals : List Value}
    (hpre : l.row.toRowW.claim.pre args = true) (hwl : WellAll P h vals args) :
    ∃ a vs ns, vals = [Value.ref a] ∧ args = [WData.list (ns.map WData.int)] ∧ h.get? a = some { cls := .type "list", data := .seq vs.toArray } ∧ IntsAre vs ns ∧ ns.length ≤ n := by
  have hsh : WShape.hasAll [] args [.list .int] = true := (pre_splitW hpre).1
  have hc : l.pre.holds [] { args := args } = true := (pre_splitW hpre).2
  obtain ⟨d, r, rfl, h1, h2⟩ := hasAllW_cons hsh
  obtain rfl := hasAllW_nil h2
  obtain ⟨xs, rfl, h3⟩ := hasW_list h1
  obtain ⟨ns, rfl⟩ := items_int h3
  have hlen : ns.length ≤ n := by
    unfold OpenLaw.pre at hc
    have h4 : (WTm.not (.lt (.lit (.int (n : Int))) (.len (.arg 0)))).holds [] { args := [.list (ns.map .int)] } = true := by
      have h4 := (holds_andW hc).1
      rw [hn] at h4
      exact h4
    have h5 := condW_of h4 (w_not (w_lt w_lit (w_len_list (w_arg rfl))))
    rw [List.length_map] at h5
    refine Nat.le_of_not_lt fun q => ?_
    have q' : (n : Int) < ((ns.length : Nat) : Int) := by omega
    first
      | (rw [decide_eq_true q'] at h5; exact absurd h5 (by decide))
      | (simp at h5; omega)
  cases hwl with
  | cons w1 w2 =>
    cases w2
    cases w1 with
    | list ho hall => exact ⟨_, _, ns, rfl, rfl, ho, ints_of_wellAll ns _ hall, hlen⟩

theorem post_true (l : OpenLaw) (args : List WData) : l.row.toRowW.claim.post args (.bool true) args = true :=
  postW_of (r := l.row.toRowW) (X := (true == true))
    (show WShape.has [] (.bool true) .bool = true by first | rfl | decide | simp [WShape.has, WShape.arms, WShape.armsAll])
    (show (WTm.eq .res (.lit (.bool true))).value [] { args := args, res := some (.bool true), after := args } = some (.bool (true == true)) from w_eq_bool (w_res rfl) w_lit) rfl

/-! ### the attachment: holds_open's last premise (the goal 'hc' behind k_head) from a wpAny of the law's body -/
/-- the same from a codeAny of the CALL (for a layer whose function contracts speak of calls) -/
theorem attach_call {l : OpenLaw} {n : Nat} {q : Program} {loose : List Str} {XP : (Str → Option Value) → Heap → Prop} {YP : World → Heap → Prop} {d : DefRec}
    (hn : l.most = some n) (hdf : d.params.defaults = [])
    (call : ∀ (w : World) (s₀ s₁ : Shared) (mg mb : Str → Option Value) (fa : Addr) (o : Obj) (pm cd doc : Value) (a : Addr) (vs : List Value) (ns : List Int),
      Ground q loose [] XP w s₀ mg mb s₁.heap → YP w s₁.heap →
      s₁.heap.get? fa = some o → o.data = .func (docDef d.name d.params d.body d.scope pm cd doc) → s₁.heap.CodeRec cd d.name → mg d.name = some (.ref fa) →
      s₁.heap.get? a = some { cls := .type "list", data := .seq vs.toArray } → IntsAre vs ns → ns.length ≤ n → s₁.gens = #[] →
      codeAny (model l.prog w) callerA (.call (.ref fa) ⟨[.ref a], []⟩) (fun r s' => r = .ok (.ret (.bool true)) ∧ OldK s₁.heap s'.heap ∧ s'.os = s₁.os ∧ AllBare s'.gens) s₁) :
    WalkO q loose XP YP l.row.toRowW d [] (fun f vs => PySem.call f vs) := by
  intro w s₀ s₁ mg mb G Y fa o pm cd doc dV kV ho hd hcd hD hmg hg args vals as hpre hlay hrd hwl hlo
  obtain rfl : dV = .none := Dflts.none hD hdf
  obtain rfl : kV = .none := Dflts.noKw hD
  obtain ⟨a, vs, ns, rfl, rfl, hobj, hints, hlen⟩ := script_of hn hpre hwl
  refine enter_call (codeAny_mono (call w s₀ s₁ mg mb fa o pm cd doc a vs ns G Y ho (fd_plain hd) hcd hmg hobj hints hlen hg) fun r s' hq => ?_)
  obtain ⟨rfl, h2, h3, h4⟩ := hq
  exact ⟨.inl ⟨.bool true, .bool true, [], rfl, fun _ => rfl, .bool true, post_true l _, fun _ => ⟨List.Pairwise.nil, fun _ hm => (nomatch hm)⟩⟩, h2, h3, h4⟩

/-! ### rules over ANY heap (no ledger) from facts about the written part K: the library's own take a ledger (News) for what they write -/
section
variable {prog : Program} {w : World} {A : Around} {E : Value → Shared → Prop} {s : Shared} {K : Frag}

/-! the whole heap as the ledger: makes every rule that writes through a ledger a rule over any heap -/
def noObjs (h : Heap) : Heap := { h with objs := #[] }
theorem noObjs_get (h : Heap) (b : Addr) : (noObjs h).get? b = none := by
  cases e : (noObjs h).get? b with
  | none => rfl
  | some o => exact absurd (Heap.lt_size e) (Nat.not_lt_zero _)
def ledger (h : Heap) (L d : Addr) : List (Addr × Obj) := (List.range h.objs.size).filterMap fun a => if a = L ∨ a = d then none else (h.get? a).map fun o => (a, o)
theorem mem_ledger {h : Heap} {L d a : Addr} {o : Obj} : (a, o) ∈ ledger h L d ↔ a ≠ L ∧ a ≠ d ∧ h.get? a = some o := by
  unfold ledger
  rw [List.mem_filterMap]
  constructor
  · rintro ⟨b, _, e⟩
    split at e
    · cases e
    · rename_i hb
      obtain ⟨o', ho, e'⟩ := Option.map_eq_some_iff.mp e
      cases e'
      exact ⟨fun q => hb (.inl q), fun q => hb (.inr q), ho⟩
  · rintro ⟨n1, n2, ho⟩
    refine ⟨a, List.mem_range.mpr (Heap.lt_size ho), ?_⟩
    rw [if_neg (show ¬ (a = L ∨ a = d) from fun q => q.elim n1 n2), ho] <;> rfl
theorem fr_all {h : Heap} {L : Addr} {m : Str → Option Value} (n : h.Ns L m) : Fr (noObjs h) L h m :=
  ⟨n, fun b o e => (by rw [noObjs_get] at e; cases e), Nat.zero_le _⟩
end
end Att

namespace L2
open PySem PySem.Spec PyProof.Rows

theorem vals_ints : ∀ {vs : List Value} {ns : List Int}, IntsAre vs ns → Vals (ns.map V.int) vs
  | _, _, .nil => .nil
  | _, _, .cons n t h => .cons ⟨t, rfl⟩ (vals_ints h)

/-- nothing is tracked but the script, known to the object (or it is an object of the module) -/
def Only (H : Hp) : Prop := ∀ b, H b = none ∨ ∃ o xs, H b = some (.frz o (.lst xs))

/-- THE HEAD: the law's promise, at the heap behind the top. F, the promise of the law's def, may use that base is part of the heap (so K.In base, base.Ns mainGlobals mg stand in Mod) -/
theorem law_call {P : Program} {w : World} {K : PySem.W.Frag} {mg mb : Str → Option Value} {CX : CXT} {k : Nat} {fa a : Addr} {fd : FuncData} {x : Str} {sp : Sp} {s₁ : Shared} {vs : List Value} {ns : List Int}
    (KX : K.In s₁.heap) (hns : s₁.heap.Ns mainGlobals mg) (hb : s₁.heap.Ns builtinsNs mb) (hbb : ∀ x : Str, x ≠ "__name__" → mb x = bootBuiltins x) (hlim : s₁.heap.NoLimit) (hg : s₁.gens = #[])
    (ha : s₁.heap.get? a = some { cls := .type "list", data := .seq vs.toArray }) (hi : IntsAre vs ns) (hl : ns.length ≤ sizeLine) (hr : Room k callerA)
    (F : ∀ base : Heap, K.In base → base.Ns mainGlobals mg → FnOk P w K mg base CX k fa fd [x] sp) (hbind : ∀ (s : Shared) (u : Value), BindsTo s fd ⟨[u], []⟩ [(x, u)])
    (hsp : ∀ H : Hp, Only H → SqL K H a (ns.map V.int) → sp [.ref a] H (fun v _ => v = .bl true) fun _ _ _ => False)
    (hCX : ∀ H e s', CX [] H s₁ (fun _ _ _ => False) e s' → False) :
    codeAny (model P w) callerA (.call (.ref fa) ⟨[.ref a], []⟩) (fun r s' => r = .ok (.ret (.bool true)) ∧ OldK s₁.heap s'.heap ∧ s'.os = s₁.os ∧ AllBare s'.gens) s₁ := by
  have rv := vals_ints hi
  have lenV := hi.length
  -- from an abstract heap in which nothing but the script may be tracked
  have core : ∀ H : Hp, Only H → SqL K H a (ns.map V.int) → HOk P w H s₁.heap → (∀ b, H b ≠ none → b = a) → (H a ≠ none → K.lookup a = none) →
      codeAny (model P w) callerA (.call (.ref fa) ⟨[.ref a], []⟩) (fun r s' => r = .ok (.ret (.bool true)) ∧ OldK s₁.heap s'.heap ∧ s'.os = s₁.os ∧ AllBare s'.gens) s₁ := by
    intro H hO hS hok hA hK
    have base_of : ∀ {b : Addr} {o : Obj}, s₁.heap.get? b = some o → H b = none → (hidT s₁.heap H).get? b = some o := fun e n => hidT_get e n
    have noA : ∀ {b : Addr} {o : Obj} {es : Array DictEntry} {ep : Nat}, s₁.heap.get? b = some o → o.data = .dict es ep → H b = none := fun {b o es ep} e d => by
      cases q : H b with
      | none => rfl
      | some u =>
        have e' : b = a := hA b (by rw [q]; simp)
        subst e'
        rw [ha] at e; cases e
        have d' : Data.seq vs.toArray _ = Data.dict es ep := d
        cases d'
    have nsK : ∀ {b : Addr} {m : Str → Option Value}, s₁.heap.Ns b m → (hidT s₁.heap H).Ns b m := fun {b m} ⟨o, es, ep, e, d, r⟩ => ⟨o, es, ep, base_of e (noA e d), d, r⟩
    have hKb : K.In (hidT s₁.heap H) := fun b o e => base_of (KX b o e) (by
      cases q : H b with
      | none => rfl
      | some u =>
        have e' : b = a := hA b (by rw [q]; simp)
        subst e'
        rw [hK (by rw [q]; simp)] at e; cases e)
    have hM : Mod K mg (hidT s₁.heap H) := ⟨hKb, nsK hns, ⟨mb, nsK hb, hbb⟩, let ⟨mc, h1, h2⟩ := hlim; ⟨mc, nsK h1, h2⟩⟩
    have e0 : Env0 P w K mg (hidT s₁.heap H) callerA [] s₁ H := ⟨rfl, hM, fun b o e => of_hidT e, Nat.le_of_eq (hidT_size _ _), trivial, fun b hb => absurd (show b ∈ ([] : List Addr) from hb) (by simp), hok, .of_eq hg, .inl rfl⟩
    refine codeAny_mono ((F _ hKb (nsK hns)).run callerA [] s₁ H ⟨[.ref a], []⟩ [.ref a] [.ref a] _ _ hr e0 (hbind s₁ (.ref a)) (.cons rfl .nil) (hsp H hO hS)) fun r s' h => ?_
    cases r with
    | error e => exact (hCX H e s' h).elim
    | ok fl =>
      cases fl with
      | next => exact False.elim h
      | brk => exact False.elim h
      | cont => exact False.elim h
      | ret u =>
        obtain ⟨v, H', os, bare, un, hok', r', q⟩ := h
        have q' : v = .bl true := q
        subst q'
        obtain rfl : u = Value.bool true := r'
        refine ⟨rfl, OldK.of_keep fun b o e => ?_, os, bare⟩
        cases q : H b with
        | none => exact un.keep b o e q (by intro z; exact absurd (show b ∈ ([] : List Addr) from z) (by simp)) (by simp)
        | some u =>
          rcases hO b with z | ⟨ob, xs, z⟩
          · rw [q] at z; cases z
          · have z2 := un.frzs b ob _ z
            obtain ⟨e1, _⟩ := hok b _ z
            obtain ⟨e2, _⟩ := hok' b _ z2
            rw [e] at e1; cases e1
            exact e2
  cases hk : K.lookup a with
  | some o =>
    -- the script is one of the module's own objects
    have e := KX a o hk
    rw [ha] at e
    cases e
    refine core (fun _ => none) (fun _ => .inl rfl) (.inr ⟨_, vs.toArray, _, hk, rfl, rfl, rfl, by rw [List.size_toArray, lenV]; exact hl, by simpa using rv⟩) (fun b u z => by have z' : (none : Option HO) = some u := z; cases z') (fun b z => absurd rfl z) fun z => absurd rfl z
  | none =>
    refine core (fun b => if b = a then some (.frz { cls := .type "list", data := .seq vs.toArray } (.lst (ns.map V.int))) else none) (fun b => ?_) (.inl (.inr ⟨{ cls := .type "list", data := .seq vs.toArray }, if_pos rfl⟩)) (fun b u z => ?_) (fun b z => ?_) fun _ => hk
    · by_cases hb : b = a
      · exact .inr ⟨_, _, if_pos hb⟩
      · exact .inl (if_neg hb)
    · by_cases hb : b = a
      · have z' := (if_pos hb).symm.trans z
        cases z'
        subst hb
        exact ⟨ha, by rw [List.length_map]; exact hl, vs, _, rv, ha⟩
      · have z' := (if_neg hb).symm.trans z
        cases z'
    · by_cases hb : b = a
      · exact hb
      · exact absurd (if_neg hb) z
end L2

namespace L2
open PySem PySem.Spec PyProof.Rows

abbrev KOf {K : PySem.W.Frag} {h : Heap} (_ : K.In h) : PySem.W.Frag := K

/-- the goal that k_head leaves (case hc), from the law's promise. F gives the function object fd (K's own) once, then the promise over every base -/
theorem walk_of {l : PySem.W.OpenLaw} {n k : Nat} {q : Program} {loose : List Str} {XP : (Str → Option Value) → Heap → Prop} {YP : World → Heap → Prop} {d : DefRec} {K : Params → PySem.W.Frag} {CX : World → CXT} {sp : World → Sp} {x : Str}
    (hn : l.most = some n) (hn2 : n ≤ sizeLine) (hdf : d.params.defaults = []) (hr : Room k callerA)
    (hY : ∀ (w : World) (h : Heap), YP w h → (K w.params).In h)
    (F : ∀ (w : World) (mg : Str → Option Value) (fa : Addr) (h : Heap), (K w.params).In h → h.Ns mainGlobals mg → mg d.name = some (.ref fa) →
      ∃ fd : FuncData, (∀ (s : Shared) (u : Value), BindsTo s fd ⟨[u], []⟩ [(x, u)]) ∧
        ∀ base : Heap, (K w.params).In base → base.Ns mainGlobals mg → FnOk l.prog w (K w.params) mg base (CX w) k fa fd [x] (sp w))
    (hsp : ∀ (w : World) (H : Hp) (a : Addr) (ns : List Int), ns.length ≤ n → Only H → SqL (K w.params) H a (ns.map V.int) → sp w [.ref a] H (fun v _ => v = .bl true) fun _ _ _ => False)
    (hCX : ∀ (w : World) (H : Hp) (s : Shared) (e : Value) (s' : Shared), CX w [] H s (fun _ _ _ => False) e s' → False) :
    PySem.W.WalkO q loose XP YP l.row.toRowW d [] (fun f vs => PySem.call f vs) := by
  refine Att.attach_call hn hdf fun w s₀ s₁ mg mb fa o pm cd doc a vs ns G Y ho hd hcd hmg hobj hints hlen hg => ?_
  have KX := hY w _ Y
  obtain ⟨fd, hb, hF⟩ := F w mg fa _ KX G.T.g hmg
  exact law_call KX G.T.g G.T.b G.T.builtins G.T.nolimit hg hobj hints (Nat.le_trans hlen hn2) hr hF hb (fun H hO hS => hsp w H a ns hlen hO hS) fun H e s' => hCX w H s₁ e s'
end L2

/- THE LAST THEOREM (shape; LID, My.* are yours):
   My.Adr: a structure of the addresses that your layer names (classes, functions); My.Txt K t: a structure (Prop) of the equations over K;
   My.txt_mk : {K} {implicit addresses ..} (e1 : nsIn K mainGlobals "law" = some (some (.ref f))) (e2 : K.lookup f = some ⟨oc, od, .func (fnOf "law" "law" params body scope dV kV doc pm an cdv ct), sl⟩) (e3 : codeIn K cdv "law" = true) .. : ∃ t, My.Txt K t

set_option maxRecDepth 100000 in
set_option maxHeartbeats 0 in
theorem PySem.Challenge.cw_LID_holds : PySem.Challenge.rw_LID.Holds := by
  w_on; o_law; k_head; (case hw => w_witness2)
  k_fill
  refine L2.walk_of (l := PySem.Challenge.rw_LID) (n := 63) (k := 40) (x := "script") (CX := fun w => ..) (sp := fun _ => My.sp_law) rfl (by decide) rfl ⟨rfl, by decide, by decide⟩ (fun w h Y => PySem.W.kIn_of Y) ?F ?S ?C
  case F =>
    intro w mg fa h KX G hmg
    have T : ∃ t, My.Txt (L2.KOf KX) t := by
      dsimp only [L2.KOf]                          -- K must stand as «<heap const> w.params» for k_is
      refine' My.txt_mk ?e1 ?e2 ?e3 ..
      (case e1 => PySem.W.k_is)                    -- in the order: a name -> its address -> its object -> its parts
      (case e2 => PySem.W.k_is)
      ..
    obtain ⟨t, T⟩ := T
    have e0 := hmg.symm.trans (PySem.W.mg_of KX G T.law)
    cases e0                                       -- fa is the law's own address
    exact ⟨_, fun s u => .of_eq rfl, fun base kb nb => My.law_fn T kb nb⟩     -- if «.of_eq rfl» comes too early: refine' ⟨_, ?b, fun base kb nb => My.law_fn T kb nb⟩; exact fun s u => .of_eq rfl
  case S => exact fun w H a ns hl hO hS => ..
  case C => exact ..
(the tactic k_is has no namespace: write k_is) -/

/-! SHORT WORDS over the layer: a def of the text, its body, what a loop and a test want. -/
namespace L2
open PySem PySem.Spec PyProof.Rows

/-! ### the text by places -/
/-- the j-th statement of a class's body -/
def inClass (s : Stmt) (j : Nat) : Stmt := match s with
  | .ClassDef _ _ _ body _ _ _ _ _ _ _ => body.getD j (.Pass ⟨0, 0, 0, 0⟩)
  | _ => .Pass ⟨0, 0, 0, 0⟩
def defArgs (s : Stmt) : Arguments := match s with
  | .FunctionDef _ a _ _ _ _ _ _ _ _ => a
  | _ => { posonlyargs := [], args := [], vararg := none, kwonlyargs := [], kw_defaults := [], kwarg := none, defaults := [] }
def defBody (s : Stmt) : List Stmt := match s with
  | .FunctionDef _ _ b _ _ _ _ _ _ _ => b
  | _ => []
def defScope (s : Stmt) : Scope := match s with
  | .FunctionDef _ _ _ _ _ _ sc _ _ _ => sc
  | _ => { kind := .function, names := [], isGenerator := false, isCoroutine := false }

/-! ### no exception leaves a def -/
abbrev CX0 : CXT := fun _ _ _ _ _ _ => False
abbrev E0 : XK := fun _ _ _ => False
theorem pass0 {X : Cx} : Passes CX0 X E0 := fun _ _ _ _ _ _ _ h => h.elim

/-! ### a def (or method) of the text as it stands behind the top -/
structure Fun (K : PySem.W.Frag) (x qual : Str) (st : Stmt) (f : Addr) (fd : FuncData) : Prop where
  ex : ∃ (oc : Value) (od : Option Addr) (kV doc pm : Value) (an : Option Addr) (cdv ct : Value) (osl : Array (Option Value)),
    fd = PySem.W.fnOf x qual (defArgs st) (defBody st) (defScope st) .none kV doc pm an cdv ct ∧ K.lookup f = some ⟨oc, od, .func fd, osl⟩ ∧ PySem.W.codeIn K cdv qual = true
  kp : PySem.W.keepIn K (.ref f) = true
section
variable {P : Program} {w : World} {K : PySem.W.Frag} {mg : Str → Option Value} {base : Heap}
/-- THE RULE for a def: its body as a term of rules, and the reading of that term -/
theorem Fun.ok {x qual : Str} {st : Stmt} {f : Addr} {fd : FuncData} {N ps : List Str} {k : Nat} {sp : Sp} (F : Fun K x qual st f fd) (S : FnScope N ps (defScope st)) (len : ∀ vs H Q E, sp vs H Q E → vs.length = ps.length)
    (hbody : ∀ (cdv : Value) (A : Around) (outer : List Env) (s : Shared) (H : Hp) (vs : List V) (Q : VK) (E : XK), Room k (A.deeper (envOfC qual (defScope st) s.heap.objs.size f cdv)) → sp vs H Q E →
      ∃ t, PSs (cxOf CX0 P w K mg base N qual (defScope st) f cdv A outer s H E).nox (defBody st) t ∧ t { nx := fun _ H' => Q .non H', rt := Q } (start N vs) H) : FnOk P w K mg base CX0 (k + 1) f fd ps sp := by
  obtain ⟨oc, od, kV, doc, pm, an, cdv, ct, osl, rfl, lk, hcd⟩ := F.ex
  refine fn_of lk hcd S len fun A outer s H vs Q E hr hsp => ?_
  obtain ⟨t, h, q⟩ := hbody cdv A outer s H vs Q E hr hsp
  exact ⟨t, h.nox, q⟩
/-- how its arguments bind (no defaults): h is «fun _ _ _ _ _ _ us hl => match us, hl with | [_, _], _ => rfl», one _ a parameter -/
theorem Fun.binds {x qual : Str} {st : Stmt} {f : Addr} {fd : FuncData} {ps : List Str} (F : Fun K x qual st f fd)
    (h : ∀ (kV doc pm : Value) (an : Option Addr) (cdv ct : Value) (us : List Value), us.length = ps.length → bindArgs (PySem.W.fnOf x qual (defArgs st) (defBody st) (defScope st) .none kV doc pm an cdv ct) ⟨us, []⟩ = pure (ps.zip us)) : Binds K fd ps [] := by
  obtain ⟨oc, od, kV, doc, pm, an, cdv, ct, osl, rfl, lk, hcd⟩ := F.ex
  exact .all (h kV doc pm an cdv ct)
theorem fun_mk {x qual : Str} {st : Stmt} {f : Addr} {oc : Value} {od an : Option Addr} {osl : Array (Option Value)} {kV doc pm cdv ct : Value} (l : K.lookup f = some ⟨oc, od, .func (PySem.W.fnOf x qual (defArgs st) (defBody st) (defScope st) .none kV doc pm an cdv ct), osl⟩)
    (c : PySem.W.codeIn K cdv qual = true) (k : PySem.W.keepIn K (.ref f) = true) : Fun K x qual st f (PySem.W.fnOf x qual (defArgs st) (defBody st) (defScope st) .none kV doc pm an cdv ct) := ⟨⟨oc, od, kV, doc, pm, an, cdv, ct, osl, rfl, l, c⟩, k⟩
end
theorem small1000 {n : Nat} (h : n ≤ 1000) : n < sizeLine := Nat.lt_of_le_of_lt h (by decide)

/-! ### expressions in short: the name that stands in the i-th slot -/
section
variable {X : Cx}
theorem pv (i : Nat) {x : Str} {pos : Pos} (hN : X.N[i]? = some x := by rfl) (hv : Vis X.env.scope x := by first | exact Or.inl rfl | exact Or.inr (Or.inl rfl) | exact Or.inr (Or.inr rfl)) (hd : (x == ("__debug__" : Str)) = false := by decide)
    (hcd : (x == ("__classdict__" : Str)) = false := by decide) : PE X (.Name x pos) (tVar i) := pe_var hN hv hd hcd
end

/-! ### tests -/
theorem iteF {A B : Prop} (h : B) : if false = true then A else B := by
  rw [if_neg Bool.false_ne_true]
  exact h
theorem iteT {A B : Prop} (h : A) : if true = true then A else B := by
  rw [if_pos rfl]
  exact h
theorem ite2 {c A B : Prop} [Decidable c] (h1 : c → A) (h2 : ¬ c → B) : if c then A else B := by
  by_cases h : c
  · rw [if_pos h]
    exact h1 h
  · rw [if_neg h]
    exact h2 h
/-! ### heaps -/
/-- all that was tracked is as it was -/
def Same (H H' : Hp) : Prop := ∀ b o, H b = some o → H' b = some o
theorem Same.refl (H : Hp) : Same H H := fun _ _ h => h
theorem Same.trans {H H1 H2 : Hp} (a : Same H H1) (b : Same H1 H2) : Same H H2 := fun c o h => b c o (a c o h)
theorem Same.free {H H' : Hp} (e : Same H H') {l : Addr} (h : H' l = Option.none) : H l = Option.none := by
  cases q : H l with
  | none => rfl
  | some o =>
    rw [e l o q] at h
    cases h
theorem Same.seq {K : PySem.W.Frag} {H H' : Hp} {a : Addr} {xs : List V} (e : Same H H') (h : SqL K H a xs) : SqL K H' a xs := by
  rcases h with (h | ⟨o, h⟩) | h
  · exact .inl (.inl (e _ _ h))
  · exact .inl (.inr ⟨o, e _ _ h⟩)
  · exact .inr h

end L2

namespace L2
open PySem PySem.Spec PyProof.Rows
/-! ### an error that flies keeps what is behind it -/
section
variable {M : Model} {A : Around} {E : Value → Shared → Prop} {s : Shared}
theorem note_core {B : Heap} {env : Env} {outer : List Env} {L e : Addr} {oe : Obj} {vs : Array Value} {top a0 : Value} {nx : Bool} {Q : Unit → Shared → Prop}
    (fr : A.frames = some (env :: outer)) (ff : s.heap.FunFrames B (env :: outer)) (fL : env.frame = some L) (eo : s.heap.get? e = some oe) (st : B.StaysIn s.heap) (nb : B.get? e = none)
    (dv : oe.data = .fields vs) (v0 : vs[0]? = some a0) (v2 : vs[2]? = some .none)
    (q : ∀ h', Heap.HeldW B (env :: outer) e oe.cls a0 L h' → s.heap.UpToSlots h' → NoCtx h' e → Q () { s with heap := h' }) :
    wpAny M A (frameOf env >>= fun fv => entryPlaceOf L nx >>= fun pl => EntryCells.newEntry top fv .none (rawInt L) .none pl >>= fun t => setField (.ref e) 1 t) Q E s := by
  have s1 : 1 < vs.size := Nat.lt_of_lt_of_le (by decide) (Nat.le_of_lt (Array.getElem?_eq_some_iff.mp v2).1)
  have ne : e ∉ (env :: outer).filterMap (·.frame) := fun z => by
    obtain ⟨_, o, eo', nf⟩ := ff.mem z
    rw [eo] at eo'
    cases eo'
    exact nf vs dv
  refine wpAny_bind (wpAny_frameOf_fun fr ff fL fun g so => wpAny_bind (wpAny_entryPlaceOf fun pl ip => ?_))
  unfold EntryCells.newEntry newFields
  refine wpAny_bind (wpAny_newObj_type ?_ (ip.sizeOk5 _ _ _ _ _))
  have eg : g.get? e = some oe := (so.2.1 e ne).trans eo
  have ep := Heap.get?_push_of_some (h := g) { cls := .type "traceback", dict := none, data := .fields ([top, .ref L, .none, rawInt L, .none] ++ (if pl.isEmpty then List.replicate 6 Value.none else pl)).toArray } eg
  refine wpAny_setField ep dv s1 ?_
  have tne : g.objs.size ≠ e := fun z => absurd (Heap.lt_size eg) (by rw [z]; exact Nat.lt_irrefl _)
  have d1 := Obj.data_mapFields dv (fun a => a.setIfInBounds 1 (Value.ref g.objs.size))
  have e1 := Heap.get?_update_self (Obj.mapFields fun a => a.setIfInBounds 1 (Value.ref g.objs.size)) ep (Obj.isFreed_of_fields d1)
  have oth : ∀ b o, b ≠ e → g.get? b = some o → ((g.push { cls := .type "traceback", dict := none, data := .fields ([top, .ref L, .none, rawInt L, .none] ++ (if pl.isEmpty then List.replicate 6 Value.none else pl)).toArray }).update e (Obj.mapFields fun a => a.setIfInBounds 1 (Value.ref g.objs.size))).get? b = some o := fun b o hb eb => by
    rw [Heap.get?_update_other _ _ (Ne.symm hb)]
    exact Heap.get?_push_of_some _ eb
  have nofs : ∀ b o, s.heap.get? b = some o → (∀ us, o.data ≠ .fields us) → b ≠ e := fun b o eb nf z => by
    rw [z, eo] at eb
    cases eb
    exact nf vs dv
  have sg : B.StaysIn g := fun b o eb => (so.2.1 b fun z => by rw [(ff.mem z).1] at eb; cases eb).trans (st b o eb)
  refine q _ ⟨fun b o eb => oth b o (fun z => by rw [z, nb] at eb; cases eb) (sg b o eb), nb, ff.of_keeps fun b o eb nf => ?_, ?_⟩ (fun b o eb nf => ?_) ⟨_, _, e1, d1, by rw [Array.getElem?_setIfInBounds_ne (by decide)]; exact v2⟩
  · obtain ⟨sl, eb'⟩ := so.2.2 b o eb
    exact ⟨_, oth b _ (nofs b o eb nf) eb', rfl⟩
  · have eT := (Heap.get?_update_other (g.push { cls := .type "traceback", dict := none, data := .fields ([top, .ref L, .none, rawInt L, .none] ++ (if pl.isEmpty then List.replicate 6 Value.none else pl)).toArray }) (Obj.mapFields fun a => a.setIfInBounds 1 (Value.ref g.objs.size)) (Ne.symm tne)).trans (Heap.get?_push_size g rfl)
    exact ⟨_, _, g.objs.size, _, _, e1, ⟨Obj.cls_mapFields _ _, by rw [Array.getElem?_setIfInBounds_ne (by decide)]; exact v0⟩, d1, by simp [s1], sg.fresh, tne, eT, rfl, by simp⟩
  · obtain ⟨sl, eb'⟩ := so.2.2 b o eb
    exact ⟨sl, oth b _ (nofs b o eb nf) eb'⟩
/-- the frame is noted, the error flies already -/
theorem note_ctx {B : Heap} {env : Env} {outer : List Env} {L e : Addr} {cls a0 : Value} {Q : Unit → Shared → Prop} (fr : A.frames = some (env :: outer)) (fL : env.frame = some L) (fl : Heap.FlyingW B (env :: outer) e cls a0 s.heap) (n : NoCtx s.heap e)
    (q : ∀ h', Heap.HeldW B (env :: outer) e cls a0 L h' → s.heap.UpToSlots h' → NoCtx h' e → Q () { s with heap := h' }) : wpAny M A (noteFrame (.ref e) env) Q E s := by
  obtain ⟨st, nb, ff, oe, vs, T, oT, ts, eo, ⟨hc, v0⟩, dv, v1, nT, hTe, eT, dT, t3⟩ := fl
  obtain ⟨oe', vs', eo', dv', v2⟩ := n
  rw [eo] at eo'
  cases eo'
  rw [dv] at dv'
  cases dv'
  subst hc
  unfold noteFrame
  simp only [fL]
  refine wpAny_bind (wpAny_field eo dv v1 ?_)
  rw [if_pos (show (Value.ref T != Value.none) = true by simp)]
  refine wpAny_bind (wpAny_field eT dT t3 ?_)
  rw [if_neg (show ¬ (Value.none == rawInt L) = true by simp [rawInt])]
  refine wpAny_bind (wpAny_setField eT dT (Array.getElem?_eq_some_iff.mp t3).1 ?_)
  have oth : ∀ b, b ≠ T → (s.heap.update T (Obj.mapFields fun a => a.setIfInBounds 3 Value.none)).get? b = s.heap.get? b := fun b hb => Heap.get?_update_other _ _ (Ne.symm hb)
  have nofs : ∀ b o, s.heap.get? b = some o → (∀ us, o.data ≠ .fields us) → b ≠ T := fun b o eb nf z => by
    rw [z, eT] at eb
    cases eb
    exact nf ts dT
  refine note_core (s := { s with heap := s.heap.update T (Obj.mapFields fun a => a.setIfInBounds 3 Value.none) }) fr (ff.of_keeps fun b o eb nf => ⟨o, (oth b (nofs b o eb nf)).trans eb, rfl⟩) fL ((oth e (Ne.symm hTe)).trans eo)
    (fun b o eb => (oth b fun z => by rw [z, nT] at eb; cases eb).trans (st b o eb)) nb dv v0 v2 fun h' hw up nc => q h' hw (fun b o eb nf => up b o ((oth b (nofs b o eb nf)).trans eb) nf) nc
/-- the frame is noted, the error is new -/
theorem note_ctx0 {B : Heap} {env : Env} {outer : List Env} {L e : Addr} {oe : Obj} {vs : Array Value} {a0 : Value} {Q : Unit → Shared → Prop} (fr : A.frames = some (env :: outer)) (ff : s.heap.FunFrames B (env :: outer)) (fL : env.frame = some L) (eo : s.heap.get? e = some oe) (st : B.StaysIn s.heap) (nb : B.get? e = none)
    (dv : oe.data = .fields vs) (v1 : vs[1]? = some .none) (v0 : vs[0]? = some a0) (v2 : vs[2]? = some .none)
    (q : ∀ h', Heap.HeldW B (env :: outer) e oe.cls a0 L h' → s.heap.UpToSlots h' → NoCtx h' e → Q () { s with heap := h' }) : wpAny M A (noteFrame (.ref e) env) Q E s := by
  unfold noteFrame
  simp only [fL]
  refine wpAny_bind (wpAny_field eo dv v1 ?_)
  rw [if_neg (by decide)]
  exact note_core fr ff fL eo st nb dv v0 v2 q
theorem flight_ctx {B : Heap} {l : List Env} {e : Addr} {cls a0 x3 : Value} {Q : Unit → Shared → Prop} (st : B.StaysIn s.heap) (nb : B.get? e = none) (ff : s.heap.FunFrames B l) (tr : s.heap.TracedAtW B e cls a0 x3) (n : NoCtx s.heap e)
    (q : ∀ h', Heap.FlyingW B l e cls a0 h' → s.heap.UpToSlots h' → NoCtx h' e → Q () { s with heap := h' }) : wpAny M A (setFlight (.ref e) none) Q E s := by
  obtain ⟨oe, vs, T, oT, ts, eo, hc, dv, v1, nT, hTe, eT, dT, t3⟩ := tr
  have z3 : 3 < ts.size := (Array.getElem?_eq_some_iff.mp t3).1
  unfold setFlight
  refine wpAny_bind (wpAny_field eo dv v1 ?_)
  rw [if_pos (show (Value.ref T != Value.none) = true by simp)]
  refine wpAny_setField eT dT z3 ?_
  show Q () { s with heap := s.heap.update T (Obj.mapFields fun a => a.setIfInBounds 3 Value.none) }
  have oth : ∀ b, b ≠ T → (s.heap.update T (Obj.mapFields fun a => a.setIfInBounds 3 Value.none)).get? b = s.heap.get? b := fun b hb => Heap.get?_update_other _ _ (Ne.symm hb)
  have nofs : ∀ b o, s.heap.get? b = some o → (∀ us, o.data ≠ .fields us) → b ≠ T := fun b o eb nf z => by
    rw [z, eT] at eb
    cases eb
    exact nf ts dT
  have d3 := Obj.data_mapFields dT (fun a => a.setIfInBounds 3 Value.none)
  refine q _ ⟨fun b o eb => (oth b fun z => by rw [z, nT] at eb; cases eb).trans (st b o eb), nb, ff.of_keeps fun b o eb nf => ⟨o, (oth b (nofs b o eb nf)).trans eb, rfl⟩,
    ⟨oe, vs, T, _, _, (oth e (Ne.symm hTe)).trans eo, hc, dv, v1, nT, hTe, Heap.get?_update_self _ eT (Obj.isFreed_of_fields d3), d3, by simp [z3]⟩⟩ (fun b o eb nf => ⟨o.slots, (oth b (nofs b o eb nf)).trans eb⟩) (n.keeps fun o eb => (oth e (Ne.symm hTe)).trans eb)
theorem leaves_made {B h : Heap} {env : Env} {outer : List Env} {L e : Addr} {cls : Value} {args : List Value} {Q : Unit → Shared → Prop} (fr : A.frames = some (env :: outer)) (fL : env.frame = some L) (st : B.StaysIn h) (ff : h.FunFrames B (env :: outer)) (hx : Heap.MadeExcOf h s.heap e cls args)
    (q : ∀ h' a0, Heap.FlyingW B outer e cls a0 h' → s.heap.UpToSlots h' → NoCtx h' e → Q () { s with heap := h' }) : wpAny M A (leaving env (.ref e)) Q E s := by
  obtain ⟨t, eo, _, _⟩ := hx.there
  have nb : B.get? e = none := by
    cases z : B.get? e with
    | none => rfl
    | some o => have := st e o z; rw [hx.new] at this; cases this
  unfold leaving
  refine wpAny_bind (note_ctx0 (a0 := .ref t) fr (ff.of_keeps fun b o eb _ => ⟨o, hx.keeps b o eb, rfl⟩) fL eo (fun b o eb => hx.keeps b o (st b o eb)) nb rfl rfl rfl rfl fun h1 w1 u1 n1 => ?_)
  refine flight_ctx (s := { s with heap := h1 }) w1.1 w1.2.1 w1.2.2.1 w1.2.2.2 n1 fun h2 ⟨k1, k2, k3, k4⟩ u2 n2 => q h2 (.ref t) ⟨k1, k2, k3.2.2, k4⟩ (u1.trans u2) n2
end
end L2

namespace L2
open PySem PySem.Spec PyProof.Rows

section
variable {X : Cx}
/-! ### more of texts, truths, kinds -/
theorem op_is_bl : OpR X (compareOp .Is) (fun x y H Q => ∃ c d, x = .bl c ∧ y = .bl d ∧ Q (.bl (c == d)) H) := by
  intro pins s σ H x y v u Q I rx ry h
  obtain ⟨c, d, rfl, rfl, q⟩ := h
  cases rx
  cases ry
  exact is_bool ⟨.bl _, H, I, rfl, q⟩
/-- == of two lists of flat items -/
def eqVs : List V → List V → Bool
  | [], [] => true
  | x :: xs, y :: ys => eqV x y && eqVs xs ys
  | _, _ => false
end
end L2

namespace L2
open PySem PySem.Spec PyProof.Rows
/-! ### what a comprehension's block sees of the names around it -/
def cloOf (env : Env) : List (Str × NameKind) → List (Str × Addr) → List (Str × Addr)
  | [], cs => cs
  | (n, k) :: r, cs => cloOf env r (if k == .free then match env.cells.lookup n with | some a => (n, a) :: cs | none => cs else cs)
theorem closureFor_free {scope : Scope} {env : Env} (h : ∀ y ∈ scope.names, y.2 = .free → ∃ c, env.cells.lookup y.1 = some c) : closureFor scope env = pure (cloOf env scope.names []) := by
  have key : ∀ (l : List (Str × NameKind)) (cs : List (Str × Addr)), (∀ y ∈ l, y.2 = .free → ∃ c, env.cells.lookup y.1 = some c) →
      (forIn l cs (fun (x : Str × NameKind) (r : List (Str × Addr)) => (if (x.2 == NameKind.free) = true then (do let a ← cellOf env x.1; pure (ForInStep.yield ((x.1, a) :: r))) else pure (ForInStep.yield r) : Sem (ForInStep (List (Str × Addr)))))) = (pure (cloOf env l cs) : Sem _) := by
    intro l
    induction l with
    | nil => intro cs _; rfl
    | cons y r ih =>
      intro cs hy
      obtain ⟨n, k⟩ := y
      have hr : ∀ z ∈ r, z.2 = .free → ∃ c, env.cells.lookup z.1 = some c := fun z hz => hy z (List.mem_cons_of_mem _ hz)
      rw [List.forIn_cons]
      by_cases hk : (k == NameKind.free) = true
      · obtain ⟨c, hc⟩ := hy (n, k) List.mem_cons_self (by simpa using hk)
        have e : cellOf env n = pure c := by unfold cellOf; rw [hc]
        simp only [hk, if_true, e, pure_bind, cloOf, hc]
        exact ih _ hr
      · have hk' : (k == NameKind.free) = false := by simpa using hk
        simp only [hk', Bool.false_eq_true, if_false, pure_bind, cloOf]
        exact ih _ hr
  have e : closureFor scope env = (forIn scope.names ([] : List (Str × Addr)) (fun (x : Str × NameKind) (r : List (Str × Addr)) => (if (x.2 == NameKind.free) = true then (do let a ← cellOf env x.1; pure (ForInStep.yield ((x.1, a) :: r))) else pure (ForInStep.yield r) : Sem (ForInStep (List (Str × Addr))))) >>= fun cs => pure cs) := by
    unfold closureFor
    rfl
  rw [e, key scope.names [] h]
  all_goals rfl
theorem cloOf_sub {env : Env} : ∀ (l : List (Str × NameKind)) (cs : List (Str × Addr)), (∀ p ∈ cs, env.cells.lookup p.1 = some p.2) → ∀ p ∈ cloOf env l cs, env.cells.lookup p.1 = some p.2
  | [], cs, h, p, hp => h p hp
  | (n, k) :: r, cs, h, p, hp => by
    unfold cloOf at hp
    refine cloOf_sub r _ ?_ p hp
    split
    · split
      · rename_i a ea
        intro q hq
        rcases List.mem_cons.mp hq with e | hq
        · rw [e]; exact ea
        · exact h q hq
      · exact h
    · exact h
theorem cloOf_keeps {env : Env} : ∀ (l : List (Str × NameKind)) (cs : List (Str × Addr)) {y : Str}, (∃ p ∈ cs, p.1 = y) → ∃ p ∈ cloOf env l cs, p.1 = y
  | [], cs, y, h => h
  | (n, k) :: r, cs, y, ⟨p, hp, e⟩ => by
    unfold cloOf
    refine cloOf_keeps r _ ?_
    split
    · split
      · exact ⟨p, List.mem_cons_of_mem _ hp, e⟩
      · exact ⟨p, hp, e⟩
    · exact ⟨p, hp, e⟩
theorem cloOf_has {env : Env} : ∀ (l : List (Str × NameKind)) (cs : List (Str × Addr)) {y : Str} {c : Addr}, (y, NameKind.free) ∈ l → env.cells.lookup y = some c → ∃ p ∈ cloOf env l cs, p.1 = y
  | (n, k) :: r, cs, y, c, hm, hc => by
    unfold cloOf
    rcases List.mem_cons.mp hm with e | hm
    · cases e
      refine cloOf_keeps r _ ?_
      rw [if_pos (by rfl), hc]
      exact ⟨_, List.mem_cons_self, rfl⟩
    · exact cloOf_has r _ hm hc
theorem lookup_of_mem {α : Type} : ∀ {l : List (Str × α)} {p : Str × α}, p ∈ l → ∃ c, l.lookup p.1 = some c
  | q :: l, p, h => by
    obtain ⟨n, a⟩ := q
    rw [List.lookup_cons]
    split
    · exact ⟨_, rfl⟩
    · rename_i hne
      rcases List.mem_cons.mp h with e | h
      · subst e; simp at hne
      · exact lookup_of_mem h
theorem cloOf_lookup {env : Env} {l : List (Str × NameKind)} {y : Str} {c : Addr} (hm : (y, NameKind.free) ∈ l) (hc : env.cells.lookup y = some c) : (cloOf env l []).lookup y = some c := by
  obtain ⟨p, hp, e⟩ := cloOf_has l [] hm hc
  obtain ⟨c', e'⟩ := lookup_of_mem hp
  rw [e] at e'
  have q := cloOf_sub l [] (fun _ z => nomatch z) _ (PySem.mem_of_lookup e')
  rw [hc] at q
  rw [e']
  exact q.symm
theorem cloOf_lookup_sub {env : Env} {l : List (Str × NameKind)} {y : Str} {c : Addr} (h : (cloOf env l []).lookup y = some c) : env.cells.lookup y = some c :=
  cloOf_sub l [] (fun _ z => nomatch z) _ (PySem.mem_of_lookup h)
theorem relabel_free {env : Env} : ∀ {names : List (Str × NameKind)} {x : Str} {k : NameKind}, (names.map fun (n, k) => if (k == NameKind.free && env.scope.kind == .function && env.kindOf n == some .cell) then (n, NameKind.cell) else (n, k)).lookup x = some k →
    ∃ k', names.lookup x = some k' ∧ (k' = k ∨ k' = .free)
  | [], _, _, h => by simp at h
  | (n, k0) :: r, x, k, h => by
    have ih := @relabel_free env r x k
    have h : List.lookup x ((if (k0 == NameKind.free && env.scope.kind == .function && env.kindOf n == some .cell) = true then (n, NameKind.cell) else (n, k0)) :: _) = some k := h
    cases hx : x == n with
    | true =>
      refine ⟨k0, by simp only [List.lookup_cons, hx], ?_⟩
      by_cases hc : (k0 == NameKind.free && env.scope.kind == .function && env.kindOf n == some .cell) = true
      · refine .inr ?_
        simp only [Bool.and_eq_true] at hc
        exact beq_iff_eq.mp hc.1.1
      · rw [if_neg hc] at h
        simp only [List.lookup_cons, hx] at h
        exact .inl (Option.some.inj h)
    | false =>
      have h2 : List.lookup x (r.map fun (n, k) => if (k == NameKind.free && env.scope.kind == .function && env.kindOf n == some .cell) then (n, NameKind.cell) else (n, k)) = some k := by
        by_cases hc : (k0 == NameKind.free && env.scope.kind == .function && env.kindOf n == some .cell) = true
        · rw [if_pos hc] at h; simp only [List.lookup_cons, hx] at h; exact h
        · rw [if_neg hc] at h; simp only [List.lookup_cons, hx] at h; exact h
      obtain ⟨k', e1, e2⟩ := ih h2
      exact ⟨k', by simp only [List.lookup_cons, hx]; exact e1, e2⟩
theorem relabel_of_free {env : Env} : ∀ {names : List (Str × NameKind)} {x : Str}, names.lookup x = some .free →
    (names.map fun (n, k) => if (k == NameKind.free && env.scope.kind == .function && env.kindOf n == some .cell) then (n, NameKind.cell) else (n, k)).lookup x = some .cell ∨
    (names.map fun (n, k) => if (k == NameKind.free && env.scope.kind == .function && env.kindOf n == some .cell) then (n, NameKind.cell) else (n, k)).lookup x = some .free
  | [], _, h => by simp at h
  | (n, k0) :: r, x, h => by
    have ih := @relabel_of_free env r x
    show List.lookup x ((if (k0 == NameKind.free && env.scope.kind == .function && env.kindOf n == some .cell) = true then (n, NameKind.cell) else (n, k0)) :: _) = some .cell ∨ List.lookup x ((if (k0 == NameKind.free && env.scope.kind == .function && env.kindOf n == some .cell) = true then (n, NameKind.cell) else (n, k0)) :: _) = some .free
    cases hx : x == n with
    | true =>
      simp only [List.lookup_cons, hx] at h
      by_cases hc : (k0 == NameKind.free && env.scope.kind == .function && env.kindOf n == some .cell) = true
      · rw [if_pos hc]; simp only [List.lookup_cons, hx]; simp
      · rw [if_neg hc]; simp only [List.lookup_cons, hx]; exact .inr (by rw [Option.some.inj h])
    | false =>
      simp only [List.lookup_cons, hx] at h
      by_cases hc : (k0 == NameKind.free && env.scope.kind == .function && env.kindOf n == some .cell) = true
      · rw [if_pos hc]; simp only [List.lookup_cons, hx]; exact ih h
      · rw [if_neg hc]; simp only [List.lookup_cons, hx]; exact ih h

/-! ### the signs of a text, walked -/
/-- the context of the block: it begins at s, H, the iterator's records at fp -/
def Cx.blk (X : Cx) (N' : List Str) (scope : Scope) (C : Addr) (fp : List Addr) (s : Shared) (H : Hp) : Cx :=
  { X with N := N', s₀ := s, H₀ := H, env := compEnvC scope (cloOf X.env scope.names []) C X.env, outer := X.stack, ex := fp, fn := fun _ => false, pn := [], xe := fun _ _ => False }
/-- the block's names: its own first, then those of the def around it, at the slots fv -/
structure BlkScope (N : List Str) (sc scope : Scope) (x : Str) (N' : List Str) (fv : List Nat) : Prop where
  nocell : ∀ y ∈ scope.names, y.2 ≠ .cell
  kind : scope.kind = .function
  names : ∀ y ∈ scope.names, y.2 = .local → scope.names.lookup y.1 = some .local
  loc : scope.names.lookup x = some .local
  free : ∀ y ∈ scope.names, y.2 = .free → sc.names.lookup y.1 = some .cell ∨ sc.names.lookup y.1 = some .free
  nd : N'.Nodup
  hd : N'[0]? = some x
  len : N'.length = fv.length + 1
  at_ : ∀ j, j < fv.length → (N'[j + 1]?).isSome = true ∧ N'[j + 1]? = (fv[j]?).bind (fun i => N[i]?) ∧ (N'[j + 1]?).bind (fun y => scope.names.lookup y) = some .free
def blkVals (fv : List Nat) (σ : St) : St := fv.map fun k => (σ[k]?).join
/-- the tests of a walking -/
abbrev testsOf (ifs : List Expr) (env : Env) : Sem Bool := forIn ifs true fun c r => if r = true then do let ok ← isTrue c env (eval c env); pure (ForInStep.yield ok) else pure (ForInStep.yield r)
def PTs (X : Cx) (ifs : List Expr) (t : TT) : Prop :=
  ∀ (pins : List (Addr × Obj)) (s : Shared) (σ : St) (H : Hp) (Q : Bool → Hp → Prop), Inv X pins σ H s → t σ H Q → wpAny (model X.prog X.w) X.A (testsOf ifs X.env) (TP X pins σ Q) X.xe s
def tAll : TT := fun _ H Q => Q true H
theorem pts_nil {X : Cx} : PTs X [] tAll := fun pins s σ H Q I h => wpAny_pure ⟨H, I, h⟩
theorem pts_one {X : Cx} {c : Expr} {t : TT} (hc : PT X c t) : PTs X [c] t := by
  intro pins s σ H Q I h
  have e : testsOf [c] X.env = (isTrue c X.env (eval c X.env) >>= fun ok => pure ok) := by
    unfold testsOf
    rw [List.forIn_cons]
    simp
  rw [e]
  exact wpAny_bind (thn (hc pins s σ H Q I h) fun b s1 q => wpAny_pure q)
def tLC (wi : TI) (fv : List Nat) (tt : TT) (te : TE) : TE := fun σ H Q => wi σ H fun J H1 => ∃ (W : Nat → List V → Hp → Prop) (n : Nat), W 0 [] H1 ∧ n ≤ sizeLine ∧ ∀ i ys H, W i ys H →
  (J.stop i H ∧ ∀ p, H p = none → Q (.ref p) (upd H p (.lst ys))) ∨
  (J.go i H ∧ i < n ∧ ∀ x H', J.yld i H x H' → tt (some x :: blkVals fv σ) H' fun c H2 => if c = true then te (some x :: blkVals fv σ) H2 fun y H3 => W (i + 1) (ys ++ [y]) H3 else W (i + 1) ys H2)

section
variable {X : Cx} {N' : List Str} {scope : Scope} {x : Str} {fv : List Nat}
theorem blk_inv {pins : List (Addr × Obj)} {σ : St} {H : Hp} {s : Shared} {fp : List Addr} {C : Addr} {h1 : Heap} {m : Str → Option Value} {tk : Nat} {pl : List (Addr × Obj)} (S : BlkScope X.N X.env.scope scope x N' fv) (I : Inv X pins σ H s)
    (hf : ∀ b ∈ fp, FpOk X pins H b) (hfo : ∀ b ∈ fp, b < s.heap.objs.size) (hC : s.heap.objs.size ≤ C) (kp : ∀ b o, s.heap.get? b = some o → h1.get? b = some o) (hn : h1.Ns C m)
    (hpl : ∀ p ∈ pl, h1.get? p.1 = some p.2 ∧ s.heap.objs.size ≤ p.1 ∧ p.1 ≠ C ∧ ∀ v, p.2.data ≠ .cell v) :
    Inv (X.blk N' scope C fp s H) pl (none :: blkVals fv σ) H { s with heap := h1, toks := tk } := by
  have clo : ∀ y c, (cloOf X.env scope.names []).lookup y = some c → X.env.cells.lookup y = some c := fun y c e => cloOf_lookup_sub e
  have cell : ∀ y c, (cloOf X.env scope.names []).lookup y = some c → ∃ v, s.heap.IsCell c v := fun y c e => I.cell y c (clo y c e)
  have lt : ∀ y c, (cloOf X.env scope.names []).lookup y = some c → c < s.heap.objs.size := fun y c e => by obtain ⟨v, q⟩ := cell y c e; exact q.lt
  have kc : ∀ c v, s.heap.IsCell c v → h1.IsCell c v := fun c v q => by obtain ⟨o, e, d⟩ := q; exact ⟨o, kp _ _ e, d⟩
  refine ⟨⟨I.ok.mod, S.kind, I.ok.glob, I.ok.blt, hC, fun y z c e1 e2 => I.ok.inj y z c (clo y c e1) (clo z c e2), fun y hy => ?_, fun y c e => ?_, I.ok.hd, I.ok.frames, .inl rfl, fun b hb => ⟨?_, fun y c e z => (hf b hb).2.2.2.2.1 y c (clo y c e) z⟩, fun b o e => I.bs b o e, Nat.le_trans I.ok.bsz I.sz, fun b o e hb => ?_, fun b hb hb2 => ?_, I.stack, I.stkFree⟩,
    rfl, I.bare, Un.kept kp, ⟨m, hn, fun i y v h1' h2 h3 => ?_⟩, fun y c e => ?_, I.hok.fresh hC, fun y c e => I.freeC y c (clo y c e), fun p hp => ?_, I.hok.kept kp, ?_⟩
  · have hy' : ∃ k, scope.names.lookup y = some k ∧ k = .free := by
      rcases hy with hy | hy
      · obtain ⟨k', e1, e2⟩ := relabel_free (env := X.env) (names := scope.names) (x := y) (k := .cell) hy
        rcases e2 with e2 | e2
        · exact absurd e2 (S.nocell _ (PySem.mem_of_lookup e1))
        · exact ⟨k', e1, e2⟩
      · obtain ⟨k', e1, e2⟩ := relabel_free (env := X.env) (names := scope.names) (x := y) (k := .free) hy
        rcases e2 with e2 | e2
        · exact ⟨k', e1, e2⟩
        · exact ⟨k', e1, e2⟩
    obtain ⟨k, e, rfl⟩ := hy'
    have hm := PySem.mem_of_lookup e
    obtain ⟨c, hc⟩ := I.ok.has y (S.free _ hm rfl)
    exact ⟨c, cloOf_lookup hm hc⟩
  · exact (Bool.false_ne_true (show false = true from e)).elim
  · exact Nat.ne_of_lt (Nat.lt_of_lt_of_le (hfo b hb) hC)
  · have e' := e
    rcases (hf b hb).2.2.2.1 with z | z
    · exact I.ok.noex b o e z
    · exact absurd (Nat.lt_of_lt_of_le (Heap.lt_size e) (Nat.le_trans I.ok.bsz z)) (Nat.lt_irrefl _)
  · have q := I.stkSub b hb2
    rcases List.mem_cons.mp q with z | z
    · exact (hf b hb).2.1 z
    · exact (hf b hb).2.2.1 z
  · cases i with
    | zero =>
      have z : (none : Option V) = some v := Option.some.inj h2
      cases z
    | succ j =>
      have h2' : (blkVals fv σ)[j]? = some (some v) := h2
      unfold blkVals at h2'
      rw [List.getElem?_map] at h2'
      cases ej : fv[j]? with
      | none => rw [ej] at h2'; cases h2'
      | some k =>
        rw [ej] at h2'
        have h4 : (σ[k]?).join = some v := Option.some.inj h2'
        have h5 : σ[k]? = some (some v) := by
          cases es : σ[k]? with
          | none => rw [es] at h4; cases h4
          | some w' => rw [es] at h4; rw [show w' = some v from h4]
        have hj : j < fv.length := (List.getElem?_eq_some_iff.mp ej).1
        obtain ⟨_, a1, a2⟩ := S.at_ j hj
        have h1'' : N'[j + 1]? = some y := h1'
        rw [h1''] at a1 a2
        rw [ej] at a1
        have a3 : X.N[k]? = some y := a1.symm
        have a4 : scope.names.lookup y = some .free := a2
        have hm := PySem.mem_of_lookup a4
        have kd : X.env.kindOf y = some .cell ∨ X.env.kindOf y = some .free := S.free _ hm rfl
        obtain ⟨mX, _, hlX⟩ := I.loc
        obtain ⟨u, ru, lk⟩ := hlX k y v a3 h5 (kd.elim (fun z => .inr (.inl z)) fun z => .inr (.inr z))
        refine ⟨u, ru, .inr ?_⟩
        rcases lk with ⟨z, _⟩ | ⟨_, c, hc, hcell⟩
        · rcases kd with z' | z' <;> rw [z'] at z <;> cases z
        · exact ⟨relabel_of_free (env := X.env) a4, c, cloOf_lookup hm hc, kc _ _ hcell⟩
  · obtain ⟨v, q⟩ := cell y c e
    exact ⟨v, kc _ _ q⟩
  · have hp' : p ∈ pl := hp
    obtain ⟨e, l1, l2, d⟩ := hpl p hp'
    exact ⟨e, I.hok.fresh l1, l2, fun z => absurd (I.stkSub _ z) (fun q => by
      rcases List.mem_cons.mp q with q | q
      · exact absurd I.lt (by rw [← q]; exact Nat.not_lt.mpr l1)
      · exact I.nofs l1 q), d⟩
  · show (none :: blkVals fv σ).length = N'.length
    rw [S.len]
    unfold blkVals
    simp
end
end L2

namespace L2
open PySem PySem.Spec PyProof.Rows
theorem nox {α : Type} {t : Sem α} {Q Q' : α → Shared → Prop} {M : Model} {A : Around} {E : Value → Shared → Prop} {s : Shared} (h : wpAny M A t Q (fun _ _ => False) s) (hQ : ∀ a s, Q a s → Q' a s) : wpAny M A t Q' E s := wpAny_mono h hQ fun _ _ f => f.elim
set_option maxHeartbeats 1600000 in
theorem pe_lc {X : Cx} {elt iter : Expr} {x : Str} {px : Pos} {ifs : List Expr} {scope : Scope} {pos : Pos} {N' : List Str} {fv : List Nat} {wi : TI} {tt : TT} {te : TE}
    (S : BlkScope X.N X.env.scope scope x N' fv) (hc : X.calm = true) (hi : PI X (.Name x px) iter wi)
    (ht : ∀ C fp s H, PTs (X.blk N' scope C fp s H) ifs tt) (he : ∀ C fp s H, PE (X.blk N' scope C fp s H) elt te)
    (hs : ∀ x, foldedSetIterable iter X.env x = pure x := by intro _; rfl) :
    PE X (.ListComp elt [⟨.Name x px, iter, ifs, 0⟩] scope pos) (tLC wi fv tt te) := by
  intro pins s σ H Q I h
  rw [eval_ListComp]
  refine wpAny_comprehension_free (use := none) rfl hs (closureFor_free fun y hy hk => I.ok.has y.1 (S.free y hy hk)) S.kind S.names
    (wpAny_mono (hi pins s σ H _ I h) (fun xv s1 h1 => wpAny_mono h1 (fun itv s2 h2 => ?_) fun _ _ e => e) fun _ _ e => e)
  obtain ⟨it, fp, tn, J, H2, rfl, I2, T, st2, f2, W, n, w0, hn, turn⟩ := h2
  refine wpAny_newObj_type (wpAny_newFunctionEnv S.nocell (by intro y hy; simp at hy) (fun h1 hns hsb => ?_) S.kind)
  dsimp only at hns hsb ⊢
  generalize hH : s2.heap.push { cls := .type "list", dict := none, data := .seq ([] : List Value).toArray } = G at hns hsb ⊢
  have hG : G.objs.size = s2.heap.objs.size + 1 := by rw [← hH, Heap.size_push]
  have kpG : ∀ b o, s2.heap.get? b = some o → G.get? b = some o := fun b o e => hH ▸ Heap.get?_push_of_some _ e
  have kp1 : ∀ b o, b < G.objs.size → G.get? b = some o → h1.get? b = some o := fun b o lt e => hsb.extBut b o (Nat.ne_of_lt lt) (Heap.get?_push_of_some _ e)
  have kp : ∀ b o, s2.heap.get? b = some o → h1.get? b = some o := fun b o e => kp1 b o (by rw [hG]; exact Nat.lt_succ_of_lt (Heap.lt_size e)) (kpG b o e)
  have hD : h1.PlainList s2.heap.objs.size #[] := ⟨_, kp1 _ _ (by rw [hG]; exact Nat.lt_succ_self _) (hH ▸ Heap.get?_push_size _ rfl)⟩
  have hDC : s2.heap.objs.size ≠ G.objs.size := by rw [hG]; exact Nat.ne_of_lt (Nat.lt_succ_self _)
  have hC : s2.heap.objs.size ≤ G.objs.size := by rw [hG]; exact Nat.le_succ _
  have hfo : ∀ b ∈ fp, b < s2.heap.objs.size := fun b hb => by obtain ⟨o, e, _⟩ := T.obj 0 _ st2 b hb; exact Heap.lt_size e
  -- what is true of the iterator's records in the block
  have stat : ∀ {H' : Hp} {pl : List (Addr × Obj)}, (∀ b ∈ fp, H' b = none) → (∀ p ∈ pl, p.1 ∉ fp) → ∀ b ∈ fp, FpOk (X.blk N' scope G.objs.size fp s2 H2) pl H' b := fun {H' pl} hn hpl b hb => by
    obtain ⟨_, g1, g2, g3, g4, g5⟩ := f2 b hb
    refine ⟨hn b hb, Nat.ne_of_lt (Nat.lt_of_lt_of_le (hfo b hb) hC), fun z => ?_, .inl hb, fun y c e => g4 y c (cloOf_lookup_sub e), fun p hp e => ?_⟩
    · rcases List.mem_cons.mp (I2.stkSub b z) with q | q
      · exact g1 q
      · exact g2 q
    · exact hpl p hp (e ▸ hb)
  have hDf : s2.heap.objs.size ∉ fp := fun z => absurd (hfo _ z) (Nat.lt_irrefl _)
  have hlc : (X.blk N' scope G.objs.size fp s2 H2).env.scope.names.lookup x = some .local := lookup_relabel_local S.loc
  have hcl : ∀ y c, (X.blk N' scope G.objs.size fp s2 H2).env.cells.lookup y = some c → c ≠ s2.heap.objs.size := fun y c e z => by
    obtain ⟨v, q⟩ := I2.cell y c (cloOf_lookup_sub e)
    exact absurd q.lt (by rw [z]; exact Nat.lt_irrefl _)
  have pin1 : ∀ {s' : Shared} {H' : Hp} {ob : Obj} {i : Nat} {ys : List V}, Inv (X.blk N' scope G.objs.size fp s2 H2) [] (none :: blkVals fv σ) H' s' → s'.heap.get? s2.heap.objs.size = some ob → (∀ v, ob.data ≠ .cell v) → H' s2.heap.objs.size = none →
      Inv (X.blk N' scope G.objs.size fp s2 H2) [(s2.heap.objs.size, ob)] (none :: blkVals fv σ) H' s' := fun {s' H' ob i ys} J1 e d f => J1.pins_of fun p hp => by
    have z : p = (s2.heap.objs.size, ob) := by simpa using hp
    subst z
    refine ⟨e, f, hDC, fun z => ?_, d⟩
    rcases List.mem_cons.mp (I2.stkSub _ z) with q | q
    · exact absurd I2.lt (by rw [← q]; exact Nat.lt_irrefl _)
    · exact I2.nofs (Nat.le_refl _) q
  have loop : ∀ s3 : Shared, s3 = { s2 with heap := h1, toks := s2.toks + ([] : List (Str × Value)).length } →
      codeAny (model X.prog X.w) X.A (.compLoop (.ListComp elt [⟨.Name x px, iter, ifs, 0⟩] scope pos) 0 (.ref it) (.ref s2.heap.objs.size) (X.blk N' scope G.objs.size fp s2 H2).env)
        (compPost (model X.prog X.w) X.A X.xe none (EP X pins σ Q) (.ref s2.heap.objs.size) G.objs.size) s3 := by
    rintro s3 rfl
    refine codeAny_compLoop_tests (fun k s' => ∃ i ys H' its, k = n + 1 - i ∧ i ≤ n ∧ ys.length ≤ i ∧ Vals ys its ∧ s'.heap.PlainList s2.heap.objs.size its.toArray ∧
      Inv (X.blk N' scope G.objs.size fp s2 H2) [] (none :: blkVals fv σ) H' s' ∧ H' s2.heap.objs.size = none ∧ tn i s'.heap ∧ (∀ b ∈ fp, H' b = none) ∧ W i ys H') ?_ (n + 1)
      ⟨0, [], H2, [], rfl, Nat.zero_le _, Nat.le_refl _, .nil, hD, blk_inv S I2 f2 hfo hC kp hns (fun p hp => nomatch hp), I2.hok.fresh (Nat.le_refl _), T.keep _ _ _ st2 fun b _ o e => kp b o e, fun b hb => (f2 b hb).1, w0⟩
    rintro k s4 ⟨i, ys, H4, its, rfl, hin, hyi, rv, pl4, I4, fD4, st4, ff4, w4⟩
    obtain ⟨cnt, eD⟩ := id pl4
    have I4p := pin1 (i := i) (ys := ys) I4 eD (fun v z => by cases z) fD4
    have np : ∀ p ∈ [(s2.heap.objs.size, ({ cls := .type "list", data := .seq its.toArray cnt } : Obj))], p.1 ∉ fp := fun p hp => by
      have z : p = (s2.heap.objs.size, ({ cls := .type "list", data := .seq its.toArray cnt } : Obj)) := by simpa using hp
      subst z; exact hDf
    rcases turn i ys H4 w4 with ⟨stop, fin⟩ | ⟨go, hi2, step⟩
    · refine wpAny_mono (T.done (X.blk N' scope G.objs.size fp s2 H2) rfl rfl rfl hc i _ s4 _ H4 _ I4p (stat ff4 np) st4 stop) (fun r s5 ⟨hr, I5⟩ => ?_) fun _ _ e => e
      subst hr
      obtain ⟨m5, hm5, _⟩ := I5.loc
      have eD5 : s5.heap.get? s2.heap.objs.size = some { cls := .type "list", data := .seq its.toArray cnt } := (I5.pin _ (List.mem_append_right _ List.mem_cons_self)).1
      refine ⟨m5, hm5, fun h' sb => ⟨.ref s2.heap.objs.size, upd H4 s2.heap.objs.size (.lst ys), ?_, rfl, fin _ fD4⟩⟩
      have ltC : ∀ {b : Addr} {o : Obj}, s2.heap.get? b = some o → b ≠ G.objs.size := fun {b o} e => Nat.ne_of_lt (Nat.lt_of_lt_of_le (Heap.lt_size e) hC)
      have fD2 : H2 s2.heap.objs.size = none := I2.hok.fresh (Nat.le_refl _)
      have ltD : ∀ {b : Addr} {o : Obj}, s2.heap.get? b = some o → b ≠ s2.heap.objs.size := fun {b o} e => Nat.ne_of_lt (Heap.lt_size e)
      have B := I5.base
      refine I2.call' (s' := { s5 with heap := h' }) (ch := fp) I5.os ⟨fun b o e nb hb hx => ?_, fun b o e nb hb hx => ?_, fun b o e nb hx => ?_, fun b o e hx => ?_, fun b xs e => ?_, fun b o u e => ?_, fun b ps e => ?_⟩ ?_ I5.bare fun b hb => ?_
      · exact sb.extBut b o (ltC e) (B.keep b o e nb hb hx)
      · obtain ⟨sl, q⟩ := B.slot b o e nb hb hx
        exact ⟨sl, sb.extBut b _ (ltC e) q⟩
      · rw [upd_ne (ltD e)]; exact B.free b o e nb hx
      · obtain ⟨o', q⟩ := B.there b o e hx
        exact ⟨o', sb.extBut b o' (ltC e) q⟩
      · have e' : H2 b = some (.tup xs) := e
        rw [upd_ne (ne_of_none e' fD2)]; exact B.tups b xs e
      · have e' : H2 b = some (.frz o u) := e
        rw [upd_ne (ne_of_none e' fD2)]; exact B.frzs b o u e
      · have e' : H2 b = some (.tbl ps) := e
        rw [upd_ne (ne_of_none e' fD2)]; exact B.tbls b ps e
      · intro b u e
        by_cases hb : b = s2.heap.objs.size
        · subst hb
          rw [upd_same] at e
          cases e
          exact ⟨Nat.le_trans hyi (Nat.le_trans hin hn), its, cnt, rv, sb.extBut _ _ hDC eD5⟩
        · rw [upd_ne hb] at e
          have fC : H4 G.objs.size = none := I5.free
          refine (I5.hok b u e).stay (fun c v hc' q => sb.extBut c v ?_ q) (fun c q => by rw [upd_ne (ne_of_none q fD4)]; exact q) fun c xs q => by rw [upd_ne (ne_of_none q fD4)]; exact q
          rcases hc' with z | z
          · subst z; exact ne_of_none e fC
          · exact ne_of_none z fC
      · obtain ⟨_, g1, g2, g3, g4, g5⟩ := f2 b hb
        exact ⟨g3, g1, g4, g5⟩
    · refine wpAny_mono (T.item (X.blk N' scope G.objs.size fp s2 H2) rfl rfl rfl hc i _ s4 _ H4 _ I4p (stat ff4 np) st4 go) (fun r s5 ⟨u, hr, h5⟩ => ?_) fun _ _ e => e
      subst hr
      show wpAny _ _ (letOwnedTupleGo (.Name x px) (.ref it) u >>= fun _ => assign (.Name x px) (X.blk N' scope G.objs.size fp s2 H2).env u) _ _ s5
      refine wpAny_bind (wpAny_mono h5 (fun _ s6 ⟨xv, H6, I6, r6, y6, st6, ff6⟩ => ?_) fun _ _ e => e)
      have I6' := I6.pinned (stat ff6 np) (T.obj _ _ st6)
      have out : ∀ {σ' : St} {H' : Hp} {s' : Shared}, Inv (X.blk N' scope G.objs.size fp s2 H2) ([(s2.heap.objs.size, ({ cls := .type "list", data := .seq its.toArray cnt } : Obj))] ++ pinsAt fp s6.heap) σ' H' s' →
          s'.heap.PlainList s2.heap.objs.size its.toArray ∧ H' s2.heap.objs.size = none ∧ (∀ b ∈ fp, H' b = none) ∧ (∀ b ∈ fp, ∀ o, s6.heap.get? b = some o → s'.heap.get? b = some o) := fun {σ' H' s'} J1 => by
        have q := J1.pin (s2.heap.objs.size, ({ cls := .type "list", data := .seq its.toArray cnt } : Obj)) (List.mem_append_right _ (List.mem_append_left _ List.mem_cons_self))
        refine ⟨⟨cnt, q.1⟩, q.2.1, fun b hb => ?_, fun b hb o e => (J1.pin (b, o) (List.mem_append_right _ (List.mem_append_right _ (mem_pinsAt hb e)))).1⟩
        obtain ⟨o, e, d⟩ := T.obj _ _ st6 b hb
        exact (J1.pin (b, o) (List.mem_append_right _ (List.mem_append_right _ (mem_pinsAt hb e)))).2.1
      refine nox ((pg_name (X := X.blk N' scope G.objs.size fp s2 H2) (i := 0) S.nd S.hd (.inl hlc) (.inr hlc)) _ s6 _ H6 xv u (fun σ' H' => σ' = some xv :: blkVals fv σ ∧ H' = H6) I6' r6 ⟨rfl, rfl⟩) fun _ s7 ⟨σ7, H7, I7, e7, e7'⟩ => ?_
      subst e7 e7'
      refine nox (ht _ _ _ _ _ s7 _ H7 _ I7 (step xv H7 y6)) fun ok s8 ⟨H8, I8, q8⟩ => ?_
      cases ok with
      | false =>
        obtain ⟨o1, o2, o3, o4⟩ := out I8
        exact ⟨n + 1 - (i + 1), by omega, i + 1, ys, H8, its, rfl, hi2, Nat.le_succ_of_le hyi, rv, o1, (I8.pins_of (pins' := []) fun p hp => nomatch hp).weak (σ' := none :: blkVals fv σ) rfl (fun j v e => by
          cases j with
          | zero => cases (show (none : Option V) = some v from Option.some.inj e)
          | succ j => exact e), o2, T.keep _ _ _ st6 o4, o3, q8⟩
      | true =>
        refine nox (he _ _ _ _ _ s8 _ H8 _ I8 q8) fun yv s9 ⟨y, H9, I9, r9, q9⟩ => ?_
        obtain ⟨o1, o2, o3, o4⟩ := out I9
        have hlen := rv.length
        refine wpAny_list_append_plain (hsz := by rw [List.size_toArray, ← hlen]; exact Nat.le_trans hyi (Nat.le_trans hin hn)) o1 fun h' pl' sb' => ?_
        have I9' : Inv (X.blk N' scope G.objs.size fp s2 H2) [] (some xv :: blkVals fv σ) H9 { s9 with heap := h' } :=
          (I9.pins_of (pins' := []) fun p hp => nomatch hp).turned (t' := s9.toks) (it := s2.heap.objs.size) (fun b o hb e => sb'.extBut b o hb e) o2 hDC (.inr (Nat.le_refl _)) hcl (fun p hp => nomatch hp)
        refine ⟨n + 1 - (i + 1), by omega, i + 1, ys ++ [y], H9, its ++ [yv], rfl, hi2, by rw [List.length_append]; exact Nat.succ_le_succ hyi, rv.append (.cons r9 .nil), ?_, I9'.weak (σ' := none :: blkVals fv σ) rfl (fun j v e => by
          cases j with
          | zero => cases (show (none : Option V) = some v from Option.some.inj e)
          | succ j => exact e), o2, T.keep _ _ _ st6 fun b hb o e => sb'.extBut b o (fun z => hDf (z ▸ hb)) (o4 b hb o e), o3, q9⟩
        have e9 : (its ++ [yv]).toArray = its.toArray.push yv := by simp
        rw [e9]
        exact pl'
  exact codeAny_compStart_list (loop _ rfl) (T.self _ 0 _ _ _ (T.keep _ _ _ st2 fun b _ o e => kp b o e) (loop _ rfl))
end L2

namespace L2
open PySem PySem.Spec PyProof.Rows
end L2

namespace L2
open PySem PySem.Spec PyProof.Rows
/-- name = [.. for ..] -/
def tSetLC (j : Nat) (wi : TI) (fv : List Nat) (tt : TT) (te : TE) : TS := fun D σ H => wi σ H fun J H1 => ∃ (W : Nat → List V → Hp → Prop) (n : Nat), W 0 [] H1 ∧ n ≤ sizeLine ∧ ∀ i ys H, W i ys H →
  (J.stop i H ∧ ∀ p, H p = none → D.nx (σ.set j (some (.ref p))) (upd H p (.lst ys))) ∨
  (J.go i H ∧ i < n ∧ ∀ x H', J.yld i H x H' → tt (some x :: blkVals fv σ) H' fun c H2 => if c = true then te (some x :: blkVals fv σ) H2 fun y H3 => W (i + 1) (ys ++ [y]) H3 else W (i + 1) ys H2)
end L2

namespace L2
open PySem PySem.Spec PyProof.Rows
open Builtin Builtin.Str
section
variable {X : Cx}
end
end L2

namespace L2
open PySem PySem.Spec PyProof.Rows
section
variable {X : Cx}
/-- // by a positive divisor of up to some thousand figures -/
def CDivB (_ j : Int) : Prop := 0 < j ∧ j.natAbs.log2 < 9000
end
end L2

namespace L2
open PySem PySem.Spec PyProof.Rows
section
variable {X : Cx}
end
end L2

namespace L2
open PySem PySem.Spec PyProof.Rows
/-! ### exceptions of the program's own classes -/
/-- what is tracked, and what was there in h0, is in B, but for the frames l -/
def Cov (l : List Env) (h0 : Heap) (H : Hp) (B h : Heap) : Prop := ∀ b o, h.get? b = some o → b ∉ frs l → (H b ≠ none ∨ ∃ o0, h0.get? b = some o0) → B.get? b = some o
/-- an exception at ea, of the class at C, flies through the frames l -/
def Fly (l : List Env) (h0 : Heap) (H : Hp) (ea C : Addr) (h : Heap) : Prop := ∃ B a0, Heap.FlyingW B l ea (.ref C) a0 h ∧ Cov l h0 H B h ∧ NoCtx h ea
def CXE (P : Program) (w : World) : CXT := fun outer H s E e s' => ∃ ea C H', e = .ref ea ∧ s'.os = s.os ∧ AllBare s'.gens ∧ Un (frs outer) [] H H' s.heap s'.heap ∧ HOk P w H' s'.heap ∧ Fly outer s.heap H' ea C s'.heap ∧ E e (some C) H'
theorem ObjOk.there {P : Program} {w : World} {H : Hp} {h : Heap} {a : Addr} {o : HO} (x : ObjOk P w H h a o) : ∃ ob, h.get? a = some ob := by
  cases o with
  | lst xs => obtain ⟨_, _, _, _, e⟩ := x; exact ⟨_, e⟩
  | tup xs => obtain ⟨_, _, _, o, e, _⟩ := x; exact ⟨_, e⟩
  | dK kvs => obtain ⟨_, _, _, _, o, _, _, e, _⟩ := x; exact ⟨_, e⟩
  | dT kvs => obtain ⟨_, _, _, _, o, _, _, e, _⟩ := x; exact ⟨_, e⟩
  | set S n => obtain ⟨o, _, _, _, e, _⟩ := x; exact ⟨_, e⟩
  | ins C dx fs => obtain ⟨_, _, _, e, _⟩ := x; exact ⟨_, e⟩
  | own y => obtain ⟨_, e⟩ := x; exact ⟨_, e⟩
  | xd fs => obtain ⟨_, ⟨_, _, _, e, _⟩, _⟩ := x; exact ⟨_, e⟩
  | rng lo hi => obtain ⟨_, _, _, e⟩ := x; exact ⟨_, e⟩
  | frz ob u => obtain ⟨e, _⟩ := x; exact ⟨_, e⟩
  | tbl ps => exact ⟨_, (show h.get? a = some _ from x)⟩
  | met f y => exact ⟨_, (show h.get? a = some _ from x)⟩
  | ext φ => obtain ⟨_, ⟨_, e⟩, _⟩ := x; exact ⟨_, e⟩
section
variable {l : List Env} {H : Hp} {B h h' hc : Heap} {P : Program} {w : World}
theorem Cov.stay (c : Cov l hc H B h) (st : B.StaysIn h') : ∀ b o, h.get? b = some o → b ∉ frs l → (H b ≠ none ∨ ∃ o0, hc.get? b = some o0) → h'.get? b = some o := fun b o e nb hb => st b o (c b o e nb hb)
theorem HOk.moved (x : HOk P w H h) (c : Cov l hc H B h) (st : B.StaysIn h') (fr : ∀ b ∈ frs l, H b = none) : HOk P w H h' := fun a o e => by
  refine (x a o e).stay (fun b u hb q => ?_) (fun b q => q) fun b xs q => q
  have tr : H b ≠ none := by
    rcases hb with rfl | hb
    · rw [e]; intro z; cases z
    · rw [hb]; intro z; cases z
  exact c.stay st b u q (fun z => tr (fr b z)) (.inl tr)
theorem Un.moved {fs : List Addr} {H0 : Hp} {h0 : Heap} (u : Un fs [] H0 H h0 h) (c : Cov l hc H B h) (st : B.StaysIn h') (sm : h.UpToSlots h') (ff : h.FunFrames B l) (hn : ∀ b o, h0.get? b = some o → ∃ o', hc.get? b = some o')
    (hf : ∀ b ∈ fs, b ∈ frs l) (hl : ∀ b o, h0.get? b = some o → b ∈ frs l → b ∈ fs) : Un fs [] H0 H h0 h' := by
  have kp : ∀ b o0 o, h0.get? b = some o0 → b ∉ fs → h.get? b = some o → h'.get? b = some o := fun b o0 o e0 nb e => c.stay st b o e (fun z => nb (hl b o0 e0 z)) (.inr (hn b o0 e0))
  have sl : ∀ b o, b ∈ fs → h.get? b = some o → ∃ sl, h'.get? b = some { o with slots := sl } := fun b o hb e => by
    obtain ⟨_, o', e', d⟩ := ff.mem (show b ∈ l.filterMap (·.frame) from hf b hb)
    rw [e] at e'
    cases e'
    exact sm b o e d
  refine ⟨fun b o e z nb hx => kp b o o e nb (u.keep b o e z nb hx), fun b o e z hb hx => ?_, u.free, fun b o e hx => ?_, u.tups, u.frzs, u.tbls⟩
  · obtain ⟨s1, q⟩ := u.slot b o e z hb hx
    obtain ⟨s2, q2⟩ := sl b _ hb q
    exact ⟨s2, q2⟩
  · obtain ⟨o1, q⟩ := u.there b o e hx
    by_cases hb : b ∈ fs
    · obtain ⟨s2, q2⟩ := sl b _ hb q
      exact ⟨_, q2⟩
    · exact ⟨o1, kp b o o1 e hb q⟩
theorem Cov.moved {h0 : Heap} {l' : List Env} {fs : List Addr} {H0 : Hp} (c : Cov l hc H B h) (st : B.StaysIn h') (x : HOk P w H h) (u : Un fs [] H0 H h0 h) (hn : ∀ b o, h0.get? b = some o → ∃ o', hc.get? b = some o')
    (hl : ∀ b, b ∉ frs l' → (H b ≠ none ∨ ∃ o0, h0.get? b = some o0) → b ∉ frs l) : Cov l' h0 H B h' := fun b o e nb hb => by
  have nl := hl b nb hb
  have hb' : H b ≠ none ∨ ∃ o0, hc.get? b = some o0 := hb.imp id fun ⟨o0, z⟩ => hn b o0 z
  have ex : ∃ o1, h.get? b = some o1 := by
    rcases hb with z | ⟨o0, z⟩
    · cases q : H b with
      | none => exact absurd q z
      | some u1 => exact (x b u1 q).there
    · exact u.there b o0 z (by simp)
  obtain ⟨o1, q⟩ := ex
  have q2 := c b o1 q nl hb'
  have q3 := st b o1 q2
  rw [e] at q3
  cases q3
  exact q2
end
/-- the context of a def's body whose exceptions go on -/
structure Cx.Def (X : Cx) (E : XK) : Prop where
  stk : X.stack = X.env :: X.outer
  fr : X.env.frame = some X.env.locals
  ex : X.ex = []
  xe : X.xe = fun e s' => wpAny (model X.prog X.w) X.A (leaving X.env e) (fun _ s'' => CXE X.prog X.w X.outer X.H₀ X.s₀ E e s'') (fun e' s'' => CXE X.prog X.w X.outer X.H₀ X.s₀ E e' s'') s'
section
variable {X : Cx} {E : XK} {pins : List (Addr × Obj)} {σ : St} {H H' : Hp} {s s' : Shared}
theorem frs_cons (D : X.stack = X.env :: X.outer) (fr : X.env.frame = some X.env.locals) : frs X.stack = X.env.locals :: frs X.outer := by
  rw [D]
  show List.filterMap _ (X.env :: X.outer) = _
  rw [List.filterMap_cons, fr]
  rfl
/-- the exception leaves this frame -/
theorem Inv.leaves {B h2 hc : Heap} {ea C : Addr} {a0 : Value} (D : X.Def E) (I : Inv X pins σ H s) (c : Cov X.stack hc H B s.heap) (hc0 : ∀ b o, X.s₀.heap.get? b = some o → ∃ o', hc.get? b = some o') (ff : s.heap.FunFrames B X.stack)
    (fl : Heap.FlyingW B X.outer ea (.ref C) a0 h2) (nc : NoCtx h2 ea) (sm : s.heap.UpToSlots h2) (q : E (.ref ea) (some C) H) : CXE X.prog X.w X.outer X.H₀ X.s₀ E (.ref ea) { s with heap := h2 } := by
  have st := fl.1
  have fc := frs_cons D.stk D.fr
  have b0 : Un X.fs [] X.H₀ H X.s₀.heap s.heap := by have := I.base; rw [D.ex] at this; exact this
  have nL : ∀ b o, X.s₀.heap.get? b = some o → b ≠ X.env.locals := fun b o e z => absurd (Heap.lt_size e) (by rw [z]; exact Nat.not_lt.mpr I.ok.above)
  refine ⟨ea, C, H, rfl, I.os, I.bare, b0.moved c st sm ff hc0 (fun b hb => by rw [fc]; exact List.mem_cons_of_mem _ hb) (fun b o e hb => ?_), I.hok.moved c st I.stkFree, ⟨B, a0, fl, c.moved st I.hok b0 hc0 fun b nb hb => ?_, nc⟩, q⟩
  · rw [fc] at hb
    rcases List.mem_cons.mp hb with z | z
    · exact absurd z (nL b o e)
    · exact z
  · rw [fc]
    intro z
    rcases List.mem_cons.mp z with z | z
    · subst z
      rcases hb with y | ⟨o0, y⟩
      · exact y I.free
      · exact nL _ o0 y rfl
    · exact nb z
/-- behind a callee's exception -/
theorem Inv.came {e : Value} {E' : XK} (I : Inv X pins σ H s) (h : CXE X.prog X.w X.stack H s E' e s') : ∃ ea C H', e = .ref ea ∧ Inv X pins σ H' s' ∧ Fly X.stack s.heap H' ea C s'.heap ∧ E' e (some C) H' := by
  obtain ⟨ea, C, H', rfl, os, bare, un, hok, fl, q⟩ := h
  obtain ⟨hh, g, d, t, os'⟩ := s'
  obtain rfl : os' = s.os := os
  exact ⟨ea, C, H', rfl, I.call (h' := hh) (g' := g) (d' := d) (t' := t) (ch := []) un hok bare (fun b z => absurd z (by simp)), fl, q⟩
theorem raiseE (D : X.Def E) {h1 : Heap} {ea C : Addr} {vs : List Value} (I : Inv X pins σ H s) (hx : Heap.MadeExcOf s.heap h1 ea (.ref C) vs) (q : E (.ref ea) (some C) H) : X.xe (.ref ea) { s with heap := h1 } := by
  rw [D.xe]
  have hfr : X.A.frames = some (X.env :: X.outer) := by rw [I.ok.frames, D.stk]
  have ff : s.heap.FunFrames (PySem.W.hideAll s.heap (frs X.stack)) (X.env :: X.outer) := by
    have := I.stack
    rw [D.stk] at this ⊢
    exact PySem.W.funFrames_hide this fun env he b hb => List.mem_filterMap.mpr ⟨env, he, hb⟩
  refine leaves_made (s := { s with heap := h1 }) hfr D.fr (fun b o e => PySem.W.of_hideAll _ e) ff hx fun h2 a0 fl sm nc => ?_
  have c : Cov X.stack s.heap H (PySem.W.hideAll s.heap (frs X.stack)) s.heap := fun b o e nb _ => PySem.W.hideAll_get _ e nb
  have sub : ∀ b o, X.s₀.heap.get? b = some o → ∃ o', s.heap.get? b = some o' := fun b o e => I.base.there b o e (by rw [D.ex]; simp)
  have ff' : s.heap.FunFrames (PySem.W.hideAll s.heap (frs X.stack)) X.stack := by rw [D.stk] at ff ⊢; exact ff
  exact I.leaves (s := s) D c sub ff' fl nc ((Heap.UpToSlots.of_keeps hx.keeps).trans sm) q
end
theorem def_cx {P : Program} {w : World} {K : PySem.W.Frag} {mg : Str → Option Value} {base : Heap} {N : List Str} {qual : Str} {scope : Scope} {f : Addr} {cd : Value} {A : Around} {outer : List Env} {s : Shared} {H : Hp} {E : XK} :
    (cxOf (CXE P w) P w K mg base N qual scope f cd A outer s H E).Def E := ⟨rfl, rfl, rfl, rfl⟩
section
variable {P : Program} {w : World} {K : PySem.W.Frag} {mg : Str → Option Value} {base : Heap}
/-- a def whose exceptions go on to its caller -/
theorem Fun.okE {x qual : Str} {st : Stmt} {f : Addr} {fd : FuncData} {N ps : List Str} {k : Nat} {sp : Sp} (F : Fun K x qual st f fd) (S : FnScope N ps (defScope st)) (len : ∀ vs H Q E, sp vs H Q E → vs.length = ps.length)
    (hbody : ∀ (cdv : Value) (A : Around) (outer : List Env) (s : Shared) (H : Hp) (vs : List V) (Q : VK) (E : XK), Room k (A.deeper (envOfC qual (defScope st) s.heap.objs.size f cdv)) → sp vs H Q E →
      ∃ t, PSs (cxOf (CXE P w) P w K mg base N qual (defScope st) f cdv A outer s H E) (defBody st) t ∧ t { nx := fun _ H' => Q .non H', rt := Q } (start N vs) H) : FnOk P w K mg base (CXE P w) (k + 1) f fd ps sp := by
  obtain ⟨oc, od, kV, doc, pm, an, cdv, ct, osl, rfl, lk, hcd⟩ := F.ex
  exact fn_of lk hcd S len fun A outer s H vs Q E hr hsp => hbody cdv A outer s H vs Q E hr hsp
end
end L2

namespace L2
open PySem PySem.Spec PyProof.Rows
/-- an error class of the text's own, as the top keeps it -/
theorem own_in {K : PySem.W.Frag} {h : Heap} {mg : Str → Option Value} {x : Str} {C : Addr} {bm : List Value} {new : String} (kin : K.In h) (hm : mg x = some (.ref C)) (q : PySem.W.excIn K C bm new = true) : OwnCls x C bm new mg h := by
  have key : ∀ o, K.lookup C = some o → ∃ tl N nm qn bs hdct sn sub ab col dd k0 k1 k2 k3 k5 mN, h.get? C = some (excClassObj nm qn C N bs tl hdct sn sub ab col dd k0 k1 k2 k3 k5 new) ∧ h.Ns N mN ∧ mN "__init__" = none ∧ OwnTail h bm tl := fun o lk => by
    unfold PySem.W.excIn at q
    rw [lk] at q
    obtain ⟨oc, od, odt, osl⟩ := o
    split at q
    · rename_i dd cd sl e0
      cases (Option.some.inj e0)
      obtain ⟨nm, bs, mro, ns, qn, hd, sn, sub, ab, col, del⟩ := cd
      split at q
      · rename_i C2 tl k0 k1 k2 k3 n2 k5 em es
        dsimp only at em q
        simp only [Bool.and_eq_true, beq_iff_eq, Bool.not_eq_true'] at q
        obtain ⟨⟨⟨⟨⟨q1, q2⟩, q3⟩, q4⟩, q5⟩, q6⟩ := q
        subst q1 q2 q3 em
        have esl : osl = #[k0, k1, k2, k3, some (.builtin n2), k5] := Array.toList_inj.mp es
        subst esl
        exact ⟨tl, ns, nm, qn, bs, hd, sn, sub, ab, col, od, k0, k1, k2, k3, k5, _, kin _ _ lk, .of_isNs (PySem.W.isNs_of_in kin q5), PySem.W.nsMap_none_of_in kin q5 q6, PySem.W.tail_of_in kin q4⟩
      · cases q
    · cases q
  refine ⟨hm, ?_⟩
  cases lk : K.lookup C with
  | none => unfold PySem.W.excIn at q; rw [lk] at q; cases q
  | some o => exact key o lk
section
variable {X : Cx} {E : XK}
/-- raise C(arg) -/
def tRaise (C : Addr) (E : XK) (ta : TA) : TS := fun _ σ H => ta σ H fun vs H1 => vs.length ≤ 1 ∧ ∀ ea, E (.ref ea) (some C) H1
theorem ps_raise {x : Str} {C : Addr} {bm : List Value} {B new init : String} {e : Expr} {ta : TA} {np cpos pos : Pos} (D : X.Def E) (hc : X.A.handled = none) (hg : Gl X x) (hm : X.mg x = some (.ref C))
    (q : PySem.W.excIn X.K C bm new = true) (FB : ExcBaseFacts B new init bm) (he : PA X [e] ta)
    (hst : starEach [e] X.env = [(false, eval e X.env)] := by rfl) (hd : (x == ("__debug__" : Str)) = false := by decide) :
    PS X (.Raise (some (.Call (.Name x np) [e] [] cpos)) none pos) (tRaise C E ta) := by
  intro pins s σ H D' I h
  obtain ⟨tl, N, nm, qn, bs, hdct, sn, sub, ab, col, dd, k0, k1, k2, k3, k5, mN, hC, hN, hni, T⟩ := (own_in I.ok.mod.kin hm q).obj
  refine wpAny_Raise_call_subT (C := C) (nm := nm) (q := qn) (N := N) (bs := bs) (bm := tl) (hdct := hdct) (sn := sn) (sub := sub) (ab := ab) (col := col) (dd := dd) (k0 := k0) (k1 := k1) (k2 := k2) (k3 := k3) (k5 := k5)
    FB (mN := mN) (T.hasType FB.hasBase) hc (by rw [hst]; rfl) hni (ld_glob I hg hm ⟨rfl, ?_⟩ hd)
  have hsp := he cpos pins s σ H _ I h
  rw [hst] at hsp ⊢
  refine Calls.evalArgs_plain (wpAny_mono hsp (fun us s2 ⟨vs, H2, I2, r, hl, q2⟩ => ?_) fun _ _ y => y)
  have kb : ∀ b o, X.base.get? b = some o → s2.heap.get? b = some o := I2.bk
  refine ⟨rfl, ?_, kb _ _ hC, hN.keeps kb, T.keeps kb, fun h' e' hx => raiseE D I2 hx (q2 e')⟩
  have := r.length
  have h0 : (1 : Nat) ≤ sizeLine := by decide
  show us.length ≤ sizeLine
  omega
end
end L2

namespace L2
open PySem PySem.Spec PyProof.Rows
/-- an exception that has come down -/
def ExcO (ea C : Addr) : HO := .ext fun h => (∃ o, h.get? ea = some o ∧ o.cls = .ref C) ∧ NoCtx h ea
abbrev Cx.hnd (X : Cx) (ev : Value) : Cx := { X with A := X.A.mark (some ev), calm := false, xe := fun _ _ => False }
section
variable {X : Cx} {pins : List (Addr × Obj)} {σ : St} {H H1 : Hp} {s s1 : Shared} {ev : Value}
theorem Cx.Ok.hnd (ok : X.Ok) (ev : Value) : (X.hnd ev).Ok :=
  ⟨ok.mod, ok.kind, ok.glob, ok.blt, ok.above, ok.inj, ok.has, ok.cab, fun h => (by cases h), ok.frames, ok.stk, ok.exf, ok.bs, ok.bsz, ok.noex, ok.exfs, ok.funs, ok.frf⟩
theorem Inv.hnd (I : Inv X pins σ H s) (ev : Value) : Inv (X.hnd ev) pins σ H s := ⟨I.ok.hnd ev, I.os, I.bare, I.base, I.loc, I.cell, I.free, I.freeC, I.pin, I.hok, I.len⟩
theorem Inv.unhnd (ok : X.Ok) (I : Inv (X.hnd ev) pins σ H s) : Inv X pins σ H s := ⟨ok, I.os, I.bare, I.base, I.loc, I.cell, I.free, I.freeC, I.pin, I.hok, I.len⟩
theorem SP.unhnd {D : Ends} {f : Flow} {s' : Shared} (ok : X.Ok) (h : SP (X.hnd ev) pins D f s') : SP X pins D f s' := by
  cases f with
  | next => obtain ⟨σ', H', I', q⟩ := h; exact ⟨σ', H', I'.unhnd ok, q⟩
  | brk => obtain ⟨σ', H', I', q⟩ := h; exact ⟨σ', H', I'.unhnd ok, q⟩
  | cont => obtain ⟨σ', H', I', q⟩ := h; exact ⟨σ', H', I'.unhnd ok, q⟩
  | ret v => obtain ⟨x, σ', H', I', r, q⟩ := h; exact ⟨x, σ', H', I'.unhnd ok, r, q⟩
theorem UpToSlots.isCell {h h' : Heap} {c : Addr} {v : Option Value} (sm : h.UpToSlots h') (x : h.IsCell c v) : h'.IsCell c v := by
  obtain ⟨o, e, d⟩ := x
  obtain ⟨sl, e2⟩ := sm c o e fun vs q => by rw [d] at q; cases q
  exact ⟨_, e2, d⟩
/-- the flight moves on, the body's state stays -/
theorem Inv.moved {B h2 : Heap} (I1 : Inv X pins σ H1 s1) (I : Inv X pins σ H s) (hst : X.stack = X.env :: X.outer) (fr : X.env.frame = some X.env.locals) (hex : X.ex = []) (c : Cov X.stack s1.heap H B s.heap) (st : B.StaysIn h2) (sm : s.heap.UpToSlots h2)
    (ff : s.heap.FunFrames B X.stack) : Inv X pins σ H { s with heap := h2 } := by
  have fc := frs_cons hst fr
  have b0 : Un X.fs [] X.H₀ H X.s₀.heap s.heap := by have := I.base; rw [hex] at this; exact this
  have sub : ∀ b o, X.s₀.heap.get? b = some o → ∃ o', s1.heap.get? b = some o' := fun b o e => I1.base.there b o e (by rw [hex]; simp)
  have nL : ∀ b o, X.s₀.heap.get? b = some o → b ≠ X.env.locals := fun b o e z => absurd (Heap.lt_size e) (by rw [z]; exact Nat.not_lt.mpr I.ok.above)
  refine ⟨I.ok, I.os, I.bare, ?_, ?_, fun x cc e => ?_, I.free, I.freeC, fun p hp => ?_, I.hok.moved c st I.stkFree, I.len⟩
  · rw [hex]
    refine b0.moved c st sm ff sub (fun b hb => by rw [fc]; exact List.mem_cons_of_mem _ hb) fun b o e hb => ?_
    rw [fc] at hb
    rcases List.mem_cons.mp hb with z | z
    · exact absurd z (nL b o e)
    · exact z
  · obtain ⟨m, hn, hl⟩ := I.loc
    refine ⟨m, sm.ns hn, fun i x v a b cc => ?_⟩
    obtain ⟨u, r, lk⟩ := hl i x v a b cc
    refine ⟨u, r, ?_⟩
    rcases lk with z | ⟨z, cl, e, ic⟩
    · exact .inl z
    · exact .inr ⟨z, cl, e, UpToSlots.isCell sm ic⟩
  · obtain ⟨v, q⟩ := I.cell x cc e
    exact ⟨v, UpToSlots.isCell sm q⟩
  · obtain ⟨e, f, nl, nf, d⟩ := I.pin p hp
    refine ⟨c.stay st p.1 p.2 e (fun z => ?_) (.inr ⟨_, (I1.pin p hp).1⟩), f, nl, nf, d⟩
    rw [fc] at z
    rcases List.mem_cons.mp z with z | z
    · exact nl z
    · exact nf z
/-- the exception is tracked from here on -/
theorem Inv.exc {ea C : Addr} {oe : Obj} (I : Inv X pins σ H s) (hx : H ea = none) (ho : s.heap.get? ea = some oe) (hc : oe.cls = .ref C) (nc : NoCtx s.heap ea) (h0 : X.s₀.heap.get? ea = none) (hL : ea ≠ X.env.locals) (hcl : ∀ y c, X.env.cells.lookup y = some c → c ≠ ea)
    (hp : ∀ p ∈ X.pn ++ pins, p.1 ≠ ea) : Inv X pins σ (upd H ea (ExcO ea C)) s := by
  refine ⟨I.ok, I.os, I.bare, ⟨I.base.keep, I.base.slot, fun b o e z nx => ?_, I.base.there, fun b xs e => ?_, fun b o u e => ?_, fun b ps e => ?_⟩, I.loc, I.cell, ?_, fun y c e => ?_, fun p hp' => ?_, fun b u e => ?_, I.len⟩
  · rw [upd_ne (fun z2 => by rw [z2, h0] at e; cases e)]; exact I.base.free b o e z nx
  · have q := I.base.tups b xs e
    rw [upd_ne (ne_of_none q hx)]; exact q
  · have q := I.base.frzs b o u e
    rw [upd_ne (ne_of_none q hx)]; exact q
  · obtain ⟨more, q⟩ := I.base.tbls b ps e
    exact ⟨more, by rw [upd_ne (ne_of_none q hx)]; exact q⟩
  · rw [upd_ne hL.symm]; exact I.free
  · rw [upd_ne (hcl y c e)]; exact I.freeC y c e
  · obtain ⟨e, f, r⟩ := I.pin p hp'
    exact ⟨e, by rw [upd_ne (hp p hp')]; exact f, r⟩
  · by_cases hb : b = ea
    · subst hb
      rw [upd_same] at e
      cases e
      exact ⟨⟨⟨oe, ho, hc⟩, nc⟩, ⟨oe, ho⟩, fun h1 h2 ⟨⟨o, e, c⟩, n⟩ k => ⟨⟨o, k o e, c⟩, n.keeps k⟩⟩
    · rw [upd_ne hb] at e
      exact (I.hok b u e).stay (fun c v _ q => q) (fun c q => by rw [upd_ne (ne_of_none q hx)]; exact q) fun c xs q => by rw [upd_ne (ne_of_none q hx)]; exact q
/-- a handler's class takes the exception -/
def Takes (X : Cx) (C CB : Addr) : Prop := ∀ (A : Around) (s : Shared) (ea : Addr) (ob : Obj) (Q : Bool → Shared → Prop) (E : Value → Shared → Prop), X.K.In s.heap → s.heap.get? ea = some ob → ob.cls = .ref C → Q true s → wpAny (model X.prog X.w) A (excMatches (.ref ea) (.ref CB)) Q E s
/-! ### try around one call -/
abbrev TX := St → Hp → VK → XK → Prop
def XP (X : Cx) (pins : List (Addr × Obj)) (σ : St) (E : XK) (ev : Value) (s' : Shared) : Prop := ∃ s1 H1 ea C H', Inv X pins σ H1 s1 ∧ ev = .ref ea ∧ Inv X pins σ H' s' ∧ Fly X.stack s1.heap H' ea C s'.heap ∧ E ev (some C) H'
def PEX (X : Cx) (e : Expr) (t : TX) : Prop :=
  ∀ (pins : List (Addr × Obj)) (s : Shared) (σ : St) (H : Hp) (Q : VK) (E : XK), Inv X pins σ H s → t σ H Q E → wpAny (model X.prog X.w) X.A (eval e X.env) (EP X pins σ Q) (XP X pins σ E) s
def xCall (sp : Sp) (dvs : List V) (t : TA) : TX := fun σ H Q E => t σ H fun vs H1 => sp (vs ++ dvs) H1 Q E
end
section
variable {X : Cx} {k : Nat} {f C : Addr} {fd : FuncData} {ps : List Str} {sp : Sp} {dvs : List V} {ds : List Value} {x : Str} {p pos : Pos} {e : Expr} {es : List Expr} {t : TA}
theorem run_fnX {pins : List (Addr × Obj)} {σ : St} {H : Hp} {s : Shared} {Q : VK} {E : XK} {us : List Value} {vs : List V} (hcq : X.calm = true) (F : FnOk X.prog X.w X.K X.mg X.base (CXE X.prog X.w) k f fd ps sp) (hr : Room k X.A) (hb : Binds X.K fd ps ds) (hd : Vals dvs ds)
    (I : Inv X pins σ H s) (r : Vals vs us) (h : sp (vs ++ dvs) H Q E) : wpAny (model X.prog X.w) X.A (call (.ref f) us) (EP X pins σ Q) (XP X pins σ E) s := by
  have r2 : Vals (vs ++ dvs) (us ++ ds) := r.append hd
  have hl : (us ++ ds).length = ps.length := by rw [← r2.length]; exact F.len _ _ _ _ h
  refine wpAny_call (codeAny_mono (F.run X.A X.stack s H ⟨us, []⟩ (us ++ ds) (vs ++ dvs) Q E hr (I.env0 (I.ok.hd hcq)) (hb s us I.kIn hl) r2 h) fun r s' hq => ?_)
  cases r with
  | error e =>
    obtain ⟨ea, C, H', e1, I', fl, q⟩ := I.came hq
    exact ⟨s, H, ea, C, H', I, e1, I', fl, q⟩
  | ok fl =>
    cases fl with
    | ret u => exact I.after hq
    | next => exact False.elim hq
    | brk => exact False.elim hq
    | cont => exact False.elim hq
end
section
variable {X : Cx} {e : Expr} {t : TX} {C CB : Addr} {cx y : Str} {np hpos pos py apos : Pos} {b₀ : Stmt} {suite : List Stmt} {th : TS} {j : Nat}
def tTrySet (j : Nat) (C : Addr) (t : TX) (th : TS) : TS := fun D σ H => t σ H (fun v H1 => D.nx (σ.set j (some v)) H1) fun ev c H1 => ∃ ea, ev = .ref ea ∧ c = some C ∧ (H1 ea = none → th D σ (upd H1 ea (ExcO ea C)))
def tTryDrop (C : Addr) (t : TX) (th : TS) : TS := fun D σ H => t σ H (fun _ H1 => D.nx σ H1) fun ev c H1 => ∃ ea, ev = .ref ea ∧ c = some C ∧ (H1 ea = none → th D σ (upd H1 ea (ExcO ea C)))
end
end L2

namespace L2
open PySem PySem.Spec PyProof.Rows PySem.Builtin PySem.Builtin.ObjectAttr PySem.Builtin.Getset_descriptor
/-! ### the kind of an exception of an own class -/
section
variable {prog : Program} {w : World} {A : Around} {E : Value → Shared → Prop} {s : Shared} {K : PySem.W.Frag} {x D : Addr} {ox : Obj}
/-- what the top must say of such a class -/
structure ExcK (K : PySem.W.Frag) (D : Addr) : Prop where
  ga : PySem.W.findIn K (.ref D) "__getattribute__" = some (some (.builtin "BaseException.__getattribute__"))
  gh : PySem.W.findIn K (.ref D) "__getattr__" = some none
  ha : PySem.W.findIn K (.ref D) "__class__" = some (some (.builtin "object.__class__"))
  hn : PySem.W.specialIn K (.builtin "object.__class__") "__get__" = some (some (.builtin "getset_descriptor.__get__"))
  htk : PySem.W.takesIn K (.builtin "object.__class__") = some true
  hm : PySem.W.mroIn K D (.type "object") = some true
  hb : PySem.W.mroIn K D (.type "BaseException") = some true
theorem find_data (Y : ExcK K D) (X : K.In s.heap) {M : Model} : PySem.W.Looks M s.heap (find (.ref x) (.ref D) "__class__") (.bind (.builtin "getset_descriptor.__get__") (.builtin "object.__class__")) := by
  have L1 := PySem.W.looks_findIn (M := M) X Y.ha
  have L2 : PySem.W.Looks M s.heap (getOf (some (.builtin "object.__class__"))) (some (.builtin "getset_descriptor.__get__")) := PySem.W.looks_specialIn X Y.hn
  refine L1.andThen (L2.andThen ?_)
  have L3 := PySem.W.looks_takesIn (M := M) X Y.htk
  exact (show PySem.W.Looks M s.heap (dataDescriptor? (some (.builtin "object.__class__")) (some (.builtin "getset_descriptor.__get__"))) (some (.builtin "getset_descriptor.__get__", .builtin "object.__class__")) from L3.andThen .now).andThen (PySem.W.Looks.tag .now)
theorem exc_type (hx : s.heap.get? x = some ox) (hc : ox.cls = .ref D) {M : Model} : PySem.W.Looks M s.heap (typeOf (.ref x)) (.ref D) := hc ▸ (PySem.W.Looks.ld hx).andThen .now
theorem exc_class_get (Y : ExcK K D) {R : Result → Shared → Prop} {tp : Value} (X : K.In s.heap) (hx : s.heap.get? x = some ox) (hc : ox.cls = .ref D)
    (h : R (.ok (.ret (.ref D))) s) : codeAny (model prog w) A (.call (.builtin "getset_descriptor.__get__") ⟨[.builtin "object.__class__", .ref x, tp], []⟩) R s := by
  have L0 := exc_type (M := model prog w) hx hc
  obtain ⟨hh, g, dr, t, os⟩ := s
  have L1 := PySem.W.looks_mroIn (M := model prog w) X Y.hm
  refine codeAny_call_builtin PySem.W.KF.slot_gs.plain PySem.W.KF.entry_gs (PySem.W.KF.slot_gs.check _ _ _ _ _ _ _ _ PySem.W.KF.type_class (PySem.W.KF.args_gs _ _ _) ?_)
  unfold Builtin.«getset_descriptor.__get__» descrGet
  rw [PySem.W.dga_obj]
  refine wpAny_bind (wpAny_pure ?_)
  unfold descrGetter descrCheckInstance descrNameAndClass isInstance
  simp only [PySem.W.KF.owner_class]
  repeat lk
  refine ⟨Code.quiet_builtin _ (by decide +kernel), codeAny_builtin PySem.W.KF.entry_class ?_⟩
  unfold Builtin.«object.__class__» shownTypeOf
  repeat lk
  exact h
theorem exc_ga_entry (Y : ExcK K D) {tk : Tok} {Q : Fin → Shared → Prop} (X : K.In s.heap) (hx : s.heap.get? x = some ox) (hc : ox.cls = .ref D)
    (h : Q (.done (.ret (.ref D))) s) :
    wpAny (model prog w) A (Builtin.«object.__getattribute__» ⟨[.ref x, .str "__class__" tk], []⟩) Q E s := by
  have L0 := exc_type (M := model prog w) hx hc
  have L1 := find_data (x := x) (M := model prog w) Y X
  obtain ⟨hh, g, dr, t, os⟩ := s
  unfold Builtin.«object.__getattribute__»
  repeat (first | with_reducible refine PySem.W.Looks.at (by assumption) ?_ | with_reducible refine wpAny_bind ?_ | with_reducible refine wpAny_holding ?_ | with_reducible refine wpAny_call ?_ | with_reducible refine wpAny_runValue ?_ | lk)
  refine exc_class_get (s := ⟨hh, g, dr, t, os⟩) Y X hx hc ?_
  repeat (any_goals (first | assumption | wp_step))
theorem exc_ga_check (Y : ExcK K D) {M : Model} {nameV : Value} {Q : Unit → Shared → Prop} (X : K.In s.heap) (hx : s.heap.get? x = some ox) (hc : ox.cls = .ref D) (hq : Q () s) : wpAny M A (checkBuiltinCall "BaseException.__getattribute__" ⟨[.ref x, nameV], []⟩) Q E s := by
  have hk : builtinKind "BaseException.__getattribute__" = some .slot := by decide +kernel
  have hsplit : splitId "BaseException.__getattribute__" = some ("BaseException", "__getattribute__") := by decide +kernel
  have ha := F.args_bexc_ga (.ref x) nameV
  have L0 := exc_type (M := M) hx hc
  have L1 := PySem.W.looks_mroIn (M := M) X Y.hb
  obtain ⟨hh, g, dr, t, os⟩ := s
  simp only [checkBuiltinCall, hk, hsplit]
  refine wpAny_bind ?_
  · unfold isInstance
    refine wpAny_bind (L0.at (L1.at ?_))
    repeat (first | exact hq | wp_step)
theorem exc_class (Y : ExcK K D) {Q : Option Value → Shared → Prop} (X : K.In s.heap) (hx : s.heap.get? x = some ox) (hc : ox.cls = .ref D) (h : Q (some (.ref D)) { s with toks := s.toks + 1 }) : wpAny (model prog w) A (getAttr? (.ref x) "__class__") Q E s := by
  have L0 := exc_type (M := model prog w) hx hc
  have L1 := PySem.W.looks_findIn (M := model prog w) X Y.ga
  have L2 := PySem.W.looks_findIn (M := model prog w) X Y.gh
  obtain ⟨hh, g, d, t, os⟩ := s
  have f3 := F.excAttr_ValueError.ga.bind (.ref x)
  have hx2 : (Value.builtin "BaseException.__getattribute__" == Value.builtin "object.__getattribute__") = false := by decide +kernel
  have hx1 : (onTheHeap (Value.ref D) && Value.builtin "BaseException.__getattribute__" == Value.builtin "object.__getattribute__") = false := by rw [hx2]; rfl
  unfold getAttr? getAttrBy? getAttrBy
  refine wpAny_bind (wpAny_mkText (wpAny_bind (wpAny_attempt (wpAny_holding (wpAny_bind (L0.at (wpAny_bind (L1.at ?_))))))))
  dsimp only
  rw [if_neg (by rw [hx1]; decide)]
  unfold getAttrByItsOwn hookBefore
  refine wpAny_bind ?_
  rw [if_pos (show onTheHeap (Value.ref D) = true from rfl)]
  refine L2.at (wpAny_bind (wpAny_attempt ?_))
  refine wpAny_holding ?_
  unfold callGetattribute boundAndCalled
  rw [if_neg (by decide), f3]
  refine wpAny_bind (wpAny_pure (wpAny_call (codeAny_call_builtin F.excAttr_ValueError.ga.plain F.entry_bexc_ga (exc_ga_check (s := ⟨hh, g, d, t + 1, os⟩) Y X hx hc (exc_ga_entry (s := ⟨hh, g, d, t + 1, os⟩) Y X hx hc ?_)))))
  repeat (any_goals (first | exact h | wp_step))
end
end L2

namespace L2
open PySem PySem.Spec PyProof.Rows
section
variable {K : PySem.W.Frag} {x D : Addr}
theorem kitx_exc (Y : ExcK K D) : PySem.W.KitX K (.ref x) (.ref D) (fun h => ∃ o, h.get? x = some o ∧ o.cls = .ref D) where
  ty := fun _ h _ ⟨o, h1, h2⟩ => h2 ▸ (PySem.W.Looks.ld h1).andThen .now
  it := fun _ _ X _ => by
    obtain ⟨cdD, hcD, _⟩ := Option.bind_eq_some_iff.mp Y.hm
    unfold PySem.W.clsIn at hcD
    split at hcD
    · rename_i c' d' cd' sl' ho
      intro A' Q' E' s' k q
      unfold isType loadHead
      exact wpAny_bind (wpAny_loadPart (k _ _ (X _ _ ho)) (wpAny_pure q))
    · cases hcD
  ne := fun h tp dd its n sl X htp => by
    obtain ⟨cdD, hcD, _⟩ := Option.bind_eq_some_iff.mp Y.hm
    refine Bool.eq_false_iff.mpr fun q => ?_
    have e : D = tp := Value.ref.inj (beq_iff_eq.mp q)
    subst e
    unfold PySem.W.clsIn at hcD
    split at hcD
    · rename_i c' d' cd' sl' ho
      have z := (X _ _ ho).symm.trans htp
      cases z
    · cases hcD
  ca := fun X ⟨o, h1, h2⟩ k => exc_class Y X h1 h2 k
end
section
variable {X : Cx}
theorem HOk.exc {P : Program} {w : World} {H : Hp} {h : Heap} {ea C : Addr} (x : HOk P w H h) (e : H ea = some (ExcO ea C)) : ∃ o, h.get? ea = some o ∧ o.cls = .ref C := by
  obtain ⟨q, _⟩ := x ea _ e
  exact q.1
/-- isinstance of an exception of an own class -/
theorem call_isinstE {C : Addr} (Y : ExcK X.K C) : CallR X (.builtin "isinstance") (fun xs H Q => ∃ ea n b, xs = [.ref ea, .ty n] ∧ H ea = some (ExcO ea C) ∧ PySem.W.kitOne X.K (.ref C) (.type n) = some b ∧ Q (.bl b) H) := by
  intro pins s σ H xs us Q I r h
  obtain ⟨ea, n, b, rfl, ty, e, q⟩ := h
  obtain ⟨u, u2, rfl, rx, r2⟩ := vals2 r
  cases (show u2 = Value.type n from r2)
  cases (show u = Value.ref ea from rx)
  exact PySem.W.kia_one (kitx_exc Y) I.kIn (I.hok.exc ty) e (fun z => nomatch z) fun tk => ⟨.bl b, H, I.tok _, rfl, q⟩
theorem call_isinstEC {C : Addr} (Y : ExcK X.K C) : CallR X (.builtin "isinstance") (fun xs H Q => ∃ ea B b, xs = [.ref ea, .ref B] ∧ H ea = some (ExcO ea C) ∧ PySem.W.kitOne X.K (.ref C) (.ref B) = some b ∧ Q (.bl b) H) := by
  intro pins s σ H xs us Q I r h
  obtain ⟨ea, B, b, rfl, ty, e, q⟩ := h
  obtain ⟨u, u2, rfl, rx, r2⟩ := vals2 r
  cases (show u2 = Value.ref B from r2)
  cases (show u = Value.ref ea from rx)
  exact PySem.W.kia_one (kitx_exc Y) I.kIn (I.hok.exc ty) e (fun z => nomatch z) fun tk => ⟨.bl b, H, I.tok _, rfl, q⟩
end
section
variable {X : Cx} {pins : List (Addr × Obj)} {σ : St} {H H1 : Hp} {s s1 : Shared} {ev : Value}
/-- a name that goes -/
theorem goes_ok {M : Model} {A : Around} {E : Value → Shared → Prop} {i : Nat} {x : Str} {pos : Pos} {Q : Unit → Shared → Prop} (I : Inv X pins σ H s) (hN : X.N.Nodup) (hi : X.N[i]? = some x) (hk : X.env.scope.names.lookup x = some .local)
    (h : ∀ s', Inv X pins (σ.set i none) H s' → Q () s') : wpAny M A (do bindName X.env x .none; unbindBehindTheSuite X.env x pos) Q E s := by
  obtain ⟨m, hn, hl⟩ := id I.loc
  have hcls : (X.env.scope.kind == .class || (X.env.scope.kind == .module && X.env.locals != X.env.globals)) = false := by rw [I.ok.kind]; rfl
  have hiσ : i < σ.length := by rw [I.len]; exact (List.getElem?_eq_some_iff.mp hi).1
  have cne := I.cne
  have tracked : ∀ {a : Addr} {h' : Heap}, (∃ o, s.heap.get? a = some o ∧ H a = none) → Heap.SameBut a s.heap h' → HOk X.prog X.w H h' := fun {a h'} ha hs b ob e => by
    obtain ⟨_, _, hfree⟩ := ha
    refine (I.hok b ob e).stay (fun c w' hc q => (hs.2 c ?_).trans q) (fun _ q => q) fun _ _ q => q
    rintro rfl
    rcases hc with rfl | hc
    · rw [hfree] at e; cases e
    · rw [hfree] at hc; cases hc
  refine wpAny_nameGoes_keeps hk hn hcls fun h' v0 hn' hs => ?_
  obtain ⟨oL, _, _, hoL, _⟩ := id hn
  refine h _ ⟨I.ok, I.os, I.bare, ⟨fun b o e n hb hx => ?_, fun b o e n hb hx => ?_, I.base.free, fun b o e hx => ?_, I.base.tups, I.base.frzs, I.base.tbls⟩, ⟨_, hn', fun j y v' e1 e2 e3 => ?_⟩, fun y c e => ?_, I.free, I.freeC, fun p hp => ?_, tracked ⟨oL, hoL, I.free⟩ hs, by simpa using I.len⟩
  · exact (hs.2 b (Nat.ne_of_lt (Nat.lt_of_lt_of_le (Heap.lt_size e) I.ok.above))).trans (I.base.keep b o e n hb hx)
  · obtain ⟨sl, e1⟩ := I.base.slot b o e n hb hx
    exact ⟨sl, (hs.2 b (Nat.ne_of_lt (Nat.lt_of_lt_of_le (Heap.lt_size e) I.ok.above))).trans e1⟩
  · obtain ⟨o', e1⟩ := I.base.there b o e hx
    exact ⟨o', (hs.2 b (Nat.ne_of_lt (Nat.lt_of_lt_of_le (Heap.lt_size e) I.ok.above))).trans e1⟩
  · by_cases hj : j = i
    · subst hj
      rw [List.getElem?_set_self hiσ] at e2
      cases e2
    · rw [List.getElem?_set_ne (Ne.symm hj)] at e2
      obtain ⟨u', r', q⟩ := hl j y v' e1 e2 e3
      refine ⟨u', r', ?_⟩
      rcases q with ⟨k, e⟩ | ⟨k, c, e, z⟩
      · refine .inl ⟨k, ?_⟩
        have : y ≠ x := fun e => hj (nodup_ix hN e1 (e ▸ hi))
        simp [this, e]
      · exact .inr ⟨k, c, e, z.sameBut hs (cne y c e)⟩
  · obtain ⟨w', z⟩ := I.cell y c e
    exact ⟨w', z.sameBut hs (cne y c e)⟩
  · obtain ⟨e, n, ne, nf, d⟩ := I.pin p hp
    exact ⟨(hs.2 p.1 ne).trans e, n, ne, nf, d⟩
/-- a handler's class takes an exception of a class below it -/
theorem takes_sub {x y : Str} {C CB : Addr} {bm bm2 : List Value} {new new2 : String} (hm : X.mg x = some (.ref C)) (qx : PySem.W.excIn X.K C bm new = true) (hmB : X.mg y = some (.ref CB)) (qxB : PySem.W.excIn X.K CB bm2 new2 = true) (hb : bm2.contains (.type "BaseException") = true)
    (hs : PySem.W.mroIn X.K C (.ref CB) = some true) : Takes X C CB := by
  intro A s ea ob Q E k ho hc q
  obtain ⟨tl, N, nm, q', bs, hdct, sn, sub, ab, col, dd, k0, k1, k2, k3, k5, mN, hC, hN, hni, T⟩ := (own_in k hmB qxB).obj
  obtain ⟨h, g, d, t, os⟩ := s
  have he := ho
  have hcls := hc
  have hbase := T.hasType hb
  have hcB : (Value.ref CB :: tl).contains (.type "BaseException") = true := by rw [List.contains_cons, hbase, Bool.or_true]
  have f := tc_notTuple
  have L1 := PySem.W.looks_mroIn (M := model X.prog X.w) k hs
  unfold excMatches
  repeat (first | (with_reducible refine wpAny_loadPart_at he ?_; rw [hcls]) | with_reducible refine wpAny_loadPart_at hC ?_ | (with_reducible refine wpAny_isSubtype_exc hC ?_; rw [hcB]) | (with_reducible refine PySem.W.Looks.at (by assumption) ?_) | wp_step)
  exact q
def Ends.gone (D : Ends) (i : Nat) : Ends := ⟨fun σ H => D.nx (σ.set i none) H, D.rt, fun σ H => D.bk (σ.set i none) H, fun σ H => D.ct (σ.set i none) H⟩
/-- the exception comes down at a handler -/
theorem landsAs {n : Str} {i : Nat} {ea C CB : Addr} {cx : Str} {np hpos : Pos} {b₀ : Stmt} {suite : List Stmt} {rest : List ExceptHandler} {D : Ends} {th : Addr → TS} {E : Value → Shared → Prop} (I1 : Inv X pins σ H1 s1) (I : Inv X pins σ H s) (hst : X.stack = X.env :: X.outer) (fr : X.env.frame = some X.env.locals) (hex : X.ex = [])
    (fly : Fly X.stack s1.heap H ea C s.heap) (hg : Gl X cx) (hm : X.mg cx = some (.ref CB)) (tk : Takes X C CB) (hs : ∀ x, PSs (X.hnd (.ref x)) (b₀ :: suite) (th x)) (hN : X.N.Nodup) (hi : X.N[i]? = some n) (hk : X.env.scope.names.lookup n = some .local) (q : H ea = none → th ea (D.gone i) (σ.set i (some (.ref ea))) (upd H ea (ExcO ea C))) (hd : (cx == ("__debug__" : Str)) = false) :
    wpAny (model X.prog X.w) X.A (noteFrame (.ref ea) X.env) (fun _ s₂ => wpAny (model X.prog X.w) X.A (setFlight (.ref ea) none) (fun _ s₃ =>
      wpAny (model X.prog X.w) X.A (handleBy (.ref ea) X.env (.ExceptHandler (some (.Name cx np)) (some n) (b₀ :: suite) hpos :: rest)) (SP X pins D) E s₃) E s₂) E s := by
  obtain ⟨B, a0, fl, c, nc⟩ := fly
  have hfr : X.A.frames = some (X.env :: X.outer) := by rw [I.ok.frames, hst]
  have ff := fl.2.2.1
  have fl' : Heap.FlyingW B (X.env :: X.outer) ea (.ref C) a0 s.heap := by rw [← hst]; exact fl
  refine note_ctx hfr fr fl' nc fun h₄ held₄ sm₄ nc₄ => ?_
  refine flight_ctx (s := { s with heap := h₄ }) held₄.1 held₄.2.1 held₄.2.2.1 held₄.2.2.2 nc₄ fun h₅ fl₅ sm₅ nc₅ => ?_
  have I5 := Inv.moved I1 I hst fr hex c fl₅.1 (sm₄.trans sm₅) ff
  obtain ⟨ob, hob, hobc⟩ := fl₅.there
  refine wpAny_handleBy_cons (codeAny_handlers_test (ld_glob (X := X.hnd (.ref ea)) (I5.hnd (.ref ea)) hg hm ?_ hd)) (by intro z; cases z)
  refine tk _ _ ea ob _ _ I5.kIn hob hobc (codeAny_handlers_suite_as ?_)
  refine flight_ctx (s := { s with heap := h₅ }) fl₅.1 fl₅.2.1 fl₅.2.2.1 fl₅.2.2.2.at nc₅ fun h₆ fl₆ sm₆ nc₆ => ?_
  have I6 := Inv.moved I1 I hst fr hex c fl₆.1 ((sm₄.trans sm₅).trans sm₆) ff
  obtain ⟨oe, ws, hoe, hoec, hoed, hoe0⟩ := fl₆.first
  have nfr : ea ∉ frs X.stack := fun z => by
    have ff6 := fl₆.2.2.1
    rw [← hst] at ff6
    obtain ⟨_, o', e', d'⟩ := ff6.mem (show ea ∈ X.stack.filterMap (·.frame) from z)
    rw [hoe] at e'
    cases e'
    exact d' ws hoed
  obtain ⟨o1, e1, _⟩ := fl.there
  have hB := fl.2.1
  have hHe : H ea = none := by
    cases z : H ea with
    | none => rfl
    | some u =>
      have := c ea o1 e1 nfr (.inl (by rw [z]; intro y; cases y))
      rw [hB] at this; cases this
  have h1e : s1.heap.get? ea = none := by
    cases z : s1.heap.get? ea with
    | none => rfl
    | some u =>
      have := c ea o1 e1 nfr (.inr ⟨u, z⟩)
      rw [hB] at this; cases this
  have h0e : X.s₀.heap.get? ea = none := by
    cases z : X.s₀.heap.get? ea with
    | none => rfl
    | some u =>
      obtain ⟨o', e'⟩ := I1.base.there ea u z (by rw [hex]; simp)
      rw [h1e] at e'; cases e'
  have I6x := I6.exc hHe hoe hoec nc₆ h0e (fun z => nfr (by rw [frs_cons hst fr, z]; exact List.mem_cons_self)) (fun y cc e z => by
    obtain ⟨v, o, e', _⟩ := I1.cell y cc e
    rw [z, h1e] at e'; cases e') fun p hp z => by
      have := (I1.pin p hp).1
      rw [z, h1e] at this; cases this
  refine store_ok I6x hN hi (.inl hk) (v := .ref ea) rfl (fun s7 I7 => ?_) (.inr hk)
  refine wpAny_mono (hs ea pins _ _ _ (D.gone i) (I7.hnd _) (q hHe)) (fun f s8 h8 => ?_) fun _ _ z => z.elim
  have h9 := SP.unhnd I.ok h8
  cases f with
  | next => obtain ⟨σ', H', I', q'⟩ := h9; exact goes_ok I' hN hi hk fun s9 I9 => ⟨_, H', I9, q'⟩
  | brk => obtain ⟨σ', H', I', q'⟩ := h9; exact goes_ok I' hN hi hk fun s9 I9 => ⟨_, H', I9, q'⟩
  | cont => obtain ⟨σ', H', I', q'⟩ := h9; exact goes_ok I' hN hi hk fun s9 I9 => ⟨_, H', I9, q'⟩
  | ret v => obtain ⟨x, σ', H', I', r, q'⟩ := h9; exact goes_ok I' hN hi hk fun s9 I9 => ⟨x, _, H', I9, r, q'⟩
end
section
variable {X : Cx} {e : Expr} {t : TX} {C CB : Addr} {cx n : Str} {np hpos pos epos : Pos} {b₀ : Stmt} {suite : List Stmt} {th : Addr → TS} {i : Nat}
/-- try: one call, dropped; except CB as n -/
def tTryAs (i : Nat) (C : Addr) (t : TX) (th : Addr → TS) : TS := fun D σ H => t σ H (fun _ H1 => D.nx σ H1) fun ev c H1 => ∃ ea, ev = .ref ea ∧ c = some C ∧ (H1 ea = none → th ea (D.gone i) (σ.set i (some (.ref ea))) (upd H1 ea (ExcO ea C)))
theorem ps_tryAs (hst : X.stack = X.env :: X.outer) (fr : X.env.frame = some X.env.locals) (hex : X.ex = []) (hN : X.N.Nodup) (hi : X.N[i]? = some n) (hk : X.env.scope.names.lookup n = some .local) (he : PEX X e t) (hg : Gl X cx) (hm : X.mg cx = some (.ref CB)) (tk : Takes X C CB)
    (hs : ∀ x, PSs (X.hnd (.ref x)) (b₀ :: suite) (th x)) (hd : (cx == ("__debug__" : Str)) = false := by decide) (hsw : swapsWith e none epos.line X.env = pure false := by rfl) :
    PS X (.Try [.Expr e epos] [.ExceptHandler (some (.Name cx np)) (some n) (b₀ :: suite) hpos] [] [] pos) (tTryAs i C t th) := by
  intro pins s σ H D I h
  refine wpAny_Try_except (wpAny_execs_cons (wpAny_mono (wpAny_Expr_any (Q := fun f s1 => f = .next ∧ SP X pins D .next s1) (wpAny_mono (he pins s σ H _ _ I h) (fun v s1 ⟨y1, H1, I1, r1, q1⟩ => ?_) fun ev s1 hx => ?_) I.quiet hsw) (fun f s1 hq => ?_) fun _ _ z => z))
  · exact ⟨rfl, _, H1, I1, q1⟩
  · obtain ⟨s0, H0, ea, C', H', I0, rfl, I', fl, ea2, e2, rfl', q⟩ := hx
    cases e2
    obtain rfl : C' = C := Option.some.inj rfl'
    exact landsAs I0 I' hst fr hex fl hg hm tk hs hN hi hk q hd
  · obtain ⟨rfl, hq⟩ := hq
    exact wpAny_execs_nil (wpAny_execs_nil hq)
end
end L2

/-! data that == compares: flat values and tuples of them; lists of such -/
namespace L2
open PySem PySem.Spec PyProof.Rows
theorem PE.ex {X : Cx} {α : Type} {e : Expr} {t : α → TE} (h : ∀ a, PE X e (t a)) : PE X e (fun σ H Q => ∃ a, t a σ H Q) := by
  intro pins s σ H Q I q
  obtain ⟨a, q⟩ := q
  exact h a pins s σ H Q I q
section
variable {P : Program} {w : World} {K : PySem.W.Frag} {H : Hp} {h : Heap} {a b : Addr} {xs ys : List V}
theorem sqL_raw (hok : HOk P w H h) (kin : K.In h) (q : SqL K H a xs) : ∃ its : List Value, Vals xs its ∧ PlainL h a its.toArray ∧ xs.length ≤ sizeLine := by
  rcases q with q | ⟨o, its, n, hk, hc, hd, hs, hz, r⟩
  · obtain ⟨z, its, n, r, e⟩ := q.ok hok
    exact ⟨its, r, ⟨_, n, e, rfl, rfl, rfl⟩, z⟩
  · refine ⟨its.toList, r, ⟨o, n, kin a o hk, hc, hd, by simpa using hs⟩, ?_⟩
    have e := r.length
    simp only [Array.length_toList] at e
    omega
theorem sqT_raw (hok : HOk P w H h) (kin : K.In h) (q : SqT K H a xs) : ∃ its : List Value, Vals xs its ∧ IsTup h a its.toArray ∧ xs.length ≤ sizeLine := by
  rcases q with q | ⟨o, its, n, hk, hc, hs, hz, r⟩
  · obtain ⟨z, its, r, p⟩ := q.ok hok
    exact ⟨its, r, p, z⟩
  · refine ⟨its.toList, r, ⟨o, kin a o hk, hc, n, by simpa using hs⟩, ?_⟩
    have e := r.length
    simp only [Array.length_toList] at e
    omega
theorem sqT_inj (hok : HOk P w H h) (kin : K.In h) (q : SqT K H a xs) (q' : SqT K H a ys) : xs = ys := by
  obtain ⟨its, r, ⟨o, e, _, n, d⟩, _⟩ := sqT_raw hok kin q
  obtain ⟨its', r', ⟨o', e', _, n', d'⟩, _⟩ := sqT_raw hok kin q'
  rw [e] at e'; cases e'
  rw [d] at d'
  injection d' with d1 _
  have : its = its' := by simpa using congrArg Array.toList d1
  subst this
  exact r.inj r'
/-- a tuple: a new one, or one of the module -/
def SqU (K : PySem.W.Frag) (H : Hp) (a : Addr) (xs : List V) : Prop :=
  H a = some (.tup xs) ∨ ∃ (o : Obj) (its : Array Value) (n : Nat), K.lookup a = some o ∧ o.cls = .type "tuple" ∧ o.data = .seq its n ∧ its.size ≤ sizeLine ∧ Vals xs its.toList
theorem SqU.sq (q : SqU K H a xs) : SqT K H a xs := q.elim (fun z => .inl (.inl z)) .inr
/-- the tuples stay -/
def TSame (H H' : Hp) : Prop := ∀ b xs, H b = some (.tup xs) → H' b = some (.tup xs)
theorem Same.ts {H H' : Hp} (e : Same H H') : TSame H H' := fun b xs h => e b _ h
theorem SqU.keep {H' : Hp} (e : TSame H H') (q : SqU K H a xs) : SqU K H' a xs := q.elim (fun z => .inl (e _ _ z)) .inr
end
/-! ### answers of == and != -/
def EqIs (K : PySem.W.Frag) (n : Nat) (H : Hp) (x y : V) (b : Bool) : Prop :=
  ∀ (P : Program) (w : World) (A : Around) (s : Shared) (u v : Value), A.units + n < cLine → HOk P w H s.heap → K.In s.heap → RelV x u → RelV y v → SeqAt.EqAt A s u v b
def RcIs (K : PySem.W.Frag) (n : Nat) (H : Hp) (x y : V) (b : Bool) : Prop :=
  ∀ (P : Program) (w : World) (A : Around) (s : Shared) (u v : Value), A.units + n < cLine → HOk P w H s.heap → K.In s.heap → RelV x u → RelV y v → SeqAt.RcAt A s u v b
def NeIs (K : PySem.W.Frag) (n : Nat) (H : Hp) (x y : V) (b : Bool) : Prop :=
  ∀ (P : Program) (w : World) (A : Around) (s : Shared) (u v : Value), A.units + n < cLine → HOk P w H s.heap → K.In s.heap → RelV x u → RelV y v → SeqAt.RcNeAt A s u v (!b)
section
variable {K : PySem.W.Frag} {H : Hp} {a b : Addr} {n m : Nat} {x y : V} {r : Bool}
theorem EqIs.mono (h : EqIs K n H x y r) (le : n ≤ m) : EqIs K m H x y r := fun P w A s u v hA => h P w A s u v (by omega)
theorem tupRc {us vs : List V} {e : Nat → Bool} (ha : SqT K H a us) (hb : SqT K H b vs) (hl : us.length = vs.length) (he : ∀ (j : Nat) x y, us[j]? = some x → vs[j]? = some y → EqIs K n H x y (e j)) :
    RcIs K (n + 1) H (.ref a) (.ref b) ((List.range us.length).all e) ∧ NeIs K (n + 1) H (.ref a) (.ref b) ((List.range us.length).all e) := by
  have main : ∀ (P : Program) (w : World) (A : Around) (s : Shared) (u v : Value), A.units + (n + 1) < cLine → HOk P w H s.heap → K.In s.heap → RelV (.ref a) u → RelV (.ref b) v →
      SeqAt.RcAt A s u v ((List.range us.length).all e) ∧ SeqAt.RcNeAt A s u v (!(List.range us.length).all e) := by
    intro P w A s u v hA hok kin r1 r2
    cases r1
    cases r2
    obtain ⟨i1, v1, p1, _⟩ := sqT_raw hok kin ha
    obtain ⟨i2, v2, p2, _⟩ := sqT_raw hok kin hb
    have l1 := v1.length
    have l2 := v2.length
    have items : ∀ j (h1 : j < i1.toArray.size) (h2 : j < i2.toArray.size), SeqAt.EqAt A.in1 s i1.toArray[j] i2.toArray[j] (e j) := fun j h1 h2 => by
      have h1' : j < i1.length := by simpa using h1
      have h2' : j < i2.length := by simpa using h2
      have e1 : us[j]? = some us[j] := List.getElem?_eq_getElem (by omega)
      have e2 : vs[j]? = some vs[j] := List.getElem?_eq_getElem (by omega)
      obtain ⟨u, eu, ru⟩ := v1.get e1
      obtain ⟨v, ev, rv⟩ := v2.get e2
      have q := he j _ _ e1 e2 P w A.in1 s u v (by show A.units + 1 + n < cLine; omega) hok kin ru rv
      have z1 : i1.toArray[j] = u := by
        rw [List.getElem?_eq_getElem h1'] at eu
        simpa using Option.some.inj eu
      have z2 : i2.toArray[j] = v := by
        rw [List.getElem?_eq_getElem h2'] at ev
        simpa using Option.some.inj ev
      rw [z1, z2]
      exact q
    have ez : ((List.range (min i1.toArray.size i2.toArray.size)).all e && i1.toArray.size == i2.toArray.size) = (List.range us.length).all e := by
      have s1 : i1.toArray.size = us.length := by simp [l1]
      have s2 : i2.toArray.size = us.length := by simp [← l2, hl]
      rw [s1, s2, Nat.min_self]
      simp
    constructor
    · have q := SeqAt.RcAt.tuples (A := A) (s := s) (e := e) p1 p2 (by omega) items
      rw [ez] at q
      exact q
    · have q := SeqAt.RcNeAt.tuples (A := A) (s := s) (e := e) p1 p2 (by omega) items
      rw [ez] at q
      exact q
  exact ⟨fun P w A s u v h1 h2 h3 h4 h5 => (main P w A s u v h1 h2 h3 h4 h5).1, fun P w A s u v h1 h2 h3 h4 h5 => (main P w A s u v h1 h2 h3 h4 h5).2⟩
theorem eqIs_ref (h : RcIs K n H (.ref a) (.ref b) r) (hs : ∀ (P : Program) (w : World) (h : Heap), HOk P w H h → K.In h → a = b → r = true) : EqIs K n H (.ref a) (.ref b) r := by
  intro P w A s u v hA hok kin r1 r2
  have q := h P w A s u v hA hok kin r1 r2
  cases r1
  cases r2
  by_cases e : a = b
  · rw [hs P w s.heap hok kin e, e]
    exact SeqAt.EqAt.same _
  · exact SeqAt.EqAt.of_refs e q
end
/-- a kind of data: how it lies, that it lies for one thing alone, and what == and != tell of it -/
structure Cod (α : Type) [DecidableEq α] where
  n : Nat
  rp : PySem.W.Frag → Hp → α → V → Prop
  inj : ∀ {P : Program} {w : World} {K : PySem.W.Frag} {H : Hp} {h : Heap} {x y : α} {v : V}, HOk P w H h → K.In h → rp K H x v → rp K H y v → x = y
  eq : ∀ {K : PySem.W.Frag} {H : Hp} {x y : α} {u v : V}, rp K H x u → rp K H y v → EqIs K n H u v (decide (x = y))
  rc : ∀ {K : PySem.W.Frag} {H : Hp} {x y : α} {u v : V}, rp K H x u → rp K H y v → RcIs K n H u v (decide (x = y))
  ne : ∀ {K : PySem.W.Frag} {H : Hp} {x y : α} {u v : V}, rp K H x u → rp K H y v → NeIs K n H u v (decide (x = y))
  keep : ∀ {K : PySem.W.Frag} {H H' : Hp} {x : α} {v : V}, TSame H H' → rp K H x v → rp K H' x v
def cInt : Cod Int where
  n := 0
  rp _ _ i v := v = .int i
  inj _ _ h1 h2 := by
    rw [h1] at h2
    exact V.int.inj h2
  eq h1 h2 := by
    intro P w A s u v _ _ _ r1 r2
    subst h1 h2
    obtain ⟨t, rfl⟩ := r1
    obtain ⟨t', rfl⟩ := r2
    rw [← Bool.beq_eq_decide_eq]
    exact SeqAt.EqAt.int_int _ t _ t'
  rc h1 h2 := by
    intro P w A s u v _ _ _ r1 r2
    subst h1 h2
    obtain ⟨t, rfl⟩ := r1
    obtain ⟨t', rfl⟩ := r2
    rw [← Bool.beq_eq_decide_eq]
    exact SeqAt.RcAt.int_int _ t _ t'
  ne h1 h2 := by
    intro P w A s u v _ _ _ r1 r2
    subst h1 h2
    obtain ⟨t, rfl⟩ := r1
    obtain ⟨t', rfl⟩ := r2
    rw [← Bool.beq_eq_decide_eq]
    exact SeqAt.RcNeAt.int_int _ t _ t'
  keep _ h := h
theorem str_beq_dec (x y : Str) : decide (x = y) = (x == y) := by
  rw [Bool.eq_iff_iff]
  simp
def cStr : Cod Str where
  n := 0
  rp _ _ i v := v = .str i
  inj _ _ h1 h2 := by
    rw [h1] at h2
    exact V.str.inj h2
  eq h1 h2 := by
    intro P w A s u v _ _ _ r1 r2
    subst h1 h2
    obtain ⟨t, rfl⟩ := r1
    obtain ⟨t', rfl⟩ := r2
    rw [str_beq_dec]
    exact SeqAt.EqAt.str_str _ t _ t'
  rc h1 h2 := by
    intro P w A s u v _ _ _ r1 r2
    subst h1 h2
    obtain ⟨t, rfl⟩ := r1
    obtain ⟨t', rfl⟩ := r2
    rw [str_beq_dec]
    exact SeqAt.RcAt.str_str _ t _ t'
  ne h1 h2 := by
    intro P w A s u v _ _ _ r1 r2
    subst h1 h2
    obtain ⟨t, rfl⟩ := r1
    obtain ⟨t', rfl⟩ := r2
    rw [str_beq_dec]
    exact SeqAt.RcNeAt.str_str _ t _ t'
  keep _ h := h
def cBl : Cod Bool where
  n := 0
  rp _ _ i v := v = .bl i
  inj _ _ h1 h2 := by
    rw [h1] at h2
    exact V.bl.inj h2
  eq h1 h2 := by
    intro P w A s u v _ _ _ r1 r2
    subst h1 h2
    cases r1
    cases r2
    rw [← Bool.beq_eq_decide_eq]
    exact SeqAt.EqAt.bool_bool _ _
  rc h1 h2 := by
    intro P w A s u v _ _ _ r1 r2
    subst h1 h2
    cases r1
    cases r2
    rw [← Bool.beq_eq_decide_eq]
    exact SeqAt.RcAt.bool_bool _ _
  ne h1 h2 := by
    intro P w A s u v _ _ _ r1 r2
    subst h1 h2
    cases r1
    cases r2
    rw [← Bool.beq_eq_decide_eq]
    exact SeqAt.RcNeAt.bool_bool _ _
  keep _ h := h
section
variable {α β γ : Type} [DecidableEq α] [DecidableEq β] [DecidableEq γ]
def cVia (f : β → α) (hf : ∀ x y, f x = f y → x = y) (c : Cod α) : Cod β where
  n := c.n
  rp K H x v := c.rp K H (f x) v
  inj h1 h2 h3 h4 := hf _ _ (c.inj h1 h2 h3 h4)
  eq {K H x y u v} h1 h2 := by
    have e : decide (x = y) = decide (f x = f y) := decide_eq_decide.mpr ⟨fun z => by rw [z], fun z => hf _ _ z⟩
    rw [e]
    exact c.eq h1 h2
  rc {K H x y u v} h1 h2 := by
    have e : decide (x = y) = decide (f x = f y) := decide_eq_decide.mpr ⟨fun z => by rw [z], fun z => hf _ _ z⟩
    rw [e]
    exact c.rc h1 h2
  ne {K H x y u v} h1 h2 := by
    have e : decide (x = y) = decide (f x = f y) := decide_eq_decide.mpr ⟨fun z => by rw [z], fun z => hf _ _ z⟩
    rw [e]
    exact c.ne h1 h2
  keep h1 h2 := c.keep h1 h2
def rT2 (c : Cod α) (d : Cod β) (K : PySem.W.Frag) (H : Hp) (x : α × β) (v : V) : Prop := ∃ a u w, v = .ref a ∧ SqU K H a [u, w] ∧ c.rp K H x.1 u ∧ d.rp K H x.2 w
theorem rT2_inj {c : Cod α} {d : Cod β} {P : Program} {w : World} {K : PySem.W.Frag} {H : Hp} {h : Heap} {x y : α × β} {v : V} (hok : HOk P w H h) (kin : K.In h) (h1 : rT2 c d K H x v) (h2 : rT2 c d K H y v) : x = y := by
  obtain ⟨a, u, t, rfl, ha, hu, ht⟩ := h1
  obtain ⟨b, u', t', e, hb, hu', ht'⟩ := h2
  cases e
  have z := sqT_inj hok kin ha.sq hb.sq
  cases z
  exact Prod.ext (c.inj hok kin hu hu') (d.inj hok kin ht ht')
theorem rT2_rc {c : Cod α} {d : Cod β} {K : PySem.W.Frag} {H : Hp} {x y : α × β} {u v : V} (h1 : rT2 c d K H x u) (h2 : rT2 c d K H y v) :
    RcIs K (max c.n d.n + 1) H u v (decide (x = y)) ∧ NeIs K (max c.n d.n + 1) H u v (decide (x = y)) := by
  obtain ⟨a, u, t, rfl, ha, hu, ht⟩ := h1
  obtain ⟨b, u', t', rfl, hb, hu', ht'⟩ := h2
  have T := tupRc (n := max c.n d.n) (e := fun j => if j = 0 then decide (x.1 = y.1) else decide (x.2 = y.2)) ha.sq hb.sq rfl (fun j p q e1 e2 => by
    match j, e1, e2 with
    | 0, e1, e2 => cases e1; cases e2; exact (c.eq hu hu').mono (Nat.le_max_left _ _)
    | 1, e1, e2 => cases e1; cases e2; exact (d.eq ht ht').mono (Nat.le_max_right _ _))
  have e : ((List.range ([u, t] : List V).length).all fun j => if j = 0 then decide (x.1 = y.1) else decide (x.2 = y.2)) = decide (x = y) := by
    show (decide (x.1 = y.1) && (decide (x.2 = y.2) && true)) = decide (x = y)
    rw [Bool.and_true, ← Bool.decide_and]
    exact decide_eq_decide.mpr (Prod.ext_iff (x := x) (y := y)).symm
  rw [e] at T
  exact T
def cT2 (c : Cod α) (d : Cod β) : Cod (α × β) where
  n := max c.n d.n + 1
  rp := rT2 c d
  inj := rT2_inj
  rc h1 h2 := (rT2_rc h1 h2).1
  ne h1 h2 := (rT2_rc h1 h2).2
  eq {K H x y u v} h1 h2 := by
    have r := (rT2_rc h1 h2).1
    have i := fun P w h hok kin => rT2_inj (c := c) (d := d) (P := P) (w := w) (K := K) (H := H) (h := h) (x := x) (y := y) (v := v) hok kin
    obtain ⟨a, _, _, rfl, _⟩ := id h1
    obtain ⟨b, _, _, rfl, _⟩ := id h2
    refine eqIs_ref r fun P w h hok kin e => ?_
    subst e
    exact decide_eq_true (i P w h hok kin h1 h2)
  keep e h := let ⟨a, u, w, h1, h2, h3, h4⟩ := h; ⟨a, u, w, h1, h2.keep e, c.keep e h3, d.keep e h4⟩
def rT3 (c : Cod α) (d : Cod β) (f : Cod γ) (K : PySem.W.Frag) (H : Hp) (x : α × β × γ) (v : V) : Prop := ∃ a u w z, v = .ref a ∧ SqU K H a [u, w, z] ∧ c.rp K H x.1 u ∧ d.rp K H x.2.1 w ∧ f.rp K H x.2.2 z
theorem rT3_inj {c : Cod α} {d : Cod β} {f : Cod γ} {P : Program} {w : World} {K : PySem.W.Frag} {H : Hp} {h : Heap} {x y : α × β × γ} {v : V} (hok : HOk P w H h) (kin : K.In h) (h1 : rT3 c d f K H x v) (h2 : rT3 c d f K H y v) : x = y := by
  obtain ⟨a, u, t, z, rfl, ha, hu, ht, hz⟩ := h1
  obtain ⟨b, u', t', z', e, hb, hu', ht', hz'⟩ := h2
  cases e
  have q := sqT_inj hok kin ha.sq hb.sq
  cases q
  exact Prod.ext (c.inj hok kin hu hu') (Prod.ext (d.inj hok kin ht ht') (f.inj hok kin hz hz'))
theorem rT3_rc {c : Cod α} {d : Cod β} {f : Cod γ} {K : PySem.W.Frag} {H : Hp} {x y : α × β × γ} {u v : V} (h1 : rT3 c d f K H x u) (h2 : rT3 c d f K H y v) :
    RcIs K (max c.n (max d.n f.n) + 1) H u v (decide (x = y)) ∧ NeIs K (max c.n (max d.n f.n) + 1) H u v (decide (x = y)) := by
  obtain ⟨a, u, t, z, rfl, ha, hu, ht, hz⟩ := h1
  obtain ⟨b, u', t', z', rfl, hb, hu', ht', hz'⟩ := h2
  have T := tupRc (n := max c.n (max d.n f.n)) (e := fun j => if j = 0 then decide (x.1 = y.1) else if j = 1 then decide (x.2.1 = y.2.1) else decide (x.2.2 = y.2.2)) ha.sq hb.sq rfl (fun j p q e1 e2 => by
    match j, e1, e2 with
    | 0, e1, e2 => cases e1; cases e2; exact (c.eq hu hu').mono (Nat.le_max_left _ _)
    | 1, e1, e2 => cases e1; cases e2; exact (d.eq ht ht').mono (Nat.le_trans (Nat.le_max_left _ _) (Nat.le_max_right _ _))
    | 2, e1, e2 => cases e1; cases e2; exact (f.eq hz hz').mono (Nat.le_trans (Nat.le_max_right _ _) (Nat.le_max_right _ _)))
  have e : ((List.range ([u, t, z] : List V).length).all fun j => if j = 0 then decide (x.1 = y.1) else if j = 1 then decide (x.2.1 = y.2.1) else decide (x.2.2 = y.2.2)) = decide (x = y) := by
    show (decide (x.1 = y.1) && (decide (x.2.1 = y.2.1) && (decide (x.2.2 = y.2.2) && true))) = decide (x = y)
    rw [Bool.and_true, ← Bool.decide_and, ← Bool.decide_and]
    refine decide_eq_decide.mpr ⟨fun z => Prod.ext z.1 (Prod.ext z.2.1 z.2.2), fun z => ?_⟩
    rw [z]
    exact ⟨rfl, rfl, rfl⟩
  rw [e] at T
  exact T
def cT3 (c : Cod α) (d : Cod β) (f : Cod γ) : Cod (α × β × γ) where
  n := max c.n (max d.n f.n) + 1
  rp := rT3 c d f
  inj := rT3_inj
  rc h1 h2 := (rT3_rc h1 h2).1
  ne h1 h2 := (rT3_rc h1 h2).2
  eq {K H x y u v} h1 h2 := by
    have r := (rT3_rc h1 h2).1
    have i := fun P w h hok kin => rT3_inj (c := c) (d := d) (f := f) (P := P) (w := w) (K := K) (H := H) (h := h) (x := x) (y := y) (v := v) hok kin
    obtain ⟨a, _, _, _, rfl, _⟩ := id h1
    obtain ⟨b, _, _, _, rfl, _⟩ := id h2
    refine eqIs_ref r fun P w h hok kin e => ?_
    subst e
    exact decide_eq_true (i P w h hok kin h1 h2)
  keep e h := let ⟨a, u, w, z, h1, h2, h3, h4, h5⟩ := h; ⟨a, u, w, z, h1, h2.keep e, c.keep e h3, d.keep e h4, f.keep e h5⟩
end
/-! ### lists of such data -/
section
variable {α : Type} [DecidableEq α] {K : PySem.W.Frag} {H : Hp}
theorem _root_.PySem.Paired.get {β γ : Type} {R : β → γ → Prop} : ∀ {xs : List β} {us : List γ}, Paired R xs us → ∀ {j : Nat} {u : γ}, us[j]? = some u → ∃ x, xs[j]? = some x ∧ R x u
  | _, _, .nil, j, u, e => by simp at e
  | _, _, .cons r t, 0, u, e => by simp at e; subst e; exact ⟨_, rfl, r⟩
  | _, _, .cons r t, j + 1, u, e => PySem.Paired.get t (j := j) (by simpa using e)
theorem _root_.PySem.Paired.get1 {β γ : Type} {R : β → γ → Prop} : ∀ {xs : List β} {us : List γ}, Paired R xs us → ∀ {j : Nat} {x : β}, xs[j]? = some x → ∃ u, us[j]? = some u ∧ R x u
  | _, _, .nil, j, u, e => by simp at e
  | _, _, .cons r t, 0, u, e => by simp at e; subst e; exact ⟨_, rfl, r⟩
  | _, _, .cons r t, j + 1, u, e => PySem.Paired.get1 t (j := j) (by simpa using e)
theorem _root_.PySem.Paired.len {β γ : Type} {R : β → γ → Prop} : ∀ {xs : List β} {us : List γ}, Paired R xs us → xs.length = us.length
  | _, _, .nil => rfl
  | _, _, .cons r t => by simp [PySem.Paired.len t]
theorem _root_.PySem.Paired.app {β γ : Type} {R : β → γ → Prop} : ∀ {xs ys : List β} {us vs : List γ}, Paired R xs us → Paired R ys vs → Paired R (xs ++ ys) (us ++ vs)
  | _, _, _, _, .nil, s => s
  | _, _, _, _, .cons r t, s => .cons r (PySem.Paired.app t s)
theorem range_all_eq {xs ys : List α} {n : Nat} (h1 : xs.length = n) (h2 : ys.length = n) : ((List.range n).all fun j => decide (xs[j]? = ys[j]?)) = decide (xs = ys) := by
  rw [Bool.eq_iff_iff, List.all_eq_true, decide_eq_true_eq]
  constructor
  · intro h
    apply List.ext_getElem?
    intro i
    by_cases hi : i < n
    · exact of_decide_eq_true (h i (List.mem_range.mpr hi))
    · rw [List.getElem?_eq_none (by omega), List.getElem?_eq_none (by omega)]
  · intro h i _
    rw [h]
    exact decide_eq_true rfl
theorem listRc {c : Cod α} {a b : Addr} {us vs : List V} {xs ys : List α} (ha : SqL K H a us) (hb : SqL K H b vs) (px : Paired (c.rp K H) xs us) (py : Paired (c.rp K H) ys vs) :
    RcIs K (c.n + 1) H (.ref a) (.ref b) (decide (xs = ys)) ∧ NeIs K (c.n + 1) H (.ref a) (.ref b) (decide (xs = ys)) := by
  have main : ∀ (P : Program) (w : World) (A : Around) (s : Shared) (u v : Value), A.units + (c.n + 1) < cLine → HOk P w H s.heap → K.In s.heap → RelV (.ref a) u → RelV (.ref b) v →
      SeqAt.RcAt A s u v (decide (xs = ys)) ∧ SeqAt.RcNeAt A s u v (!decide (xs = ys)) := by
    intro P w A s u v hA hok kin r1 r2
    cases r1
    cases r2
    obtain ⟨i1, v1, p1, _⟩ := sqL_raw hok kin ha
    obtain ⟨i2, v2, p2, _⟩ := sqL_raw hok kin hb
    have l1 := v1.length
    have l2 := v2.length
    have m1 := px.len
    have m2 := py.len
    by_cases hl : i1.length = i2.length
    · have items : ∀ j (h1 : j < i1.toArray.size) (h2 : j < i2.toArray.size), SeqAt.EqAt A.in1 s i1.toArray[j] i2.toArray[j] (decide (xs[j]? = ys[j]?)) := fun j h1 h2 => by
        have h1' : j < i1.length := by simpa using h1
        have h2' : j < i2.length := by simpa using h2
        have e1 : us[j]? = some us[j] := List.getElem?_eq_getElem (by omega)
        have e2 : vs[j]? = some vs[j] := List.getElem?_eq_getElem (by omega)
        obtain ⟨u, eu, ru⟩ := v1.get e1
        obtain ⟨v, ev, rv⟩ := v2.get e2
        obtain ⟨x, ex, rx⟩ := px.get e1
        obtain ⟨y, ey, ry⟩ := py.get e2
        have q := c.eq rx ry P w A.in1 s u v (by show A.units + 1 + c.n < cLine; omega) hok kin ru rv
        have z1 : i1.toArray[j] = u := by
          rw [List.getElem?_eq_getElem h1'] at eu
          simpa using Option.some.inj eu
        have z2 : i2.toArray[j] = v := by
          rw [List.getElem?_eq_getElem h2'] at ev
          simpa using Option.some.inj ev
        rw [z1, z2, ex, ey]
        have e : decide ((some x : Option α) = some y) = decide (x = y) := decide_eq_decide.mpr ⟨fun z => Option.some.inj z, fun z => by rw [z]⟩
        rw [e]
        exact q
      have ez : (List.range i1.toArray.size).all (fun j => decide (xs[j]? = ys[j]?)) = decide (xs = ys) := range_all_eq (by rw [List.size_toArray]; omega) (by rw [List.size_toArray]; omega)
      constructor
      · have q := SeqAt.RcAt.lists (A := A) (s := s) p1.isList p2.isList (by simpa using hl) (by omega) items
        rw [ez] at q
        exact q
      · have q := SeqAt.RcNeAt.lists (A := A) (s := s) p1.isList p2.isList (by simpa using hl) (by omega) items
        rw [ez] at q
        exact q
    · have hsz : (i1.toArray.size != i2.toArray.size) = true := by simpa using hl
      have e : decide (xs = ys) = false := decide_eq_false fun z => hl (by rw [← l1, ← l2, ← m1, ← m2, z])
      rw [e]
      exact ⟨SeqAt.RcAt.lists_lengths p1.isList p2.isList hsz (by omega), SeqAt.RcNeAt.lists_lengths p1.isList p2.isList hsz (by omega)⟩
  exact ⟨fun P w A s u v h1 h2 h3 h4 h5 => (main P w A s u v h1 h2 h3 h4 h5).1, fun P w A s u v h1 h2 h3 h4 h5 => (main P w A s u v h1 h2 h3 h4 h5).2⟩
end
section
variable {X : Cx} {α : Type} [DecidableEq α]
theorem hun {c : Nat} {k : Nat} {A : Around} (hr : Room k A) (h : c ≤ 60 := by decide) : A.units + c + 1 < cLine := by
  have := hr.units
  omega
theorem op_eqC (c : Cod α) (hu : X.A.units + c.n + 1 < cLine) : OpR X (compareOp .Eq) (fun x y H Q => ∃ a b, c.rp X.K H a x ∧ c.rp X.K H b y ∧ Q (.bl (decide (a = b))) H) := by
  intro pins s σ H x y v u Q I rx ry h
  obtain ⟨a, b, ha, hb, q⟩ := h
  exact c.rc ha hb X.prog X.w X.A s v u (by omega) I.hok I.kIn rx ry X.prog X.w X.xe _ ⟨.bl _, H, I, rfl, q⟩
theorem op_neC (c : Cod α) (hu : X.A.units + c.n + 1 < cLine) : OpR X (compareOp .NotEq) (fun x y H Q => ∃ a b, c.rp X.K H a x ∧ c.rp X.K H b y ∧ Q (.bl (!decide (a = b))) H) := by
  intro pins s σ H x y v u Q I rx ry h
  obtain ⟨a, b, ha, hb, q⟩ := h
  exact c.ne ha hb X.prog X.w X.A s v u (by omega) I.hok I.kIn rx ry X.prog X.w X.xe _ ⟨.bl _, H, I, rfl, q⟩
/-- a list of such data -/
def LsOf (c : Cod α) (K : PySem.W.Frag) (H : Hp) (xs : List α) (v : V) : Prop := ∃ a us, v = .ref a ∧ SqL K H a us ∧ Paired (c.rp K H) xs us
theorem op_eqL (c : Cod α) (hu : X.A.units + c.n + 1 < cLine) : OpR X (compareOp .Eq) (fun x y H Q => ∃ xs ys, LsOf c X.K H xs x ∧ LsOf c X.K H ys y ∧ Q (.bl (decide (xs = ys))) H) := by
  intro pins s σ H x y v u Q I rx ry h
  obtain ⟨xs, ys, ⟨a, us, rfl, ha, px⟩, ⟨b, vs, rfl, hb, py⟩, q⟩ := h
  exact (listRc ha hb px py).1 X.prog X.w X.A s v u (by omega) I.hok I.kIn rx ry X.prog X.w X.xe _ ⟨.bl _, H, I, rfl, q⟩
noncomputable def eqR (c : Cod α) (K : PySem.W.Frag) (H : Hp) (a : α) (u : Value) : Bool := @decide (∃ v, RelV v u ∧ c.rp K H a v) (Classical.propDecidable _)
theorem eqR_of {c : Cod α} {P : Program} {w : World} {K : PySem.W.Frag} {H : Hp} {h : Heap} {a z : α} {v : V} {u : Value} (hok : HOk P w H h) (kin : K.In h) (r : RelV v u) (q : c.rp K H z v) : eqR c K H a u = decide (z = a) := by
  unfold eqR
  by_cases e : z = a
  · subst e
    rw [decide_eq_true (show z = z from rfl)]
    exact @decide_eq_true _ (Classical.propDecidable _) ⟨v, r, q⟩
  · rw [decide_eq_false e]
    refine @decide_eq_false _ (Classical.propDecidable _) fun ⟨v', r', q'⟩ => e ?_
    have := r.inj r'
    subst this
    exact c.inj hok kin q q'
theorem any_eqR {c : Cod α} {P : Program} {w : World} {K : PySem.W.Frag} {H : Hp} {h : Heap} {a : α} (hok : HOk P w H h) (kin : K.In h) : ∀ {xs : List α} {us : List V} {its : List Value}, Paired (c.rp K H) xs us → Vals us its → its.any (eqR c K H a) = decide (a ∈ xs)
  | _, _, _, .nil, .nil => by simp
  | x :: xs, _, _, .cons p t, .cons r s => by
    rw [List.any_cons, eqR_of hok kin r p, any_eqR hok kin t s, Bool.eq_iff_iff]
    simp only [Bool.or_eq_true, decide_eq_true_eq, List.mem_cons]
    exact ⟨fun z => z.elim (fun e => .inl e.symm) .inr, fun z => z.elim (fun e => .inl e.symm) .inr⟩
theorem mem_eqR {c : Cod α} {P : Program} {w : World} {A : Around} {s : Shared} {K : PySem.W.Frag} {H : Hp} {a : α} {x : V} {v : Value} (hok : HOk P w H s.heap) (kin : K.In s.heap) (hA : A.units + c.n < cLine) (rx : RelV x v) (qx : c.rp K H a x) :
    ∀ {xs : List α} {us : List V} {its : List Value}, Paired (c.rp K H) xs us → Vals us its → ∀ u ∈ its, SeqAt.EqAt A s u v (eqR c K H a u)
  | _, _, _, .nil, .nil => fun u hu => by cases hu
  | _, _, _, .cons p t, .cons r q => fun u' hu => by
    rcases List.mem_cons.mp hu with rfl | hu
    · rw [eqR_of hok kin r p]
      exact c.eq p qx P w A s _ v hA hok kin r rx
    · exact mem_eqR hok kin hA rx qx t q u' hu
def rInC (c : Cod α) (K : PySem.W.Frag) : R2 := fun x y H Q => ∃ a p us xs, c.rp K H a x ∧ y = .ref p ∧ (SqL K H p us ∨ SqT K H p us) ∧ Paired (c.rp K H) xs us ∧ Q (.bl (decide (a ∈ xs))) H
def rNinC (c : Cod α) (K : PySem.W.Frag) : R2 := fun x y H Q => ∃ a p us xs, c.rp K H a x ∧ y = .ref p ∧ (SqL K H p us ∨ SqT K H p us) ∧ Paired (c.rp K H) xs us ∧ Q (.bl (!decide (a ∈ xs))) H
theorem op_inC (c : Cod α) (hu : X.A.units + c.n + 1 < cLine) : OpR X (compareOp .In) (rInC c X.K) := by
  intro pins s σ H x y v u Q I rx ry h
  obtain ⟨a, p, us, xs, ha, rfl, hq, px, q⟩ := h
  cases ry
  rcases hq with hq | hq
  · obtain ⟨its, r, pl, hz⟩ := I.list hq
    refine SeqAt.in_listAt (eqR c X.K H a) pl.isList (fun w hw => mem_eqR I.hok I.kIn (by show X.A.units + 1 + c.n < cLine; omega) rx ha px r w (by simpa using hw)) ⟨.bl _, H, I, rfl, ?_⟩
    rw [show its.toArray.any (eqR c X.K H a) = its.any (eqR c X.K H a) by simp, any_eqR I.hok I.kIn px r]
    exact q
  · obtain ⟨its, r, pl, hz⟩ := I.tuple hq
    refine SeqAt.in_tupleAt (eqR c X.K H a) pl (fun w hw => mem_eqR I.hok I.kIn (by show X.A.units + 1 + c.n < cLine; omega) rx ha px r w (by simpa using hw)) ⟨.bl _, H, I, rfl, ?_⟩
    rw [show its.toArray.any (eqR c X.K H a) = its.any (eqR c X.K H a) by simp, any_eqR I.hok I.kIn px r]
    exact q
theorem op_notinC (c : Cod α) (hu : X.A.units + c.n + 1 < cLine) : OpR X (compareOp .NotIn) (rNinC c X.K) := by
  intro pins s σ H x y v u Q I rx ry h
  obtain ⟨a, p, us, xs, ha, rfl, hq, px, q⟩ := h
  cases ry
  rcases hq with hq | hq
  · obtain ⟨its, r, pl, hz⟩ := I.list hq
    refine SeqAt.notIn_listAt (eqR c X.K H a) pl.isList (fun w hw => mem_eqR I.hok I.kIn (by show X.A.units + 1 + c.n < cLine; omega) rx ha px r w (by simpa using hw)) ⟨.bl _, H, I, rfl, ?_⟩
    rw [show its.toArray.any (eqR c X.K H a) = its.any (eqR c X.K H a) by simp, any_eqR I.hok I.kIn px r]
    exact q
  · obtain ⟨its, r, pl, hz⟩ := I.tuple hq
    refine SeqAt.notIn_tupleAt (eqR c X.K H a) pl (fun w hw => mem_eqR I.hok I.kIn (by show X.A.units + 1 + c.n < cLine; omega) rx ha px r w (by simpa using hw)) ⟨.bl _, H, I, rfl, ?_⟩
    rw [show its.toArray.any (eqR c X.K H a) = its.any (eqR c X.K H a) by simp, any_eqR I.hok I.kIn px r]
    exact q
end
end L2

/-! a list made by walking, with several names told at each turn -/
namespace L2
open PySem PySem.Spec PyProof.Rows
structure BlkS (N : List Str) (sc scope : Scope) (mm : Nat) (N' : List Str) (fv : List Nat) : Prop where
  nocell : ∀ y ∈ scope.names, y.2 ≠ .cell
  kind : scope.kind = .function
  names : ∀ y ∈ scope.names, y.2 = .local → scope.names.lookup y.1 = some .local
  free : ∀ y ∈ scope.names, y.2 = .free → sc.names.lookup y.1 = some .cell ∨ sc.names.lookup y.1 = some .free
  nd : N'.Nodup
  len : N'.length = fv.length + mm
  at_ : ∀ j, j < fv.length → (N'[j + mm]?).isSome = true ∧ N'[j + mm]? = (fv[j]?).bind (fun i => N[i]?) ∧ (N'[j + mm]?).bind (fun y => scope.names.lookup y) = some .free
def bv (mm : Nat) (fv : List Nat) (σ : St) : St := List.replicate mm none ++ blkVals fv σ
def Ext (σ σ' : St) : Prop := σ.length = σ'.length ∧ ∀ (j : Nat) v, σ[j]? = some (some v) → σ'[j]? = some (some v)
section
variable {prog : Program} {w : World} {A : Around} {R : Result → Shared → Prop} {s : Shared}
theorem codeAny_compLoop_testsT {elt target iter : Expr} {ifs : List Expr} {scope : Scope} {pos : Pos} {it acc : Value} {env : Env} (I : Nat → Shared → Prop)
    (turn : ∀ n s, I n s → wpAny (model prog w) A (pyNext it) (fun r s₁ => match r with
      | none => R (.ok .next) s₁
      | some v => wpAny (model prog w) A (letOwnedTupleGo target it v) (fun _ s₁' => wpAny (model prog w) A (assign target env v) (fun _ s₂ =>
          wpAny (model prog w) A (forIn ifs true fun c r => if r = true then do let ok ← isTrue c env (eval c env); pure (ForInStep.yield ok) else pure (ForInStep.yield r)) (fun ok s₃ =>
            if ok = true then wpAny (model prog w) A (eval elt env) (fun x s₄ =>
              wpAny (model prog w) A (call (.builtin "list.append") [acc, x]) (fun _ s₅ => ∃ m, m < n ∧ I m s₅) (notedBy (model prog w) A env fun e s' => R (.error e) s') s₄) (notedBy (model prog w) A env fun e s' => R (.error e) s') s₃
            else ∃ m, m < n ∧ I m s₃) (notedBy (model prog w) A env fun e s' => R (.error e) s') s₂) (notedBy (model prog w) A env fun e s' => R (.error e) s') s₁') (notedBy (model prog w) A env fun e s' => R (.error e) s') s₁) (notedBy (model prog w) A env fun e s' => R (.error e) s') s)
    (n : Nat) (h : I n s) :
    codeAny (model prog w) A (.compLoop (.ListComp elt [⟨target, iter, ifs, 0⟩] scope pos) 0 it acc env) R s := by
  refine codeAny_loop rfl I (fun n s hI => ?_) n h
  show wpAny _ A ((compTurn (.ListComp elt [⟨target, iter, ifs, 0⟩] scope pos) 0 it acc env).onRaise (fun x => do noteFrame x env; theTreesLotGoes x)) _ _ s
  refine wpAny_noted ?_
  rw [compTurn_list]
  refine wpAny_bind (wpAny_standAt (wpAny_bind (wpAny_mono (turn n s hI) (fun r s₁ h₁ => ?_) fun _ _ h' => h')))
  cases r with
  | none => exact wpAny_pure h₁
  | some v =>
    refine wpAny_bind (wpAny_mono h₁ (fun _ s₁' h₁' => ?_) fun _ _ h' => h')
    refine wpAny_bind (wpAny_mono h₁' (fun _ s₂ h₂ => wpAny_bind (wpAny_mono h₂ (fun ok s₃ h₃ => ?_) fun _ _ h' => h')) fun _ _ h' => h')
    cases ok with
    | false => exact wpAny_pure ⟨rfl, h₃⟩
    | true =>
      exact wpAny_bind (wpAny_bind (wpAny_mono h₃ (fun x s₄ h₄ => wpAny_bind (wpAny_mono h₄ (fun _ s₅ h₅ => wpAny_pure (wpAny_pure ⟨rfl, h₅⟩)) fun _ _ h' => h')) fun _ _ h' => h'))
end
section
variable {X : Cx} {N' : List Str} {scope : Scope} {mm : Nat} {fv : List Nat}
theorem blk_invM {pins : List (Addr × Obj)} {σ : St} {H : Hp} {s : Shared} {fp : List Addr} {C : Addr} {h1 : Heap} {m : Str → Option Value} {tk : Nat} {pl : List (Addr × Obj)} (S : BlkS X.N X.env.scope scope mm N' fv) (I : Inv X pins σ H s)
    (hf : ∀ b ∈ fp, FpOk X pins H b) (hfo : ∀ b ∈ fp, b < s.heap.objs.size) (hC : s.heap.objs.size ≤ C) (kp : ∀ b o, s.heap.get? b = some o → h1.get? b = some o) (hn : h1.Ns C m)
    (hpl : ∀ p ∈ pl, h1.get? p.1 = some p.2 ∧ s.heap.objs.size ≤ p.1 ∧ p.1 ≠ C ∧ ∀ v, p.2.data ≠ .cell v) :
    Inv (X.blk N' scope C fp s H) pl (bv mm fv σ) H { s with heap := h1, toks := tk } := by
  have clo : ∀ y c, (cloOf X.env scope.names []).lookup y = some c → X.env.cells.lookup y = some c := fun y c e => cloOf_lookup_sub e
  have cell : ∀ y c, (cloOf X.env scope.names []).lookup y = some c → ∃ v, s.heap.IsCell c v := fun y c e => I.cell y c (clo y c e)
  have lt : ∀ y c, (cloOf X.env scope.names []).lookup y = some c → c < s.heap.objs.size := fun y c e => by obtain ⟨v, q⟩ := cell y c e; exact q.lt
  have kc : ∀ c v, s.heap.IsCell c v → h1.IsCell c v := fun c v q => by obtain ⟨o, e, d⟩ := q; exact ⟨o, kp _ _ e, d⟩
  refine ⟨⟨I.ok.mod, S.kind, I.ok.glob, I.ok.blt, hC, fun y z c e1 e2 => I.ok.inj y z c (clo y c e1) (clo z c e2), fun y hy => ?_, fun y c e => ?_, I.ok.hd, I.ok.frames, .inl rfl, fun b hb => ⟨?_, fun y c e z => (hf b hb).2.2.2.2.1 y c (clo y c e) z⟩, fun b o e => I.bs b o e, Nat.le_trans I.ok.bsz I.sz, fun b o e hb => ?_, fun b hb hb2 => ?_, I.stack, I.stkFree⟩,
    rfl, I.bare, Un.kept kp, ⟨m, hn, fun i y v h1' h2 h3 => ?_⟩, fun y c e => ?_, I.hok.fresh hC, fun y c e => I.freeC y c (clo y c e), fun p hp => ?_, I.hok.kept kp, ?_⟩
  · have hy' : ∃ k, scope.names.lookup y = some k ∧ k = .free := by
      rcases hy with hy | hy
      · obtain ⟨k', e1, e2⟩ := relabel_free (env := X.env) (names := scope.names) (x := y) (k := .cell) hy
        rcases e2 with e2 | e2
        · exact absurd e2 (S.nocell _ (PySem.mem_of_lookup e1))
        · exact ⟨k', e1, e2⟩
      · obtain ⟨k', e1, e2⟩ := relabel_free (env := X.env) (names := scope.names) (x := y) (k := .free) hy
        rcases e2 with e2 | e2
        · exact ⟨k', e1, e2⟩
        · exact ⟨k', e1, e2⟩
    obtain ⟨k, e, rfl⟩ := hy'
    have hm := PySem.mem_of_lookup e
    obtain ⟨c, hc⟩ := I.ok.has y (S.free _ hm rfl)
    exact ⟨c, cloOf_lookup hm hc⟩
  · exact (Bool.false_ne_true (show false = true from e)).elim
  · exact Nat.ne_of_lt (Nat.lt_of_lt_of_le (hfo b hb) hC)
  · have e' := e
    rcases (hf b hb).2.2.2.1 with z | z
    · exact I.ok.noex b o e z
    · exact absurd (Nat.lt_of_lt_of_le (Heap.lt_size e) (Nat.le_trans I.ok.bsz z)) (Nat.lt_irrefl _)
  · have q := I.stkSub b hb2
    rcases List.mem_cons.mp q with z | z
    · exact (hf b hb).2.1 z
    · exact (hf b hb).2.2.1 z
  · by_cases hi : i < mm
    · have z : (bv mm fv σ)[i]? = some none := by
        unfold bv
        rw [List.getElem?_append_left (by simpa using hi)]
        simp [hi]
      rw [z] at h2
      cases (Option.some.inj h2)
    · obtain ⟨j, rfl⟩ : ∃ j, i = j + mm := ⟨i - mm, by omega⟩
      have h2' : (blkVals fv σ)[j]? = some (some v) := by
        have z : (bv mm fv σ)[j + mm]? = (blkVals fv σ)[j]? := by
          unfold bv
          rw [List.getElem?_append_right (by simp)]
          simp
        rw [← z]
        exact h2
      unfold blkVals at h2'
      rw [List.getElem?_map] at h2'
      cases ej : fv[j]? with
      | none => rw [ej] at h2'; cases h2'
      | some k =>
        rw [ej] at h2'
        have h4 : (σ[k]?).join = some v := Option.some.inj h2'
        have h5 : σ[k]? = some (some v) := by
          cases es : σ[k]? with
          | none => rw [es] at h4; cases h4
          | some w' => rw [es] at h4; rw [show w' = some v from h4]
        have hj : j < fv.length := (List.getElem?_eq_some_iff.mp ej).1
        obtain ⟨_, a1, a2⟩ := S.at_ j hj
        have h1'' : N'[j + mm]? = some y := h1'
        rw [h1''] at a1 a2
        rw [ej] at a1
        have a3 : X.N[k]? = some y := a1.symm
        have a4 : scope.names.lookup y = some .free := a2
        have hm := PySem.mem_of_lookup a4
        have kd : X.env.kindOf y = some .cell ∨ X.env.kindOf y = some .free := S.free _ hm rfl
        obtain ⟨mX, _, hlX⟩ := I.loc
        obtain ⟨u, ru, lk⟩ := hlX k y v a3 h5 (kd.elim (fun z => .inr (.inl z)) fun z => .inr (.inr z))
        refine ⟨u, ru, .inr ?_⟩
        rcases lk with ⟨z, _⟩ | ⟨_, c, hc, hcell⟩
        · rcases kd with z' | z' <;> rw [z'] at z <;> cases z
        · exact ⟨relabel_of_free (env := X.env) a4, c, cloOf_lookup hm hc, kc _ _ hcell⟩
  · obtain ⟨v, q⟩ := cell y c e
    exact ⟨v, kc _ _ q⟩
  · have hp' : p ∈ pl := hp
    obtain ⟨e, l1, l2, d⟩ := hpl p hp'
    exact ⟨e, I.hok.fresh l1, l2, fun z => absurd (I.stkSub _ z) (fun q => by
      rcases List.mem_cons.mp q with q | q
      · exact absurd I.lt (by rw [← q]; exact Nat.not_lt.mpr l1)
      · exact I.nofs l1 q), d⟩
  · show (bv mm fv σ).length = N'.length
    rw [S.len]
    unfold bv blkVals
    simp
    omega
end
set_option maxHeartbeats 1600000 in
theorem lc_coreM {X : Cx} {elt iter : Expr} {tg : Expr} {mm : Nat} {g : TG} {ifs : List Expr} {scope : Scope} {pos : Pos} {N' : List Str} {fv : List Nat} {tt : TT} {te : TE} {pins : List (Addr × Obj)} {σ : St} {s2 : Shared} {H2 : Hp} {it : Addr} {fp : List Addr} {tn : Nat → Heap → Prop} {J : It}
    {RR : Value → Addr → Result → Shared → Prop} {Fin : List V → Hp → Prop} {E : Value → Shared → Prop} {W : Nat → List V → Hp → Prop} {n : Nat}
    (S : BlkS X.N X.env.scope scope mm N' fv) (hg : ∀ C fp s H, PG (X.blk N' scope C fp s H) tg g) (hc : X.calm = true)
    (ht : ∀ C fp s H, PTs (X.blk N' scope C fp s H) ifs tt) (he : ∀ C fp s H, PE (X.blk N' scope C fp s H) elt te)
    (I2 : Inv X pins σ H2 s2) (T : Turn X.prog X.w X.K tg J fp it tn) (st2 : tn 0 s2.heap) (f2 : ∀ b ∈ fp, FpOk X pins H2 b) (w0 : W 0 [] H2) (hn : n ≤ sizeLine)
    (turn : ∀ i ys H, W i ys H → (J.stop i H ∧ Fin ys H) ∨ (J.go i H ∧ i < n ∧ ∀ x H', J.yld i H x H' → g x (bv mm fv σ) H' fun σ' H'' => Ext (bv mm fv σ) σ' ∧ tt σ' H'' fun c H2 => if c = true then te σ' H2 fun y H3 => W (i + 1) (ys ++ [y]) H3 else W (i + 1) ys H2))
    (fin : ∀ (D C : Addr) (ys : List V) (H4 : Hp) (s5 : Shared) (m5 : Str → Option Value), Inv X pins σ (upd H4 D (.lst ys)) s5 → s5.heap.Ns C m5 → C ≠ D → H4 D = none → H4 C = none → C ≠ X.env.locals → X.s₀.heap.objs.size ≤ C → (∀ y c, X.env.cells.lookup y = some c → c ≠ C) → (∀ p ∈ X.pn ++ pins, p.1 ≠ C) → Fin ys H4 → RR (.ref D) C (.ok .next) s5) :
    wpAny (model X.prog X.w) X.A (newList []) (fun acc s₃ => wpAny (model X.prog X.w) X.A (newFunctionEnv scope X.env.globals (cloOf X.env scope.names []) [] X.env.qual none .none (some X.env)) (fun cenv s₄ =>
      codeAny (model X.prog X.w) X.A (.compStart (.ListComp elt [⟨tg, iter, ifs, 0⟩] scope pos) 0 (.ref it) acc { cenv with scope := relabel scope X.env }) (RR acc cenv.locals) s₄) E s₃) E s2 := by
  refine wpAny_newObj_type (wpAny_newFunctionEnv S.nocell (by intro y hy; simp at hy) (fun h1 hns hsb => ?_) S.kind)
  dsimp only at hns hsb ⊢
  generalize hH : s2.heap.push { cls := .type "list", dict := none, data := .seq ([] : List Value).toArray } = G at hns hsb ⊢
  have hG : G.objs.size = s2.heap.objs.size + 1 := by rw [← hH, Heap.size_push]
  have kpG : ∀ b o, s2.heap.get? b = some o → G.get? b = some o := fun b o e => hH ▸ Heap.get?_push_of_some _ e
  have kp1 : ∀ b o, b < G.objs.size → G.get? b = some o → h1.get? b = some o := fun b o lt e => hsb.extBut b o (Nat.ne_of_lt lt) (Heap.get?_push_of_some _ e)
  have kp : ∀ b o, s2.heap.get? b = some o → h1.get? b = some o := fun b o e => kp1 b o (by rw [hG]; exact Nat.lt_succ_of_lt (Heap.lt_size e)) (kpG b o e)
  have hD : h1.PlainList s2.heap.objs.size #[] := ⟨_, kp1 _ _ (by rw [hG]; exact Nat.lt_succ_self _) (hH ▸ Heap.get?_push_size _ rfl)⟩
  have hDC : s2.heap.objs.size ≠ G.objs.size := by rw [hG]; exact Nat.ne_of_lt (Nat.lt_succ_self _)
  have hC : s2.heap.objs.size ≤ G.objs.size := by rw [hG]; exact Nat.le_succ _
  have hfo : ∀ b ∈ fp, b < s2.heap.objs.size := fun b hb => by obtain ⟨o, e, _⟩ := T.obj 0 _ st2 b hb; exact Heap.lt_size e
  -- what is true of the iterator's records in the block
  have stat : ∀ {H' : Hp} {pl : List (Addr × Obj)}, (∀ b ∈ fp, H' b = none) → (∀ p ∈ pl, p.1 ∉ fp) → ∀ b ∈ fp, FpOk (X.blk N' scope G.objs.size fp s2 H2) pl H' b := fun {H' pl} hn hpl b hb => by
    obtain ⟨_, g1, g2, g3, g4, g5⟩ := f2 b hb
    refine ⟨hn b hb, Nat.ne_of_lt (Nat.lt_of_lt_of_le (hfo b hb) hC), fun z => ?_, .inl hb, fun y c e => g4 y c (cloOf_lookup_sub e), fun p hp e => ?_⟩
    · rcases List.mem_cons.mp (I2.stkSub b z) with q | q
      · exact g1 q
      · exact g2 q
    · exact hpl p hp (e ▸ hb)
  have hDf : s2.heap.objs.size ∉ fp := fun z => absurd (hfo _ z) (Nat.lt_irrefl _)
  have hcl : ∀ y c, (X.blk N' scope G.objs.size fp s2 H2).env.cells.lookup y = some c → c ≠ s2.heap.objs.size := fun y c e z => by
    obtain ⟨v, q⟩ := I2.cell y c (cloOf_lookup_sub e)
    exact absurd q.lt (by rw [z]; exact Nat.lt_irrefl _)
  have pin1 : ∀ {s' : Shared} {H' : Hp} {ob : Obj} {i : Nat} {ys : List V}, Inv (X.blk N' scope G.objs.size fp s2 H2) [] (bv mm fv σ) H' s' → s'.heap.get? s2.heap.objs.size = some ob → (∀ v, ob.data ≠ .cell v) → H' s2.heap.objs.size = none →
      Inv (X.blk N' scope G.objs.size fp s2 H2) [(s2.heap.objs.size, ob)] (bv mm fv σ) H' s' := fun {s' H' ob i ys} J1 e d f => J1.pins_of fun p hp => by
    have z : p = (s2.heap.objs.size, ob) := by simpa using hp
    subst z
    refine ⟨e, f, hDC, fun z => ?_, d⟩
    rcases List.mem_cons.mp (I2.stkSub _ z) with q | q
    · exact absurd I2.lt (by rw [← q]; exact Nat.lt_irrefl _)
    · exact I2.nofs (Nat.le_refl _) q
  have loop : ∀ s3 : Shared, s3 = { s2 with heap := h1, toks := s2.toks + ([] : List (Str × Value)).length } →
      codeAny (model X.prog X.w) X.A (.compLoop (.ListComp elt [⟨tg, iter, ifs, 0⟩] scope pos) 0 (.ref it) (.ref s2.heap.objs.size) (X.blk N' scope G.objs.size fp s2 H2).env)
        (RR (.ref s2.heap.objs.size) G.objs.size) s3 := by
    rintro s3 rfl
    refine codeAny_compLoop_testsT (fun k s' => ∃ i ys H' its, k = n + 1 - i ∧ i ≤ n ∧ ys.length ≤ i ∧ Vals ys its ∧ s'.heap.PlainList s2.heap.objs.size its.toArray ∧
      Inv (X.blk N' scope G.objs.size fp s2 H2) [] (bv mm fv σ) H' s' ∧ H' s2.heap.objs.size = none ∧ tn i s'.heap ∧ (∀ b ∈ fp, H' b = none) ∧ W i ys H') ?_ (n + 1)
      ⟨0, [], H2, [], rfl, Nat.zero_le _, Nat.le_refl _, .nil, hD, blk_invM S I2 f2 hfo hC kp hns (fun p hp => nomatch hp), I2.hok.fresh (Nat.le_refl _), T.keep _ _ _ st2 fun b _ o e => kp b o e, fun b hb => (f2 b hb).1, w0⟩
    rintro k s4 ⟨i, ys, H4, its, rfl, hin, hyi, rv, pl4, I4, fD4, st4, ff4, w4⟩
    obtain ⟨cnt, eD⟩ := id pl4
    have I4p := pin1 (i := i) (ys := ys) I4 eD (fun v z => by cases z) fD4
    have np : ∀ p ∈ [(s2.heap.objs.size, ({ cls := .type "list", data := .seq its.toArray cnt } : Obj))], p.1 ∉ fp := fun p hp => by
      have z : p = (s2.heap.objs.size, ({ cls := .type "list", data := .seq its.toArray cnt } : Obj)) := by simpa using hp
      subst z; exact hDf
    rcases turn i ys H4 w4 with ⟨stop, fn⟩ | ⟨go, hi2, step⟩
    · refine wpAny_mono (T.done (X.blk N' scope G.objs.size fp s2 H2) rfl rfl rfl hc i _ s4 _ H4 _ I4p (stat ff4 np) st4 stop) (fun r s5 ⟨hr, I5⟩ => ?_) fun _ _ e => e
      subst hr
      obtain ⟨m5, hm5, _⟩ := I5.loc
      have eD5 : s5.heap.get? s2.heap.objs.size = some { cls := .type "list", data := .seq its.toArray cnt } := (I5.pin _ (List.mem_append_right _ List.mem_cons_self)).1
      have fD2 : H2 s2.heap.objs.size = none := I2.hok.fresh (Nat.le_refl _)
      have ltD : ∀ {b : Addr} {o : Obj}, s2.heap.get? b = some o → b ≠ s2.heap.objs.size := fun {b o} e => Nat.ne_of_lt (Heap.lt_size e)
      have B := I5.base
      have fC : H4 G.objs.size = none := I5.free
      have I5X : Inv X pins σ (upd H4 s2.heap.objs.size (.lst ys)) s5 := by
        refine I2.call' (s' := s5) (ch := fp) I5.os ⟨fun b o e nb hb hx => B.keep b o e nb hb hx, fun b o e nb hb hx => B.slot b o e nb hb hx, fun b o e nb hx => ?_, fun b o e hx => B.there b o e hx, fun b xs e => ?_, fun b o u e => ?_, fun b ps e => ?_⟩ ?_ I5.bare fun b hb => ?_
        · rw [upd_ne (ltD e)]; exact B.free b o e nb hx
        · have e' : H2 b = some (.tup xs) := e
          rw [upd_ne (ne_of_none e' fD2)]; exact B.tups b xs e
        · have e' : H2 b = some (.frz o u) := e
          rw [upd_ne (ne_of_none e' fD2)]; exact B.frzs b o u e
        · have e' : H2 b = some (.tbl ps) := e
          rw [upd_ne (ne_of_none e' fD2)]; exact B.tbls b ps e
        · intro b u e
          by_cases hb : b = s2.heap.objs.size
          · subst hb
            rw [upd_same] at e
            cases e
            exact ⟨Nat.le_trans hyi (Nat.le_trans hin hn), its, cnt, rv, eD5⟩
          · rw [upd_ne hb] at e
            exact (I5.hok b u e).stay (fun c v hc' q => q) (fun c q => by rw [upd_ne (ne_of_none q fD4)]; exact q) fun c xs q => by rw [upd_ne (ne_of_none q fD4)]; exact q
        · obtain ⟨_, g1, g2, g3, g4, g5⟩ := f2 b hb
          exact ⟨g3, g1, g4, g5⟩
      refine fin s2.heap.objs.size G.objs.size ys H4 s5 m5 I5X hm5 hDC.symm fD4 fC (Nat.ne_of_gt (Nat.lt_of_lt_of_le I2.lt hC)) (Nat.le_trans I2.sz hC) (fun y c e z => ?_) (fun p hp z => ?_) fn
      · obtain ⟨v, q⟩ := I2.cell y c e
        exact absurd (Nat.lt_of_lt_of_le q.lt hC) (by rw [z]; exact Nat.lt_irrefl _)
      · exact absurd (Nat.lt_of_lt_of_le (Heap.lt_size (I2.pin p hp).1) hC) (by rw [z]; exact Nat.lt_irrefl _)
    · refine wpAny_mono (T.item (X.blk N' scope G.objs.size fp s2 H2) rfl rfl rfl hc i _ s4 _ H4 _ I4p (stat ff4 np) st4 go) (fun r s5 ⟨u, hr, h5⟩ => ?_) fun _ _ e => e
      subst hr
      refine wpAny_mono h5 (fun _ s6 ⟨xv, H6, I6, r6, y6, st6, ff6⟩ => ?_) fun _ _ e => e
      have I6' := I6.pinned (stat ff6 np) (T.obj _ _ st6)
      have out : ∀ {σ' : St} {H' : Hp} {s' : Shared}, Inv (X.blk N' scope G.objs.size fp s2 H2) ([(s2.heap.objs.size, ({ cls := .type "list", data := .seq its.toArray cnt } : Obj))] ++ pinsAt fp s6.heap) σ' H' s' →
          s'.heap.PlainList s2.heap.objs.size its.toArray ∧ H' s2.heap.objs.size = none ∧ (∀ b ∈ fp, H' b = none) ∧ (∀ b ∈ fp, ∀ o, s6.heap.get? b = some o → s'.heap.get? b = some o) := fun {σ' H' s'} J1 => by
        have q := J1.pin (s2.heap.objs.size, ({ cls := .type "list", data := .seq its.toArray cnt } : Obj)) (List.mem_append_right _ (List.mem_append_left _ List.mem_cons_self))
        refine ⟨⟨cnt, q.1⟩, q.2.1, fun b hb => ?_, fun b hb o e => (J1.pin (b, o) (List.mem_append_right _ (List.mem_append_right _ (mem_pinsAt hb e)))).1⟩
        obtain ⟨o, e, d⟩ := T.obj _ _ st6 b hb
        exact (J1.pin (b, o) (List.mem_append_right _ (List.mem_append_right _ (mem_pinsAt hb e)))).2.1
      refine nox (hg _ _ _ _ _ s6 _ H6 xv u _ I6' r6 (step xv H6 y6)) fun _ s7 ⟨σ7, H7, I7, e7, q7⟩ => ?_
      refine nox (ht _ _ _ _ _ s7 _ H7 _ I7 q7) fun ok s8 ⟨H8, I8, q8⟩ => ?_
      cases ok with
      | false =>
        obtain ⟨o1, o2, o3, o4⟩ := out I8
        exact ⟨n + 1 - (i + 1), by omega, i + 1, ys, H8, its, rfl, hi2, Nat.le_succ_of_le hyi, rv, o1, (I8.pins_of (pins' := []) fun p hp => nomatch hp).weak (σ' := bv mm fv σ) e7.1 e7.2, o2, T.keep _ _ _ st6 o4, o3, q8⟩
      | true =>
        refine nox (he _ _ _ _ _ s8 _ H8 _ I8 q8) fun yv s9 ⟨y, H9, I9, r9, q9⟩ => ?_
        obtain ⟨o1, o2, o3, o4⟩ := out I9
        have hlen := rv.length
        refine wpAny_list_append_plain (hsz := by rw [List.size_toArray, ← hlen]; exact Nat.le_trans hyi (Nat.le_trans hin hn)) o1 fun h' pl' sb' => ?_
        have I9' : Inv (X.blk N' scope G.objs.size fp s2 H2) [] σ7 H9 { s9 with heap := h' } :=
          (I9.pins_of (pins' := []) fun p hp => nomatch hp).turned (t' := s9.toks) (it := s2.heap.objs.size) (fun b o hb e => sb'.extBut b o hb e) o2 hDC (.inr (Nat.le_refl _)) hcl (fun p hp => nomatch hp)
        refine ⟨n + 1 - (i + 1), by omega, i + 1, ys ++ [y], H9, its ++ [yv], rfl, hi2, by rw [List.length_append]; exact Nat.succ_le_succ hyi, rv.append (.cons r9 .nil), ?_, I9'.weak (σ' := bv mm fv σ) e7.1 e7.2, o2, T.keep _ _ _ st6 fun b hb o e => sb'.extBut b o (fun z => hDf (z ▸ hb)) (o4 b hb o e), o3, q9⟩
        have e9 : (its ++ [yv]).toArray = its.toArray.push yv := by simp
        rw [e9]
        exact pl'
  exact codeAny_compStart_list (loop _ rfl) (T.self _ 0 _ _ _ (T.keep _ _ _ st2 fun b _ o e => kp b o e) (loop _ rfl))

/-- name = [.. for ..] -/
def tSetLCM (j mm : Nat) (g : TG) (wi : TI) (fv : List Nat) (tt : TT) (te : TE) : TS := fun D σ H => wi σ H fun J H1 => ∃ (W : Nat → List V → Hp → Prop) (n : Nat), W 0 [] H1 ∧ n ≤ sizeLine ∧ ∀ i ys H, W i ys H →
  (J.stop i H ∧ ∀ p, H p = none → D.nx (σ.set j (some (.ref p))) (upd H p (.lst ys))) ∨
  (J.go i H ∧ i < n ∧ ∀ x H', J.yld i H x H' → g x (bv mm fv σ) H' fun σ' H'' => Ext (bv mm fv σ) σ' ∧ tt σ' H'' fun c H2 => if c = true then te σ' H2 fun y H3 => W (i + 1) (ys ++ [y]) H3 else W (i + 1) ys H2)
theorem ps_setLCM {X : Cx} {elt iter : Expr} {tg : Expr} {mm : Nat} {g : TG} {y : Str} {py : Pos} {ifs : List Expr} {scope : Scope} {pos spos : Pos} {N' : List Str} {fv : List Nat} {wi : TI} {tt : TT} {te : TE} {j : Nat}
    (hN : X.N.Nodup) (hj : X.N[j]? = some y) (hy : Loc X.env.scope y)
    (S : BlkS X.N X.env.scope scope mm N' fv) (hg : ∀ C fp s H, PG (X.blk N' scope C fp s H) tg g) (hc : X.calm = true) (hi : PI X tg iter wi)
    (ht : ∀ C fp s H, PTs (X.blk N' scope C fp s H) ifs tt) (he : ∀ C fp s H, PE (X.blk N' scope C fp s H) elt te)
    (hsw : swapsWith (.ListComp elt [⟨tg, iter, ifs, 0⟩] scope pos) (some (.Name y py)) spos.line X.env = pure true := by rfl)
    (hf : X.fn y = true ∨ X.env.scope.names.lookup y = some .local := by first | exact .inl rfl | exact .inr rfl | assumption)
    (hs : ∀ x, foldedSetIterable iter X.env x = pure x := by intro _; rfl) :
    PS X (.Assign [.Name y py] (.ListComp elt [⟨tg, iter, ifs, 0⟩] scope pos) spos) (tSetLCM j mm g wi fv tt te) := by
  intro pins s σ H D I h
  rw [exec_Assign_Name_used _ _ _ _ hsw]
  refine wpAny_bind (wpAny_standAt (wpAny_bind ?_))
  show wpAny _ X.A (do let _ ← comprehension (.ListComp elt [⟨tg, iter, ifs, 0⟩] scope pos) scope X.env _ (newList []) false (eval iter X.env) (some (assign (.Name y py) X.env))) _ _ s
  refine wpAny_bind (wpAny_mono (wpAny_comprehension_free (use := some (assign (.Name y py) X.env)) (Q := fun _ s' => SP X pins D .next s') rfl hs (closureFor_free fun y hy hk => I.ok.has y.1 (S.free y hy hk)) S.kind S.names
    (wpAny_mono (hi pins s σ H _ I h) (fun xv s1 h1 => wpAny_mono h1 (fun itv s2 h2 => ?_) fun _ _ e => e) fun _ _ e => e)) (fun _ s' hq => wpAny_pure (wpAny_pure hq)) fun _ _ e => e)
  obtain ⟨it, fp, tn, J, H2, rfl, I2, T, st2, f2, W, n, w0, hn, turn⟩ := h2
  refine lc_coreM (Fin := fun ys H => ∀ p, H p = none → D.nx (σ.set j (some (.ref p))) (upd H p (.lst ys))) (RR := fun acc C => compPost (model X.prog X.w) X.A X.xe (some (assign (.Name y py) X.env)) (fun _ s' => SP X pins D .next s') acc C) S hg hc ht he I2 T st2 f2 w0 hn turn ?_
  intro E' C ys H4 s5 m5 I5 hm5 hCE fD fC hCL hC0 hCc hCp q
  show wpAny _ X.A (assign (.Name y py) X.env (.ref E')) _ _ _
  refine wpAny_assign_Name (store_ok2 I5 hN hj hy (v := .ref E') rfl (fun s6 I6 hch => ?_) hf)
  obtain ⟨a, sb, ha⟩ := hch
  have nCa : C ≠ a := by
    rcases ha with rfl | ha
    · exact hCL
    · exact fun e => hCc _ _ ha e.symm
  refine ⟨m5, hm5.sameBut sb nCa, fun h' sb' => ⟨_, _, ?_, q E' fD⟩⟩
  exact I6.turned (t' := s6.toks) (it := C) (fun b o hb e => sb'.extBut b o hb e) (by rw [upd_ne hCE]; exact fC) hCL (.inr hC0) hCc hCp

def tLCM (mm : Nat) (g : TG) (wi : TI) (fv : List Nat) (tt : TT) (te : TE) : TE := fun σ H Q => wi σ H fun J H1 => ∃ (W : Nat → List V → Hp → Prop) (n : Nat), W 0 [] H1 ∧ n ≤ sizeLine ∧ ∀ i ys H, W i ys H →
  (J.stop i H ∧ ∀ p, H p = none → Q (.ref p) (upd H p (.lst ys))) ∨
  (J.go i H ∧ i < n ∧ ∀ x H', J.yld i H x H' → g x (bv mm fv σ) H' fun σ' H'' => Ext (bv mm fv σ) σ' ∧ tt σ' H'' fun c H2 => if c = true then te σ' H2 fun y H3 => W (i + 1) (ys ++ [y]) H3 else W (i + 1) ys H2)
theorem pe_lcM {X : Cx} {elt iter : Expr} {tg : Expr} {mm : Nat} {g : TG} {ifs : List Expr} {scope : Scope} {pos : Pos} {N' : List Str} {fv : List Nat} {wi : TI} {tt : TT} {te : TE}
    (S : BlkS X.N X.env.scope scope mm N' fv) (hg : ∀ C fp s H, PG (X.blk N' scope C fp s H) tg g) (hc : X.calm = true) (hi : PI X tg iter wi)
    (ht : ∀ C fp s H, PTs (X.blk N' scope C fp s H) ifs tt) (he : ∀ C fp s H, PE (X.blk N' scope C fp s H) elt te)
    (hs : ∀ x, foldedSetIterable iter X.env x = pure x := by intro _; rfl) :
    PE X (.ListComp elt [⟨tg, iter, ifs, 0⟩] scope pos) (tLCM mm g wi fv tt te) := by
  intro pins s σ H Q I h
  rw [eval_ListComp]
  refine wpAny_comprehension_free (use := none) rfl hs (closureFor_free fun y hy hk => I.ok.has y.1 (S.free y hy hk)) S.kind S.names
    (wpAny_mono (hi pins s σ H _ I h) (fun xv s1 h1 => wpAny_mono h1 (fun itv s2 h2 => ?_) fun _ _ e => e) fun _ _ e => e)
  obtain ⟨it, fp, tn, J, H2, rfl, I2, T, st2, f2, W, n, w0, hn, turn⟩ := h2
  refine lc_coreM (Fin := fun ys H => ∀ p, H p = none → Q (.ref p) (upd H p (.lst ys))) (RR := fun acc C => compPost (model X.prog X.w) X.A X.xe none (EP X pins σ Q) acc C) S hg hc ht he I2 T st2 f2 w0 hn turn ?_
  intro E' C ys H4 s5 m5 I5 hm5 hCE fD fC hCL hC0 hCc hCp q
  refine ⟨m5, hm5, fun h' sb' => ⟨.ref E', _, ?_, rfl, q E' fD⟩⟩
  exact I5.turned (t' := s5.toks) (it := C) (fun b o hb e => sb'.extBut b o hb e) (by rw [upd_ne hCE]; exact fC) hCL (.inr hC0) hCc hCp
/-- two names, told by a tuple -/
def gPair (K : PySem.W.Frag) : TG := fun v σ H Q => ∃ a x y, v = .ref a ∧ SqT K H a [x, y] ∧ Q ((σ.set 0 (some x)).set 1 (some y)) H
theorem pg_pair {X : Cx} {x y : Str} {k : Nat} {px py pos : Pos} (hc : X.A.handled = none) (nd : X.N.Nodup) (h0 : X.N[0]? = some x) (h1 : X.N[1]? = some y) (hx : X.env.scope.names.lookup x = some .local) (hy : X.env.scope.names.lookup y = some .local) :
    PG X (.Tuple [.Name x px, .Name y py] k pos) (gPair X.K) := by
  intro pins s σ H v u Q I r q
  obtain ⟨a, z, t, e1, e2, q⟩ := q
  exact (pg_tup (n := 2) hc (pgs_cons (pg_name nd h0 (.inl hx) (.inr hx)) (pgs_cons (pg_name nd h1 (.inl hy) (.inr hy)) pgs_nil))) pins s σ H v u Q I r ⟨a, [z, t], e1, e2, rfl, z, [t], rfl, t, [], rfl, rfl, q⟩
theorem ext_pair {fv : List Nat} {σ : St} {x y : V} : Ext (bv 2 fv σ) (((bv 2 fv σ).set 0 (some x)).set 1 (some y)) := by
  refine ⟨by simp, fun j v e => ?_⟩
  match j, e with
  | 0, e => cases (Option.some.inj e)
  | 1, e => cases (Option.some.inj e)
  | j + 2, e => exact e
theorem bv_pair {fv : List Nat} {σ : St} {x y : V} : ((bv 2 fv σ).set 0 (some x)).set 1 (some y) = some x :: some y :: blkVals fv σ := rfl
end L2

namespace L2
open PySem PySem.Spec PyProof.Rows
section
variable {X : Cx}
/-- any(a list of truths) -/
theorem call_any_bl (hc : X.A.handled = none) : CallR X (.builtin "any") (fun xs H Q => ∃ (p : Addr) (bs : List Bool), xs = [.ref p] ∧ SqL X.K H p (bs.map V.bl) ∧ Q (.bl (bs.any id)) H) := by
  intro pins s σ H xs us Q I r h
  obtain ⟨p, bs, rfl, hq, q⟩ := h
  obtain ⟨u, rfl, rx⟩ := vals1 r
  cases (show u = Value.ref p from rx)
  obtain ⟨its, rv, pl, hz⟩ := I.list hq
  have hl := pl.isList
  have hlt : p < s.heap.objs.size := by obtain ⟨_, e, _⟩ := hl; exact Heap.lt_size e
  have hh : X.A.handled = none := hc
  have hlen : bs.length = its.length := by have := rv.length; rw [List.length_map] at this; exact this
  refine call_any_walk (wpAny_pyIter_list hl ?_)
  refine ⟨s.heap.objs.size, [s.heap.objs.size, p], [s.heap.objs.size], its.toArray.size, _, _, fun i => (bs[i]?).getD false, rfl, Walks.list (A := X.A.in1) hh _ p (Nat.ne_of_lt hlt) its.toArray,
    ⟨⟨_, Heap.get?_push_size _ rfl, rfl, rfl⟩, hl.push _⟩, fun i v s' Q' E' hP hQ => ?_, fun h' tk hk => ?_⟩
  · have hP' : its[i]? = some v := by simpa using hP
    have hi : i < its.length := (List.getElem?_eq_some_iff.mp hP').1
    have hb : (bs.map V.bl)[i]? = some (V.bl (bs[i]'(by omega))) := by rw [List.getElem?_map, List.getElem?_eq_getElem (by omega)]; rfl
    obtain ⟨u', e1, e2⟩ := rv.get hb
    rw [hP'] at e1
    cases e1
    cases (show v = Value.bool _ from e2)
    have hQ' : Q' ((bs[i]?).getD false) s' := hQ
    rw [List.getElem?_eq_getElem (by omega)] at hQ'
    exact wpAny_truthy_bool hQ'
  · have e : ((List.range its.toArray.size).any fun i => (bs[i]?).getD false) = bs.any id := by
      rw [List.size_toArray, ← hlen, Bool.eq_iff_iff, List.any_eq_true, List.any_eq_true]
      constructor
      · rintro ⟨i, hi, hb⟩
        have hi' := List.mem_range.mp hi
        rw [List.getElem?_eq_getElem hi'] at hb
        exact ⟨bs[i], List.getElem_mem hi', hb⟩
      · rintro ⟨b, hb, hb'⟩
        obtain ⟨i, hi, e⟩ := List.getElem_of_mem hb
        refine ⟨i, List.mem_range.mpr hi, ?_⟩
        rw [List.getElem?_eq_getElem hi, e]
        exact hb'
    rw [e]
    exact ⟨.bl _, H, I.kept (LSm.kept_iter hk), rfl, q⟩
/-! ### sorted, of two texts -/
theorem sort2 : PySem.W.kas_sort 2 = PySem.W.KasT.ask 1 0 fun c => if c = true then PySem.W.KasT.ret #[1, 0] else PySem.W.KasT.ret #[0, 1] := by
  show PySem.W.KasT.ask _ _ _ = _
  congr 1
  funext c
  cases c <;> rfl
theorem call_sorted2 : CallR X (.builtin "sorted") (fun xs H Q => ∃ p a b, xs = [.ref p] ∧ SqL X.K H p [.str a, .str b] ∧ ∀ l, H l = none → Q (.ref l) (upd H l (.lst (if b.cps.toList < a.cps.toList then [.str b, .str a] else [.str a, .str b])))) := by
  intro pins s σ H xs us Q I r h
  obtain ⟨p, a, b, rfl, hq, q⟩ := h
  obtain ⟨u, rfl, rx⟩ := vals1 r
  cases (show u = Value.ref p from rx)
  obtain ⟨its, rv, pl, hz⟩ := I.list hq
  obtain ⟨u1, u2, rfl, r1, r2⟩ := rv.two
  obtain ⟨t1, rfl⟩ := r1
  obtain ⟨t2, rfl⟩ := r2
  obtain ⟨m, hn, _⟩ := id I.loc
  have led : ∀ c o, c ≠ X.env.locals → s.heap.get? c = some o → (c, o) ∈ Att.ledger s.heap X.env.locals X.env.locals := fun c o n1 e => Att.mem_ledger.mpr ⟨n1, n1, e⟩
  have N : News (Att.noObjs s.heap) X.env.locals s.heap (Att.ledger s.heap X.env.locals X.env.locals) := fun ⟨c, o⟩ hp => by
    obtain ⟨n1, _, e⟩ := Att.mem_ledger.mp hp
    exact ⟨e, n1, Att.noObjs_get _ _⟩
  refine PySem.W.kas_sorted (T := .type "str") (Att.fr_all hn) N (vs := [.str a t1, .str b t2]) pl.isList (by show 2 ≤ 2; decide) (by show 2 < 64; decide) (fun h' _ _ v hv => ?_) rfl (fun D e1 h' F' N' hD => ?_)
  · rcases List.mem_cons.mp hv with e | hv
    · subst e; exact PySem.W.Looks.of_pure rfl
    · rcases List.mem_cons.mp hv with e | hv
      · subst e; exact PySem.W.Looks.of_pure rfl
      · cases hv
  · show (PySem.W.kas_sort 2).kasWp _ _ _
    rw [sort2]
    show PySem.wpAny _ _ _ _ _ _
    refine PySem.W.kas_lt_str ?_
    have fin : ∀ (out : List Value) (ys : List V), Vals ys out → ys.length = 2 → Q (.ref D) (upd H D (.lst ys)) →
        PySem.W.KasFin (Att.noObjs s.heap) X.env.locals m D e1 out (fun s'' => EP X pins σ Q (.ref D) s'') { s with heap := h' } := fun out ys hv hl2 hQ => by
      refine PySem.W.KasFin.intro F' N' (.head fun p hp => Nat.ne_of_lt (hD p hp)) fun h2 c2 F2 N2 => ?_
      have keep : ∀ c o, c ≠ X.env.locals → s.heap.get? c = some o → h2.get? c = some o := fun c o n1 e => (N2 (c, o) (List.mem_cons_of_mem _ (led c o n1 e))).1
      have eD : h2.get? D = some (PySem.W.listOf (List.toArray out) c2) := (N2 (D, _) List.mem_cons_self).1
      have nD : D ≠ X.env.locals := (N2 (D, _) List.mem_cons_self).2.1
      have fresh : ∀ c o, s.heap.get? c = some o → c ≠ D := fun c o e z => by
        subst z
        exact absurd (hD _ (led c o nD e)) (Nat.lt_irrefl _)
      have hDn : H D = none := by
        cases z : H D with
        | none => rfl
        | some o =>
          obtain ⟨ob, e⟩ := (I.hok D o z).there
          exact absurd rfl (fresh D ob e)
      have hok : HOk X.prog X.w (upd H D (.lst ys)) h2 := fun c o e => by
        by_cases hc : c = D
        · subst hc
          rw [upd_same] at e
          cases e
          exact ⟨by rw [hl2]; decide, out, c2, hv, eD⟩
        · rw [upd_ne hc] at e
          have nL : c ≠ X.env.locals := fun z => by rw [z, I.free] at e; cases e
          refine (I.hok c o e).stay (fun d v hd q => keep d v (fun z => ?_) q) (fun d q => by rw [upd_ne (fun z => by rw [z, hDn] at q; cases q)]; exact q) fun d xs q => by rw [upd_ne (fun z => by rw [z, hDn] at q; cases q)]; exact q
          rcases hd with hd | hd
          · exact nL (hd.symm.trans z)
          · rw [z, I.free] at hd; cases hd
      refine ⟨.ref D, upd H D (.lst ys), ?_, rfl, hQ⟩
      show Inv X pins σ (upd H D (.lst ys)) { s with heap := h2 }
      refine I.step (h' := h2) (g' := s.gens) (d' := s.drawn) (t' := s.toks) (ch := []) (fun _ z => nomatch z) (fun c o n1 _ _ e _ => keep c o n1 e) (fun c o n1 _ _ e _ => ⟨o.slots, keep c o n1 e⟩) (fun c o _ e n => by rw [upd_ne (fresh c o e)]; exact n)
        (fun c o _ e => ?_) (fun c xs e => by rw [upd_ne (ne_of_none e hDn)]; exact e) (fun c o u e => by rw [upd_ne (ne_of_none e hDn)]; exact e) (fun c ps e => ⟨#[], by rw [upd_ne (ne_of_none e hDn), e]; simp⟩) (fun m' hm' => ?_) hok I.bare
      · by_cases hc : c = X.env.locals
        · obtain ⟨o', _, _, e', _⟩ := F2.ns
          exact ⟨o', hc ▸ e'⟩
        · exact ⟨o, keep c o hc e⟩
      · have e : m' = m := funext fun name => hm'.agree hn name
        rw [e]
        exact F2.ns
    by_cases hlt : b.cps.toList < a.cps.toList
    · rw [decide_eq_true hlt]
      rw [if_pos hlt] at q
      refine fin [.str b t2, .str a t1] [.str b, .str a] (.cons ⟨_, rfl⟩ (.cons ⟨_, rfl⟩ .nil)) rfl (q D ?_)
      cases z : H D with
      | none => rfl
      | some o =>
        obtain ⟨ob, e⟩ := (I.hok D o z).there
        have nL : D ≠ X.env.locals := fun z' => by rw [z', I.free] at z; cases z
        exact absurd (hD _ (led D ob nL e)) (Nat.lt_irrefl _)
    · rw [decide_eq_false hlt]
      rw [if_neg hlt] at q
      refine fin [.str a t1, .str b t2] [.str a, .str b] (.cons ⟨_, rfl⟩ (.cons ⟨_, rfl⟩ .nil)) rfl (q D ?_)
      cases z : H D with
      | none => rfl
      | some o =>
        obtain ⟨ob, e⟩ := (I.hok D o z).there
        have nL : D ≠ X.env.locals := fun z' => by rw [z', I.free] at z; cases z
        exact absurd (hD _ (led D ob nL e)) (Nat.lt_irrefl _)
/-! ### a table of the module: texts to numbers or texts -/
def datL : KTD.Dat → Value → Bool
  | .flat d, v => KTD.flatLooks d v
  | _, _ => false
theorem datL_at {h : Heap} : ∀ (d : KTD.Dat) (v : Value), datL d v = true → d.At h v
  | .flat d, v, e => KTD.flat_of_looks (d := d) e
  | .float _, _, e => by cases e
  | .nums _, _, e => by cases e
  | .words _, _, e => by cases e
  | .tup _, _, e => by cases e
  | .tab _, _, e => by cases e
def TabK (K : PySem.W.Frag) (a : Addr) (D : List (Str × KTD.Dat)) : Prop := KTD.tabLook datL (fun b => K.lookup b) a D = true
theorem TabK.at {K : PySem.W.Frag} {a : Addr} {D : List (Str × KTD.Dat)} {h : Heap} (t : TabK K a D) (kin : K.In h) : KTD.TextTab h a D := KTD.tab_of_look datL_at (fun a o e => kin a o e) t
theorem each_at {h₀ : Heap} {k : Str} {Pr : Value → Prop} : ∀ {D : List (Str × KTD.Dat)} {d : KTD.Dat}, KTD.datumAt k D = some d → KTD.Opened h₀ Pr d → KTD.EachL h₀ k Pr D
  | [], _, e, _ => by cases e
  | (x, d') :: D, d, e, o => by
    have e' : (if decide (k = x) = true then some d' else KTD.datumAt k D) = some d := e
    by_cases hx : k = x
    · rw [if_pos (decide_eq_true hx)] at e'
      cases e'
      exact KTD.eachL_hit hx o
    · rw [if_neg (by simp [hx])] at e'
      exact KTD.eachL_miss hx (each_at e' o)
theorem ix_tabI {D : List (Str × KTD.Dat)} : IxR X (fun x y H Q => ∃ a k i, x = .ref a ∧ y = .str k ∧ TabK X.K a D ∧ KTD.datumAt k D = some (.flat (.int i)) ∧ (D.all fun p => KTD.plain p.2) = true ∧ Q (.int i) H) := by
  intro value slice pins s σ H x y v u Q I rx ry h hs
  obtain ⟨a, k, i, rfl, rfl, ht, hd, hp, q⟩ := h
  cases rx
  obtain ⟨t, rfl⟩ := ry
  refine KTD.item_textA (h₀ := s.heap) ⟨ht.at I.kIn, fun _ _ e => e⟩ hp ?_ ?_ hs
  · rw [← KTD.isSome_datumAt, hd]; rfl
  · exact each_at hd (KTD.opened_int fun t' => ⟨.int i, H, I.tok _, ⟨_, rfl⟩, q⟩)
end
/-! in a walking's block the part of the heap is named: the readings may not hang on the block's own context -/
section
variable {X : Cx} {α : Type} [DecidableEq α]
theorem pfK (K : PySem.W.Frag) (i : Nat) {x f : Str} {px pos : Pos} (hK : X.K = K := by rfl) (hN : X.N[i]? = some x := by rfl) (hv : Vis X.env.scope x := by first | exact Or.inl rfl | exact Or.inr (Or.inl rfl) | exact Or.inr (Or.inr rfl)) (hd : (x == ("__debug__" : Str)) = false := by decide)
    (hcd : (x == ("__classdict__" : Str)) = false := by decide) (hb : attributeBase (.Name x px) f X.env (eval (.Name x px) X.env) = eval (.Name x px) X.env := by rfl) : PE X (.Attribute (.Name x px) f pos) (tFld K (tVar i) f) := by
  subst hK
  exact pe_fld (pe_var hN hv hd hcd) hb
theorem pg_pairK (K : PySem.W.Frag) {x y : Str} {k : Nat} {px py pos : Pos} (hc : X.A.handled = none) (nd : X.N.Nodup) (h0 : X.N[0]? = some x) (h1 : X.N[1]? = some y) (hx : X.env.scope.names.lookup x = some .local) (hy : X.env.scope.names.lookup y = some .local) (hK : X.K = K := by rfl) :
    PG X (.Tuple [.Name x px, .Name y py] k pos) (gPair K) := by
  subst hK
  exact pg_pair hc nd h0 h1 hx hy
theorem op_eqCK (K : PySem.W.Frag) (c : Cod α) (hu : X.A.units + c.n + 1 < cLine) (hK : X.K = K := by rfl) : OpR X (compareOp .Eq) (fun x y H Q => ∃ a b, c.rp K H a x ∧ c.rp K H b y ∧ Q (.bl (decide (a = b))) H) := by
  subst hK
  exact op_eqC c hu
theorem op_neCK (K : PySem.W.Frag) (c : Cod α) (hu : X.A.units + c.n + 1 < cLine) (hK : X.K = K := by rfl) : OpR X (compareOp .NotEq) (fun x y H Q => ∃ a b, c.rp K H a x ∧ c.rp K H b y ∧ Q (.bl (!decide (a = b))) H) := by
  subst hK
  exact op_neC c hu
theorem op_notinCK (K : PySem.W.Frag) (c : Cod α) (hu : X.A.units + c.n + 1 < cLine) (hK : X.K = K := by rfl) : OpR X (compareOp .NotIn) (rNinC c K) := by
  subst hK
  exact op_notinC c hu
end
/-! ### functions and methods, bundled -/
structure GF (P : Program) (w : World) (K : PySem.W.Frag) (mg : Str → Option Value) (base : Heap) (CX : CXT) (k : Nat) (x : Str) (ps : List Str) (sp : Sp) where
  f : Addr
  fd : FuncData
  ok : FnOk P w K mg base CX k f fd ps sp
  bd : Binds K fd ps []
  kp : PySem.W.keepIn K (.ref f) = true
  mgx : mg x = some (.ref f)
structure GM (P : Program) (w : World) (K : PySem.W.Frag) (mg : Str → Option Value) (base : Heap) (CX : CXT) (k : Nat) (C : Addr) (m : Str) (ps : List Str) (sp : Sp) where
  f : Addr
  fd : FuncData
  ok : FnOk P w K mg base CX k f fd ps sp
  bd : Binds K fd ps []
  me : Meth K C m f
section
variable {X : Cx} {CX : CXT} {j k : Nat} {x m : Str} {ps : List Str} {sp : Sp} {E : XK} {p pos apos : Pos} {e o : Expr} {es : List Expr} {t : TA} {ta : TE} {C : Addr}
theorem pc (G : GF X.prog X.w X.K X.mg X.base CX j x ps sp) (hr : Room k X.A) (ha : PA X (e :: es) t) (hx : Passes CX X E := by exact pass0) (hk : j ≤ k := by decide) (hg : Gl X x := by rfl)
    (hdb : (x == ("__debug__" : Str)) = false := by decide) (he : starEach (e :: es) X.env = (false, eval e X.env) :: starEach es X.env := by rfl) (hpl : (backTo pos (starEach es X.env)).any (·.1) = false := by rfl) (hcq : X.calm = true := by rfl) :
    PE X (.Call (.Name x p) (e :: es) [] pos) (tCall sp [] E t) := pe_call G.ok (hr.mono hk) hg G.mgx G.kp G.bd .nil hx ha hdb he hpl hcq
theorem pm {pl : Sem Bool} (G : GM X.prog X.w X.K X.mg X.base CX j C m ps sp) (ho : PE X o ta) (cl : Cls X.K C) (hr : Room k X.A) (ha : PA X (e :: es) t) (hx : Passes CX X E := by exact pass0) (hk : j ≤ k := by decide)
    (hst : starEach (e :: es) X.env = (false, eval e X.env) :: starEach es X.env := by rfl) (hpl : (backTo pos (starEach es X.env)).any (·.1) = false := by rfl)
    (ht : eval (.Call (.Attribute o m apos) (e :: es) [] pos) X.env = (do
      let ov ← eval o X.env
      standAt apos.atName
      let (f, first) ← holding [ov] (getMethod ov m pl)
      callWith pos f first (backTo pos (starEach (e :: es) X.env)) (backToKw pos (keywordEach [] X.env))) := by rfl) (hcq : X.calm = true := by rfl) :
    PE X (.Call (.Attribute o m apos) (e :: es) [] pos) (tMeth C m sp [] E ta t) := pe_meth ho cl G.me G.ok (hr.mono hk) G.bd .nil hx ha hst hpl ht hcq
theorem pm0 {pl : Sem Bool} (G : GM X.prog X.w X.K X.mg X.base CX j C m ps sp) (ho : PE X o ta) (cl : Cls X.K C) (hr : Room k X.A) (hx : Passes CX X E := by exact pass0) (hk : j ≤ k := by decide)
    (ht : eval (.Call (.Attribute o m apos) [] [] pos) X.env = (do
      let ov ← eval o X.env
      standAt apos.atName
      let (f, first) ← holding [ov] (getMethod ov m pl)
      callWith pos f first (backTo pos (starEach [] X.env)) (backToKw pos (keywordEach [] X.env))) := by rfl) (hcq : X.calm = true := by rfl) :
    PE X (.Call (.Attribute o m apos) [] [] pos) (tMeth C m sp [] E ta tNil) := pe_meth0 ho cl G.me G.ok (hr.mono hk) G.bd .nil hx ht hcq
end
end L2

set_option maxHeartbeats 1000000
namespace L2
open PySem PySem.Spec PyProof.Rows
/-! ### walking lists, by an invariant -/
section
variable {K : PySem.W.Frag} {a : Addr} {xs : List V} {tt : TT} {te : TE} {bl : St} {Fin : List V → Hp → Prop} {H : Hp}
theorem lc_list (Pv : Nat → List V → Hp → Prop) (h0 : Pv 0 [] H) (hn : xs.length ≤ sizeLine) (hl : ∀ i ys H, i ≤ xs.length → Pv i ys H → SqL K H a xs)
    (hs : ∀ i x ys H, xs[i]? = some x → Pv i ys H → tt (some x :: bl) H fun c H2 => if c = true then te (some x :: bl) H2 fun y H3 => Pv (i + 1) (ys ++ [y]) H3 else Pv (i + 1) ys H2)
    (hd : ∀ ys H, Pv xs.length ys H → Fin ys H) :
    ∃ (W : Nat → List V → Hp → Prop) (n : Nat), W 0 [] H ∧ n ≤ sizeLine ∧ ∀ i ys H, W i ys H → ((Itl K a).stop i H ∧ Fin ys H) ∨
      ((Itl K a).go i H ∧ i < n ∧ ∀ x H', (Itl K a).yld i H x H' → tt (some x :: bl) H' fun c H2 => if c = true then te (some x :: bl) H2 fun y H3 => W (i + 1) (ys ++ [y]) H3 else W (i + 1) ys H2) := by
  refine ⟨fun i ys H => i ≤ xs.length ∧ Pv i ys H, xs.length, ⟨Nat.zero_le _, h0⟩, hn, ?_⟩
  rintro i ys H ⟨hi, p⟩
  have q := hl i ys H hi p
  by_cases hlt : i < xs.length
  · refine .inr ⟨⟨xs, xs[i], q, by simp [hlt]⟩, hlt, fun x H' y => ?_⟩
    obtain ⟨e, y⟩ := y
    subst e
    have z := hs i x ys _ (y xs q) p
    have e1 : (fun (c : Bool) (H2 : Hp) => if c = true then te (some x :: bl) H2 fun y H3 => i + 1 ≤ xs.length ∧ Pv (i + 1) (ys ++ [y]) H3 else i + 1 ≤ xs.length ∧ Pv (i + 1) ys H2) = fun c H2 => if c = true then te (some x :: bl) H2 fun y H3 => Pv (i + 1) (ys ++ [y]) H3 else Pv (i + 1) ys H2 := by
      have e2 : (i + 1 ≤ xs.length) = True := eq_true hlt
      funext c H2
      simp only [e2, true_and]
    show tt _ _ _
    rw [e1]
    exact z
  · have e : i = xs.length := by omega
    subst e
    exact .inl ⟨⟨xs, q, Nat.le_refl _⟩, hd ys H p⟩
theorem tAllT {σ : St} {A B : Hp → Prop} (h : A H) : tAll σ H (fun c H2 => if c = true then A H2 else B H2) := by
  show if true = true then A H else B H
  exact @iteT (A H) (B H) h
theorem lc_range {n : Nat} (Pv : Nat → List V → Hp → Prop) (h0 : Pv 0 [] H) (hn : n ≤ sizeLine)
    (hs : ∀ (i : Nat) ys H, i < n → Pv i ys H → tt (some (.int i) :: bl) H fun c H2 => if c = true then te (some (.int i) :: bl) H2 fun y H3 => Pv (i + 1) (ys ++ [y]) H3 else Pv (i + 1) ys H2)
    (hd : ∀ ys H, Pv n ys H → Fin ys H) :
    ∃ (W : Nat → List V → Hp → Prop) (m : Nat), W 0 [] H ∧ m ≤ sizeLine ∧ ∀ i ys H, W i ys H → ((Itr 0 n).stop i H ∧ Fin ys H) ∨
      ((Itr 0 n).go i H ∧ i < m ∧ ∀ x H', (Itr 0 n).yld i H x H' → tt (some x :: bl) H' fun c H2 => if c = true then te (some x :: bl) H2 fun y H3 => W (i + 1) (ys ++ [y]) H3 else W (i + 1) ys H2) := by
  refine ⟨fun i ys H => i ≤ n ∧ Pv i ys H, n, ⟨Nat.zero_le _, h0⟩, hn, ?_⟩
  rintro i ys H ⟨hi, p⟩
  by_cases hlt : i < n
  · refine .inr ⟨hlt, hlt, fun x H' y => ?_⟩
    obtain ⟨e, y⟩ := y
    subst e
    rw [Int.zero_add] at y
    subst y
    have z := hs i ys _ hlt p
    have e1 : (fun (c : Bool) (H2 : Hp) => if c = true then te (some (.int i) :: bl) H2 fun y H3 => i + 1 ≤ n ∧ Pv (i + 1) (ys ++ [y]) H3 else i + 1 ≤ n ∧ Pv (i + 1) ys H2) = fun c H2 => if c = true then te (some (.int i) :: bl) H2 fun y H3 => Pv (i + 1) (ys ++ [y]) H3 else Pv (i + 1) ys H2 := by
      have e2 : (i + 1 ≤ n) = True := eq_true hlt
      funext c H2
      simp only [e2, true_and]
    show tt _ _ _
    rw [e1]
    exact z
  · have e : i = n := by omega
    subst e
    exact .inl ⟨Nat.le_refl _, hd ys H p⟩
theorem lc_pair {σ : St} {fv : List Nat} (Pv : Nat → List V → Hp → Prop) (h0 : Pv 0 [] H) (hn : xs.length ≤ sizeLine) (hl : ∀ i ys H, i ≤ xs.length → Pv i ys H → SqL K H a xs)
    (hs : ∀ i x ys H, xs[i]? = some x → Pv i ys H → ∃ b u w, x = .ref b ∧ SqT K H b [u, w] ∧ tt (some u :: some w :: blkVals fv σ) H fun c H2 => if c = true then te (some u :: some w :: blkVals fv σ) H2 fun y H3 => Pv (i + 1) (ys ++ [y]) H3 else Pv (i + 1) ys H2)
    (hd : ∀ ys H, Pv xs.length ys H → Fin ys H) :
    ∃ (W : Nat → List V → Hp → Prop) (n : Nat), W 0 [] H ∧ n ≤ sizeLine ∧ ∀ i ys H, W i ys H → ((Itl K a).stop i H ∧ Fin ys H) ∨
      ((Itl K a).go i H ∧ i < n ∧ ∀ x H', (Itl K a).yld i H x H' → gPair K x (bv 2 fv σ) H' fun σ' H'' => Ext (bv 2 fv σ) σ' ∧ tt σ' H'' fun c H2 => if c = true then te σ' H2 fun y H3 => W (i + 1) (ys ++ [y]) H3 else W (i + 1) ys H2) := by
  refine ⟨fun i ys H => i ≤ xs.length ∧ Pv i ys H, xs.length, ⟨Nat.zero_le _, h0⟩, hn, ?_⟩
  rintro i ys H ⟨hi, p⟩
  have q := hl i ys H hi p
  by_cases hlt : i < xs.length
  · refine .inr ⟨⟨xs, xs[i], q, by simp [hlt]⟩, hlt, fun x H' y => ?_⟩
    obtain ⟨e, y⟩ := y
    subst e
    obtain ⟨b, u, w, ex, hb, z⟩ := hs i x ys _ (y xs q) p
    have e1 : (fun (c : Bool) (H2 : Hp) => if c = true then te (some u :: some w :: blkVals fv σ) H2 fun y H3 => i + 1 ≤ xs.length ∧ Pv (i + 1) (ys ++ [y]) H3 else i + 1 ≤ xs.length ∧ Pv (i + 1) ys H2) = fun c H2 => if c = true then te (some u :: some w :: blkVals fv σ) H2 fun y H3 => Pv (i + 1) (ys ++ [y]) H3 else Pv (i + 1) ys H2 := by
      have e2 : (i + 1 ≤ xs.length) = True := eq_true hlt
      funext c H2
      simp only [e2, true_and]
    refine ⟨b, u, w, ex, hb, ext_pair, ?_⟩
    rw [bv_pair]
    show tt _ _ _
    rw [e1]
    exact z
  · have e : i = xs.length := by omega
    subst e
    exact .inl ⟨⟨xs, q, Nat.le_refl _⟩, hd ys H p⟩
end
end L2
/-! ### locks, as data -/
namespace Lo
open PySem L2
inductive Kd where
  | read | mean | change
  deriving DecidableEq
def kdS : Kd → Str
  | .read => "read"
  | .mean => "mean"
  | .change => "change"
theorem s_rm : ¬ (("read" : Str) = "mean") := by decide +kernel
theorem s_rc : ¬ (("read" : Str) = "change") := by decide +kernel
theorem s_mc : ¬ (("mean" : Str) = "change") := by decide +kernel
theorem kdS_inj : ∀ x y, kdS x = kdS y → x = y
  | .read, .read, _ => rfl
  | .mean, .mean, _ => rfl
  | .change, .change, _ => rfl
  | .read, .mean, h => absurd h s_rm
  | .read, .change, h => absurd h s_rc
  | .mean, .change, h => absurd h s_mc
  | .mean, .read, h => absurd h.symm s_rm
  | .change, .read, h => absurd h.symm s_rc
  | .change, .mean, h => absurd h.symm s_mc
def rank : Kd → Int
  | .read => 0
  | .mean => 1
  | .change => 2
def kdOf (i : Int) : Kd := if i = 0 then .read else if i = 1 then .mean else .change
abbrev Lk := Kd × Int × Int
abbrev Pa := Int × Int
abbrev Pr := Pa × Lk
def share : Kd → Kd → Bool
  | .read, .read => true
  | .read, .mean => true
  | .mean, .read => true
  | _, _ => false
def besideB (a b : Lk) : Bool := (decide (a.2.2 < b.2.1) || decide (b.2.2 < a.2.1)) || share a.1 b.1
def coversB (a b : Lk) : Bool := (decide (a.2.1 ≤ b.2.1) && decide (b.2.2 ≤ a.2.2)) && decide (rank b.1 ≤ rank a.1)
theorem share_mem (a b : Kd) : decide ((kdS a, kdS b) ∈ ([("read", "read"), ("read", "mean"), ("mean", "read")] : List (Str × Str))) = share a b := by
  cases a <;> cases b <;> decide +kernel
theorem share_mem2 (a b : Kd) (i : Decidable ((kdS a, kdS b) ∈ ([("read", "read"), ("read", "mean"), ("mean", "read")] : List (Str × Str)))) : @decide _ i = share a b := (decide_eq_decide.mpr Iff.rfl).trans (share_mem a b)
def toldT (k : Lk) : Str × Int × Int := (kdS k.1, k.2)
theorem toldT_inj : ∀ x y, toldT x = toldT y → x = y := fun x y h => by
  obtain ⟨a, b⟩ := x
  obtain ⟨c, d⟩ := y
  have h1 := congrArg Prod.fst h
  have h2 := congrArg Prod.snd h
  exact Prod.ext (kdS_inj _ _ h1) h2
def cLk : Cod Lk := cVia toldT toldT_inj (cT3 cStr cInt cInt)
def cPa : Cod Pa := cT2 cInt cInt
def cPr : Cod Pr := cT2 cPa cLk
theorem cLk_mk {K : PySem.W.Frag} {H : Hp} {a : Addr} {k : Lk} (h : H a = some (.tup [.str (kdS k.1), .int k.2.1, .int k.2.2])) : cLk.rp K H k (.ref a) := ⟨a, _, _, _, rfl, .inl h, rfl, rfl, rfl⟩
theorem cPa_mk {K : PySem.W.Frag} {H : Hp} {a : Addr} {k : Pa} (h : H a = some (.tup [.int k.1, .int k.2])) : cPa.rp K H k (.ref a) := ⟨a, _, _, rfl, .inl h, rfl, rfl⟩
theorem cPr_mk {K : PySem.W.Frag} {H : Hp} {a : Addr} {u v : V} {k : Pr} (h : H a = some (.tup [u, v])) (h1 : cPa.rp K H k.1 u) (h2 : cLk.rp K H k.2 v) : cPr.rp K H k (.ref a) := ⟨a, u, v, rfl, .inl h, h1, h2⟩
/-! ### what stays -/
def Fix (CL : Addr) : HO → Prop
  | .tup _ => True
  | .ins C _ _ => C ≠ CL
  | _ => False
def FSame (CL : Addr) (H H' : Hp) : Prop := ∀ b o, H b = some o → Fix CL o → H' b = some o
theorem FSame.ts {CL : Addr} {H H' : Hp} (h : FSame CL H H') : TSame H H' := fun b xs e => h b _ e True.intro
theorem fs_same {CL : Addr} {H H' : Hp} (h : Same H H') : FSame CL H H' := fun b o e _ => h b o e
theorem FSame.trans {CL : Addr} {H H1 H2 : Hp} (a : FSame CL H H1) (b : FSame CL H1 H2) : FSame CL H H2 := fun c o e f => b c o (a c o e f) f
theorem same_new {H : Hp} {p : Addr} {o : HO} (h : H p = none) : Same H (upd H p o) := fun b u e => by
  rw [upd_ne (ne_of_none e h)]
  exact e
/-- all but p stays -/
def Kp (p : Addr) (H H' : Hp) : Prop := ∀ b o, b ≠ p → H b = some o → H' b = some o
theorem Kp.of {p : Addr} {H H' : Hp} (h : Same H H') : Kp p H H' := fun b o _ e => h b o e
theorem Kp.trans {p : Addr} {H H1 H2 : Hp} (a : Kp p H H1) (b : Kp p H1 H2) : Kp p H H2 := fun c o n e => b c o n (a c o n e)
theorem kp_upd {p : Addr} {H : Hp} {o : HO} : Kp p H (upd H p o) := fun b u n e => by
  rw [upd_ne n]
  exact e
theorem Kp.fs {CL p : Addr} {H H' : Hp} {xs : List V} (h : Kp p H H') (e : H p = some (.lst xs)) : FSame CL H H' := fun b o q f => h b o (fun z => by rw [z, e] at q; cases q; exact f) q
theorem Kp.fsi {CL p dx : Addr} {H H' : Hp} {fs : List (Str × V)} (h : Kp p H H') (e : H p = some (.ins CL dx fs)) : FSame CL H H' := fun b o q f => h b o (fun z => by rw [z, e] at q; cases q; exact f rfl) q
/-! ### a lock's object -/
theorem fl : ¬ (("first" : Str) = "last") := by decide +kernel
def lf (f l : Int) : List (Str × V) := putF "last" (.int l) (putF "first" (.int f) [])
theorem lf_first (f l : Int) : (lf f l).lookup ("first" : Str) = some (.int f) := by
  unfold lf
  rw [lookup_putF, if_neg fl, lookup_putF, if_pos rfl]
theorem lf_last (f l : Int) : (lf f l).lookup ("last" : Str) = some (.int l) := by
  unfold lf
  rw [lookup_putF, if_pos rfl]
theorem lf_no (f l : Int) {m : Str} (h1 : ¬ m = "last") (h2 : ¬ m = "first") : (lf f l).lookup m = none := by
  unfold lf
  rw [lookup_putF, if_neg h1, lookup_putF, if_neg h2]
  rfl
def LkO (C : Kd → Addr) (H : Hp) (k : Lk) (v : V) : Prop := ∃ a dx, v = .ref a ∧ H a = some (.ins (C k.1) dx (lf k.2.1 k.2.2))
theorem LkO.keep {C : Kd → Addr} {CL : Addr} {H H' : Hp} {k : Lk} {v : V} (hC : ∀ k, C k ≠ CL) (e : FSame CL H H') (h : LkO C H k v) : LkO C H' k v := by
  obtain ⟨a, dx, e1, e2⟩ := h
  exact ⟨a, dx, e1, e a _ e2 (hC _)⟩
def PrO (C : Kd → Addr) (K : PySem.W.Frag) (H : Hp) (x : Pr) (v : V) : Prop := ∃ a u l, v = .ref a ∧ SqU K H a [u, l] ∧ cPa.rp K H x.1 u ∧ LkO C H x.2 l
theorem PrO.keep {C : Kd → Addr} {CL : Addr} {K : PySem.W.Frag} {H H' : Hp} {x : Pr} {v : V} (hC : ∀ k, C k ≠ CL) (e : FSame CL H H') (h : PrO C K H x v) : PrO C K H' x v := by
  obtain ⟨a, u, l, e1, e2, e3, e4⟩ := h
  exact ⟨a, u, l, e1, e2.keep e.ts, cPa.keep e.ts e3, e4.keep hC e⟩
/-! ### a house's locks -/
def LS (C : Kd → Addr) (CL : Addr) (K : PySem.W.Frag) (H : Hp) (l p : Addr) (ps : List Pr) : Prop :=
  ∃ dx vs, H l = some (.ins CL dx [("pairs", .ref p)]) ∧ H p = some (.lst vs) ∧ Paired (PrO C K H) ps vs
theorem pp {F : α → β → Prop} {G : α → β → Prop} {xs : List α} {ys : List β} (h : Paired F xs ys) (f : ∀ a b, F a b → G a b) : Paired G xs ys := Paired.mapP h f
theorem LS.keep {C : Kd → Addr} {CL : Addr} {K : PySem.W.Frag} {H H' : Hp} {l p : Addr} {ps : List Pr} (hC : ∀ k, C k ≠ CL) (e : Same H H') (h : LS C CL K H l p ps) : LS C CL K H' l p ps := by
  obtain ⟨dx, vs, e1, e2, e3⟩ := h
  exact ⟨dx, vs, e l _ e1, e p _ e2, pp e3 fun _ _ q => q.keep hC (fs_same e)⟩
/-! ### what waits, what is held -/
def hb (ps : List Pr) (k j : Nat) : Bool := match ps[j]?, ps[k]? with
  | some a, some b => !decide (a.1 = b.1) && !besideB a.2 b.2
  | _, _ => false
def hind (ps : List Pr) (k : Nat) : Option Nat := (List.range k).find? (hb ps k)
def optV : Option Nat → V
  | none => .non
  | some j => .int j
theorem hind_some {ps : List Pr} {k i : Nat} (hi : i < k) (h : hb ps k i = true) (h0 : ∀ j, j < i → hb ps k j = false) : hind ps k = some i := by
  unfold hind
  rw [List.find?_range_eq_some]
  exact ⟨h, List.mem_range.mpr hi, fun j hj => by rw [h0 j hj]; rfl⟩
theorem hind_none {ps : List Pr} {k : Nat} (h0 : ∀ j, j < k → hb ps k j = false) : hind ps k = none := by
  unfold hind
  rw [List.find?_range_eq_none]
  exact fun j hj => by rw [h0 j hj]; rfl
theorem hind_of0 {ps : List Pr} {k : Nat} (h : hind ps k = none) : ∀ j, j < k → hb ps k j = false := by
  unfold hind at h
  rw [List.find?_range_eq_none] at h
  exact fun j hj => by simpa using h j hj
def pick {α : Type} (xs : List α) (ix : List Nat) : List α := ix.filterMap (xs[·]?)
theorem pick_snoc {α : Type} (xs : List α) (ix : List Nat) (k : Nat) : pick xs (ix ++ [k]) = pick xs ix ++ (xs[k]?).toList := by
  unfold pick
  rw [List.filterMap_append]
  congr 1
theorem pick_pair {α β : Type} {R : α → β → Prop} {xs : List α} {us : List β} (h : Paired R xs us) : ∀ ix : List Nat, Paired R (pick xs ix) (pick us ix)
  | [] => .nil
  | k :: ix => by
    have ih := pick_pair h ix
    unfold pick at ih ⊢
    rw [List.filterMap_cons, List.filterMap_cons]
    cases e : us[k]? with
    | none =>
      have e' : xs[k]? = none := by
        have := h.len
        rw [List.getElem?_eq_none_iff] at e ⊢
        omega
      rw [e']
      exact ih
    | some u =>
      obtain ⟨x, e', r⟩ := h.get e
      rw [e']
      exact .cons r ih
def heldIx (ps : List Pr) : List Nat := (List.range ps.length).filter fun k => (hind ps k).isNone
def waitIx (ps : List Pr) : List Nat := (List.range ps.length).filter fun k => (hind ps k).isSome
def heldL (ps : List Pr) : List Pr := pick ps (heldIx ps)
def waitL (ps : List Pr) : List Pr := pick ps (waitIx ps)
def wpl (ps : List Pr) (p : Pa) (k : Nat) : Bool := match ps[k]? with
  | some a => decide (a.1 = p) && (hind ps k).isSome
  | none => false
def wplace (ps : List Pr) (p : Pa) : Option Nat := (List.range ps.length).find? (wpl ps p)
def covered (ps : List Pr) (p : Pa) (k : Lk) : Bool := ps.any fun x => decide (x.1 = p) && coversB x.2 k
def askPs (ps : List Pr) (p : Pa) (k : Lk) : List Pr := if covered ps p k = true then ps else ps ++ [(p, k)]
def askR (ps : List Pr) (p : Pa) (k : Lk) : Bool := covered ps p k || (hind (ps ++ [(p, k)]) ps.length).isNone
def freePs (ps : List Pr) (p : Pa) : List Pr := ps.filter fun x => !decide (x.1 = p)
def freeR (ps : List Pr) (p : Pa) : List Pa := ((waitL ps).filter fun x => !decide (x.1 = p) && !decide (x.1 ∈ (waitL (freePs ps p)).map (·.1))).map (·.1)
def standsB (ps : List Pr) (p : Pa) (k : Lk) : Bool := (heldL ps).all fun x => decide (x.1 = p) || besideB x.2 k
def behindO (ps : List Pr) (p : Pa) : Option Pa := (wplace ps p).bind fun k => (hind ps k).bind fun j => (ps[j]?).map (·.1)
theorem range_filter_succ {f : Nat → Bool} (i : Nat) : (List.range (i + 1)).filter f = (List.range i).filter f ++ (if f i = true then [i] else []) := by
  rw [List.range_succ, List.filter_append]
  congr 1
  rw [List.filter_cons]
  rfl
end Lo

set_option maxHeartbeats 1000000
/-! what the functions about locks do, and what of the top they ask -/
namespace Lo
open PySem L2
/-- a tuple of the module -/
def ModT (K : PySem.W.Frag) (a : Addr) (xs : List V) : Prop := ∃ (o : Obj) (its : Array Value) (n : Nat), K.lookup a = some o ∧ o.cls = .type "tuple" ∧ o.data = .seq its n ∧ its.size ≤ sizeLine ∧ Vals xs its.toList
theorem ModT.sq {K : PySem.W.Frag} {a : Addr} {xs : List V} {H : Hp} (h : ModT K a xs) : SqU K H a xs := .inr h
theorem modT2 {K : PySem.W.Frag} {a : Addr} {x y : Str} {t t' : Tok} {od : Option Addr} {n : Nat} {sl : Array (Option Value)} (h : K.lookup a = some ⟨.type "tuple", od, .seq #[.str x t, .str y t'] n, sl⟩) : ModT K a [.str x, .str y] :=
  ⟨_, _, n, h, rfl, rfl, by show 2 ≤ sizeLine; decide, .cons ⟨_, rfl⟩ (.cons ⟨_, rfl⟩ .nil)⟩
theorem modT3 {K : PySem.W.Frag} {a b c d : Addr} {od : Option Addr} {n : Nat} {sl : Array (Option Value)} (h : K.lookup a = some ⟨.type "tuple", od, .seq #[.ref b, .ref c, .ref d] n, sl⟩) : ModT K a [.ref b, .ref c, .ref d] :=
  ⟨_, _, n, h, rfl, rfl, by show 3 ≤ sizeLine; decide, .cons rfl (.cons rfl (.cons rfl .nil))⟩
/-- built-in names that the program leaves alone -/
structure TxB (mg : Str → Option Value) : Prop where
  isi : mg "isinstance" = none
  int : mg "int" = none
  bool : mg "bool" = none
  str : mg "str" = none
  len : mg "len" = none
  range : mg "range" = none
  tuple : mg "tuple" = none
  list : mg "list" = none
  any : mg "any" = none
  all : mg "all" = none
  max : mg "max" = none
  sorted : mg "sorted" = none
structure TxK (K : PySem.W.Frag) (C : Kd → Addr) : Prop where
  cl : ∀ k, Cls K (C k)
  nF : ∀ k, NoAttr K (C k) "first"
  nL : ∀ k, NoAttr K (C k) "last"
def ranksD : List (Str × PyProof.Rows.KTD.Dat) := [("read", .flat (.int 0)), ("mean", .flat (.int 1)), ("change", .flat (.int 2))]
theorem rank_at (k : Kd) : PyProof.Rows.KTD.datumAt (kdS k) ranksD = some (.flat (.int (rank k))) := by
  cases k <;> kernel_rfl
structure TxS (K : PySem.W.Frag) (mg : Str → Option Value) : Prop where
  sh : ∃ aS a0 a1 a2, mg "SHARING" = some (.ref aS) ∧ ModT K aS [.ref a0, .ref a1, .ref a2] ∧ ModT K a0 [.str "read", .str "read"] ∧ ModT K a1 [.str "read", .str "mean"] ∧ ModT K a2 [.str "mean", .str "read"]
structure TxR (K : PySem.W.Frag) (mg : Str → Option Value) : Prop where
  rk : ∃ aR, mg "RANKS" = some (.ref aR) ∧ TabK K aR ranksD
structure TxL (K : PySem.W.Frag) (C : Kd → Addr) (CL : Addr) : Prop where
  cl : Cls K CL
  nP : NoAttr K CL "pairs"
  ne : ∀ k, C k ≠ CL
theorem tab_mk {K : PySem.W.Frag} {a : Addr} {es : Array DictEntry} {n : Nat} {D : List (Str × PyProof.Rows.KTD.Dat)} (h : K.lookup a = some ⟨.type "dict", none, .dict es n, #[]⟩) (z : (a == sysModules) = false) (r : PyProof.Rows.KTD.rowsLook datL es.toList D = true) : TabK K a D := by
  unfold TabK PyProof.Rows.KTD.tabLook
  rw [z]
  show (true && (match K.lookup a with | some o => _ | none => false)) = true
  rw [h]
  simp [r]
def kdN : Kd → Str
  | .read => "Read"
  | .mean => "Mean"
  | .change => "Change"
/-! ### promises -/
def spKind (k : Kd) : Sp := fun vs H Q _ => ∃ v, vs = [v] ∧ Q (.str (kdS k)) H
def spLInit (C : Kd → Addr) : Sp := fun vs H Q _ => ∃ a dx k f l, vs = [.ref a, .int f, .int l] ∧ H a = some (.ins (C k) dx []) ∧ Q .non (upd (upd H a (.ins (C k) dx (putF "first" (.int f) []))) a (.ins (C k) dx (lf f l)))
def spTold (C : Kd → Addr) : Sp := fun vs H Q _ => ∃ v k, vs = [v] ∧ LkO C H k v ∧ ∀ a, H a = none → Q (.ref a) (upd H a (.tup [.str (kdS k.1), .int k.2.1, .int k.2.2]))
def spBeside (C : Kd → Addr) : Sp := fun vs H Q _ => ∃ v u k j, vs = [v, u] ∧ LkO C H k v ∧ LkO C H j u ∧ ∀ H', Same H H' → Q (.bl (besideB k j)) H'
def spCovers (C : Kd → Addr) : Sp := fun vs H Q _ => ∃ v u k j, vs = [v, u] ∧ LkO C H k v ∧ LkO C H j u ∧ ∀ H', Same H H' → Q (.bl (coversB k j)) H'
def spLockOf (C : Kd → Addr) (K : PySem.W.Frag) : Sp := fun vs H Q _ => ∃ v k, vs = [v] ∧ cLk.rp K H k v ∧ ∀ u H', Same H H' → LkO C H' k u → Q u H'
theorem mk_same {H : Hp} {x dx : Addr} {o1 o2 o3 o4 : HO} (nx : H x = none) (nd : H dx = none) : Same H (upd (upd (upd (upd H dx o1) x o2) x o3) x o4) := fun b o e => by
  have n1 : b ≠ x := ne_of_none e nx
  have n2 : b ≠ dx := ne_of_none e nd
  rw [upd_ne n1, upd_ne n1, upd_ne n1, upd_ne n2]
  exact e
theorem lp_pairs {v : V} : ([("pairs", v)] : List (Str × V)).lookup ("pairs" : Str) = some v := by
  show (putF "pairs" v []).lookup ("pairs" : Str) = some v
  rw [lookup_putF, if_pos rfl]
theorem lp_no {v : V} {m : Str} (h : ¬ m = "pairs") : ([("pairs", v)] : List (Str × V)).lookup m = none := by
  show (putF "pairs" v []).lookup m = none
  rw [lookup_putF, if_neg h]
  rfl
theorem lp_put {v u : V} : putF "pairs" u ([("pairs", v)] : List (Str × V)) = ([("pairs", u)] : List (Str × V)) := by
  show (if ("pairs" : Str) = "pairs" then [(("pairs" : Str), u)] else (("pairs" : Str), v) :: putF "pairs" u []) = ([("pairs", u)] : List (Str × V))
  rw [if_pos rfl]
section
variable (C : Kd → Addr) (CL : Addr) (K : PySem.W.Frag)
def spLsInit : Sp := fun vs H Q _ => ∃ l dx, vs = [.ref l] ∧ H l = some (.ins CL dx []) ∧ ∀ p H', H p = none → H' p = some (.lst []) → H' l = some (.ins CL dx [("pairs", .ref p)]) → Kp l H H' → Q .non H'
def spHind : Sp := fun vs H Q _ => ∃ l p ps k, vs = [.ref l, .int (k : Nat)] ∧ LS C CL K H l p ps ∧ k < ps.length ∧ ps.length ≤ 1000 ∧ ∀ H', Same H H' → Q (optV (hind ps k)) H'
def spPairs (f : List Pr → List Pr) : Sp := fun vs H Q _ => ∃ l p ps, vs = [.ref l] ∧ LS C CL K H l p ps ∧ ps.length ≤ 1000 ∧ ∀ q H' us, Same H H' → H q = none → H' q = some (.lst us) → Paired (PrO C K H') (f ps) us → Q (.ref q) H'
def spTolds (f : List Pr → List Pr) : Sp := fun vs H Q _ => ∃ l p ps, vs = [.ref l] ∧ LS C CL K H l p ps ∧ ps.length ≤ 1000 ∧ ∀ q H' us, Same H H' → H q = none → H' q = some (.lst us) → Paired (cPr.rp K H') (f ps) us → Q (.ref q) H'
def spWPlace : Sp := fun vs H Q _ => ∃ l p ps v x, vs = [.ref l, v] ∧ LS C CL K H l p ps ∧ ps.length ≤ 1000 ∧ cPa.rp K H x v ∧ ∀ H', Same H H' → Q (optV (wplace ps x)) H'
def spAsk : Sp := fun vs H Q _ => ∃ l p ps v x u k, vs = [.ref l, v, u] ∧ LS C CL K H l p ps ∧ ps.length < 1000 ∧ cPa.rp K H x v ∧ LkO C H k u ∧ wplace ps x = none ∧ ∀ H', LS C CL K H' l p (askPs ps x k) → Kp p H H' → Q (.bl (askR ps x k)) H'
def spFree : Sp := fun vs H Q _ => ∃ l p ps v x, vs = [.ref l, v] ∧ LS C CL K H l p ps ∧ ps.length ≤ 1000 ∧ cPa.rp K H x v ∧ ∀ q p' H' us, LS C CL K H' l p' (freePs ps x) → H p' = none → Kp l H H' → H q = none → H' q = some (.lst us) → Paired (cPa.rp K H') (freeR ps x) us → Q (.ref q) H'
def spStands : Sp := fun vs H Q _ => ∃ l p ps v x u k, vs = [.ref l, v, u] ∧ LS C CL K H l p ps ∧ ps.length ≤ 1000 ∧ cPa.rp K H x v ∧ LkO C H k u ∧ ∀ H', Same H H' → Q (.bl (standsB ps x k)) H'
def spBehind : Sp := fun vs H Q _ => ∃ l p ps v x, vs = [.ref l, v] ∧ LS C CL K H l p ps ∧ ps.length ≤ 1000 ∧ cPa.rp K H x v ∧
  ((behindO ps x = none ∧ ∀ H', Same H H' → Q .non H') ∨ ∃ y, behindO ps x = some y ∧ ∀ u H', Same H H' → cPa.rp K H' y u → Q u H')
end
theorem wplace_some {ps : List Pr} {p : Pa} {i : Nat} (hi : i < ps.length) (h : wpl ps p i = true) (h0 : ∀ j, j < i → wpl ps p j = false) : wplace ps p = some i := by
  unfold wplace
  rw [List.find?_range_eq_some]
  exact ⟨h, List.mem_range.mpr hi, fun j hj => by rw [h0 j hj]; rfl⟩
theorem wplace_none {ps : List Pr} {p : Pa} (h0 : ∀ j, j < ps.length → wpl ps p j = false) : wplace ps p = none := by
  unfold wplace
  rw [List.find?_range_eq_none]
  exact fun j hj => by rw [h0 j hj]; rfl
theorem wplace_of0 {ps : List Pr} {p : Pa} (h : wplace ps p = none) : ∀ j, j < ps.length → wpl ps p j = false := by
  unfold wplace at h
  rw [List.find?_range_eq_none] at h
  exact fun j hj => by simpa using h j hj
theorem bnd {n : Nat} (h : n ≤ 1000) : -(2 ^ 62) ≤ (n : Int) ∧ (n : Int) < 2 ^ 62 := by
  constructor <;> omega
theorem small {n : Nat} (h : n ≤ 1000) : n ≤ sizeLine := Nat.le_of_lt (small1000 h)
/-! ### the laws' own -/
def cellAt (ns : List Int) (k : Nat) : Int := (ns[k]?).getD 0
def spCell (K : PySem.W.Frag) : Sp := fun vs H Q _ => ∃ a ns k, vs = [.ref a, .int (k : Nat)] ∧ SqL K H a ((ns : List Int).map V.int) ∧ Q (.int (cellAt ns k)) H
def namesL (c : Int) : List Pa := [(c % 5, c / 5 % 17), (c % 5, c / 5 % 17 + 1), ((c % 5 + 1) % 5, c / 5 % 17), ((c % 5 + 3) % 5, c / 5 % 17 + 2)]
def spNames (K : PySem.W.Frag) : Sp := fun vs H Q _ => ∃ c, vs = [.int c] ∧ ∀ q H' us, Same H H' → H q = none → H' q = some (.lst us) → Paired (cPa.rp K H') (namesL c) us → Q (.ref q) H'
def toldL (c b : Int) : Lk := (kdOf (c % 3), b + c / 3 % 9, b + c / 3 % 9 + c / 27 % 10)
def spLTold (K : PySem.W.Frag) : Sp := fun vs H Q _ => ∃ c b, vs = [.int c, .int b] ∧ ∀ v H', Same H H' → cLk.rp K H' (toldL c b) v → Q v H'
def spLBeside (K : PySem.W.Frag) : Sp := fun vs H Q _ => ∃ v u k j, vs = [v, u] ∧ cLk.rp K H k v ∧ cLk.rp K H j u ∧ ∀ H', Same H H' → Q (.bl (besideB k j)) H'
def spLCovers (K : PySem.W.Frag) : Sp := fun vs H Q _ => ∃ v u k j, vs = [v, u] ∧ cLk.rp K H k v ∧ cLk.rp K H j u ∧ ∀ H', Same H H' → Q (.bl (coversB k j)) H'
theorem kds_at (i : Int) (h0 : 0 ≤ i) (h3 : i < 3) : atI ([.str "read", .str "mean", .str "change"] : List V) i = some (.str (kdS (kdOf i))) := by
  rcases (by omega : i = 0 ∨ i = 1 ∨ i = 2) with e | e | e <;> subst e <;> rfl
def rkN : Kd → Nat
  | .read => 0
  | .mean => 1
  | .change => 2
def srt (a b : Str) : List Str := if b.cps.toList < a.cps.toList then [b, a] else [a, b]
theorem srt_share (a b : Kd) : (decide (srt (kdS a) (kdS b) = (["read", "read"] : List Str)) || decide (srt (kdS a) (kdS b) = (["mean", "read"] : List Str))) = share a b := by
  cases a <;> cases b <;> decide +kernel
end Lo
namespace Lo
open PySem L2
theorem pick_len {α : Type} (xs : List α) (ix : List Nat) : (pick xs ix).length ≤ ix.length := List.length_filterMap_le _ _
theorem heldL_len (ps : List Pr) : (heldL ps).length ≤ ps.length := by
  refine Nat.le_trans (pick_len _ _) ?_
  unfold heldIx
  exact Nat.le_trans (List.length_filter_le _ _) (Nat.le_of_eq List.length_range)
theorem waitL_len (ps : List Pr) : (waitL ps).length ≤ ps.length := by
  refine Nat.le_trans (pick_len _ _) ?_
  unfold waitIx
  exact Nat.le_trans (List.length_filter_le _ _) (Nat.le_of_eq List.length_range)
end Lo
namespace Lo
open PySem L2
section
variable {K : PySem.W.Frag}
end
def spWhole : Sp := fun vs H Q _ => ∃ i, vs = [.int i] ∧ Q (.bl true) H
def spNum : Sp := fun vs H Q _ => ∃ c, vs = [.int c] ∧ ∀ i, Q (.int i) H
def spIs : Sp := fun vs H Q _ => ∃ a b, vs = [.bl a, .bl b] ∧ Q (.bl (decide (a = b))) H
structure TxI (K : PySem.W.Frag) (mg : Str → Option Value) (C : Kd → Addr) (CB : Addr) : Prop where
  mgB : mg "Lock" = some (.ref CB)
  ha : ∀ k, PySem.W.findIn K (.ref (C k)) "__class__" = some (some (.builtin "object.__class__"))
  hn : PySem.W.specialIn K (.builtin "object.__class__") "__get__" = some (some (.builtin "getset_descriptor.__get__"))
  htk : PySem.W.takesIn K (.builtin "object.__class__") = some true
  hm : ∀ k, PySem.W.mroIn K (C k) (.type "object") = some true
  isB : ∀ k, PySem.W.kitOne K (.ref (C k)) (.ref CB) = some true
structure TxJ (K : PySem.W.Frag) (C : Kd → Addr) : Prop where
  isK : ∀ k j, PySem.W.kitOne K (.ref (C k)) (.ref (C j)) = some (decide (k = j))
def spLaw (K : PySem.W.Frag) : Sp := fun vs H Q _ => ∃ a ns, vs = [.ref a] ∧ SqL K H a ((ns : List Int).map V.int) ∧ ns.length ≤ 63 ∧ ∀ H', Q (.bl true) H'
end Lo
namespace Lo
open PySem L2
theorem pss_weak {X : Cx} {st : List Stmt} {t : TS} (u : TS) (h : PSs X st t) (hw : ∀ D σ H, u D σ H → t D σ H) : PSs X st u := fun pins s σ H D I q => h pins s σ H D I (hw D σ H q)
end Lo

set_option maxHeartbeats 1000000
namespace Lo
open PySem L2
section
variable {K : PySem.W.Frag} {a : Addr} {tt : TT} {te : TE} {bl : St} {Fin : List V → Hp → Prop} {H : Hp}
theorem take_at {α : Type} {xs : List α} {i : Nat} {x : α} (h : xs[i]? = some x) : xs.take (i + 1) = xs.take i ++ [x] := by
  rw [List.take_succ, h]
  rfl
/-- [g(x) for x in xs if f(x)] -/
theorem lc_fm {α β : Type} [DecidableEq α] [DecidableEq β] {c : Cod α} {d : Cod β} {xs : List α} {us : List V} (px : Paired (c.rp K H) xs us) (hq : SqL K H a us) (hn : us.length ≤ sizeLine) (ft : α → Bool) (g : α → β)
    (ht : ∀ x u H1 (Q : Bool → Hp → Prop), x ∈ xs → c.rp K H1 x u → Same H H1 → (∀ H2, Same H1 H2 → Q (ft x) H2) → tt (some u :: bl) H1 Q)
    (he : ∀ x u H1 (Q : VK), x ∈ xs → c.rp K H1 x u → Same H H1 → (∀ v H2, Same H1 H2 → d.rp K H2 (g x) v → Q v H2) → te (some u :: bl) H1 Q)
    (hd : ∀ ys H1, Same H H1 → Paired (d.rp K H1) ((xs.filter ft).map g) ys → Fin ys H1) :
    ∃ (W : Nat → List V → Hp → Prop) (n : Nat), W 0 [] H ∧ n ≤ sizeLine ∧ ∀ i ys H, W i ys H → ((Itl K a).stop i H ∧ Fin ys H) ∨
      ((Itl K a).go i H ∧ i < n ∧ ∀ x H', (Itl K a).yld i H x H' → tt (some x :: bl) H' fun c H2 => if c = true then te (some x :: bl) H2 fun y H3 => W (i + 1) (ys ++ [y]) H3 else W (i + 1) ys H2) := by
  refine lc_list (xs := us) (fun i ys H1 => Same H H1 ∧ Paired (d.rp K H1) (((xs.take i).filter ft).map g) ys) ⟨Same.refl _, .nil⟩ hn (fun i ys H1 _ z => z.1.seq hq) ?_ ?_
  · rintro i u ys H1 hu ⟨s1, py⟩
    obtain ⟨x, ex, rx⟩ := px.get hu
    have hm : x ∈ xs := List.mem_of_getElem? ex
    refine ht x u H1 _ hm (c.keep s1.ts rx) s1 fun H2 s2 => ?_
    have e := take_at ex
    cases ef : ft x with
    | true =>
      refine iteT (he x u H2 _ hm (c.keep (s1.trans s2).ts rx) (s1.trans s2) fun v H3 s3 rv => ⟨(s1.trans s2).trans s3, ?_⟩)
      rw [e, List.filter_append, List.map_append]
      simp only [List.filter_cons, List.filter_nil, ef, if_true, List.map_cons, List.map_nil]
      exact (pp py fun _ _ z => d.keep (s2.trans s3).ts z).app (.cons rv .nil)
    | false =>
      refine iteF ⟨s1.trans s2, ?_⟩
      rw [e, List.filter_append, List.map_append]
      simp only [List.filter_cons, List.filter_nil, ef, Bool.false_eq_true, if_false, List.map_nil, List.append_nil]
      exact pp py fun _ _ z => d.keep s2.ts z
  · rintro ys H1 ⟨s1, py⟩
    rw [← px.len, List.take_length] at py
    exact hd ys H1 s1 py
/-- [g(x, y) for x, y in xs if f(x, y)] -/
theorem lc_fm2 {α β γ : Type} [DecidableEq α] [DecidableEq β] [DecidableEq γ] {c : Cod α} {c2 : Cod β} {d : Cod γ} {xs : List (α × β)} {us : List V} {σ : St} {fv : List Nat} (px : Paired ((cT2 c c2).rp K H) xs us) (hq : SqL K H a us) (hn : us.length ≤ sizeLine) (ft : α × β → Bool) (g : α × β → γ)
    (ht : ∀ x u w H1 (Q : Bool → Hp → Prop), x ∈ xs → c.rp K H1 x.1 u → c2.rp K H1 x.2 w → Same H H1 → (∀ H2, Same H1 H2 → Q (ft x) H2) → tt (some u :: some w :: blkVals fv σ) H1 Q)
    (he : ∀ x u w H1 (Q : VK), x ∈ xs → c.rp K H1 x.1 u → c2.rp K H1 x.2 w → Same H H1 → (∀ v H2, Same H1 H2 → d.rp K H2 (g x) v → Q v H2) → te (some u :: some w :: blkVals fv σ) H1 Q)
    (hd : ∀ ys H1, Same H H1 → Paired (d.rp K H1) ((xs.filter ft).map g) ys → Fin ys H1) :
    ∃ (W : Nat → List V → Hp → Prop) (n : Nat), W 0 [] H ∧ n ≤ sizeLine ∧ ∀ i ys H, W i ys H → ((Itl K a).stop i H ∧ Fin ys H) ∨
      ((Itl K a).go i H ∧ i < n ∧ ∀ x H', (Itl K a).yld i H x H' → gPair K x (bv 2 fv σ) H' fun σ' H'' => Ext (bv 2 fv σ) σ' ∧ tt σ' H'' fun c H2 => if c = true then te σ' H2 fun y H3 => W (i + 1) (ys ++ [y]) H3 else W (i + 1) ys H2) := by
  refine lc_pair (xs := us) (fun i ys H1 => Same H H1 ∧ Paired (d.rp K H1) (((xs.take i).filter ft).map g) ys) ⟨Same.refl _, .nil⟩ hn (fun i ys H1 _ z => z.1.seq hq) ?_ ?_
  · rintro i u ys H1 hu ⟨s1, py⟩
    obtain ⟨x, ex, rx⟩ := px.get hu
    have hm : x ∈ xs := List.mem_of_getElem? ex
    obtain ⟨b, u1, u2, rfl, hb, r1, r2⟩ := (cT2 c c2).keep s1.ts rx
    refine ⟨b, u1, u2, rfl, hb.sq, ht x u1 u2 H1 _ hm r1 r2 s1 fun H2 s2 => ?_⟩
    have e := take_at ex
    cases ef : ft x with
    | true =>
      refine iteT (he x u1 u2 H2 _ hm (c.keep s2.ts r1) (c2.keep s2.ts r2) (s1.trans s2) fun v H3 s3 rv => ⟨(s1.trans s2).trans s3, ?_⟩)
      rw [e, List.filter_append, List.map_append]
      simp only [List.filter_cons, List.filter_nil, ef, if_true, List.map_cons, List.map_nil]
      exact (pp py fun _ _ z => d.keep (s2.trans s3).ts z).app (.cons rv .nil)
    | false =>
      refine iteF ⟨s1.trans s2, ?_⟩
      rw [e, List.filter_append, List.map_append]
      simp only [List.filter_cons, List.filter_nil, ef, Bool.false_eq_true, if_false, List.map_nil, List.append_nil]
      exact pp py fun _ _ z => d.keep s2.ts z
  · rintro ys H1 ⟨s1, py⟩
    rw [← px.len, List.take_length] at py
    exact hd ys H1 s1 py
end
/-! ### one pact alone -/
end Lo
namespace Lo
open PySem L2
theorem LS.ins {C : Kd → Addr} {CL : Addr} {K : PySem.W.Frag} {H : Hp} {l p : Addr} {ps : List Pr} (h : LS C CL K H l p ps) : ∃ dx, H l = some (.ins CL dx [("pairs", .ref p)]) := by
  obtain ⟨dx, vs, e1, _⟩ := h
  exact ⟨dx, e1⟩
theorem LS.lst {C : Kd → Addr} {CL : Addr} {K : PySem.W.Frag} {H : Hp} {l p : Addr} {ps : List Pr} (h : LS C CL K H l p ps) : ∃ vs, H p = some (.lst vs) := by
  obtain ⟨dx, vs, _, e2, _⟩ := h
  exact ⟨vs, e2⟩
end Lo
namespace Lo
open PySem L2
theorem cut_ints (ns : List Int) (lo hi : Option Int) : ∃ cs : List Int, cutV (ns.map V.int) lo hi = cs.map V.int ∧ cs.length ≤ ns.length := by
  refine ⟨(ns.drop (HT.sIx (ns.map V.int).length 0 lo)).take (HT.sIx (ns.map V.int).length (ns.map V.int).length hi - HT.sIx (ns.map V.int).length 0 lo), ?_, ?_⟩
  · unfold cutV
    rw [List.map_take, List.map_drop]
  · rw [List.length_take, List.length_drop]
    omega
theorem int_at {cs : List Int} {i : Nat} {x : V} (h : (cs.map V.int)[i]? = some x) : ∃ c, x = .int c := by
  rw [List.getElem?_map] at h
  cases e : cs[i]? with
  | none => rw [e] at h; cases h
  | some c => rw [e] at h; exact ⟨c, (Option.some.inj h).symm⟩
theorem filt_true {α : Type} (xs : List α) : xs.filter (fun _ => true) = xs := List.filter_eq_self.mpr fun _ _ => rfl
/-- a new house's locks -/
theorem new_locks {CL l dl : Addr} {H H1 : Hp} (nl : H l = none) (nd : H dl = none) (k : Kp l (upd (upd H dl (.own l)) l (.ins CL dl [])) H1) : Same H H1 := fun b o e => by
  have n1 : b ≠ l := ne_of_none e nl
  have n2 : b ≠ dl := ne_of_none e nd
  refine k b o n1 ?_
  rw [upd_ne n1, upd_ne n2]
  exact e
end Lo

set_option maxHeartbeats 1000000
/-! the list of pairs, by what stands ahead -/
namespace Lo
open PySem L2
def clear (pre : List Pr) (x : Pr) : Bool := pre.all fun a => decide (a.1 = x.1) || besideB a.2 x.2
def heldR : List Pr → List Pr → List Pr
  | _, [] => []
  | pre, x :: r => if clear pre x = true then x :: heldR (pre ++ [x]) r else heldR (pre ++ [x]) r
def waitR : List Pr → List Pr → List Pr
  | _, [] => []
  | pre, x :: r => if clear pre x = true then waitR (pre ++ [x]) r else x :: waitR (pre ++ [x]) r
theorem heldR_snoc : ∀ (r pre : List Pr) (x : Pr), heldR pre (r ++ [x]) = heldR pre r ++ if clear (pre ++ r) x = true then [x] else []
  | [], pre, x => by
    show (if clear pre x = true then x :: heldR (pre ++ [x]) [] else heldR (pre ++ [x]) []) = [] ++ if clear (pre ++ []) x = true then [x] else []
    rw [List.append_nil, List.nil_append]
    rfl
  | y :: r, pre, x => by
    have ih := heldR_snoc r (pre ++ [y]) x
    have e : pre ++ [y] ++ r = pre ++ y :: r := by simp
    rw [e] at ih
    show (if clear pre y = true then y :: heldR (pre ++ [y]) (r ++ [x]) else heldR (pre ++ [y]) (r ++ [x])) = (if clear pre y = true then y :: heldR (pre ++ [y]) r else heldR (pre ++ [y]) r) ++ _
    rw [ih]
    split <;> rfl
theorem waitR_snoc : ∀ (r pre : List Pr) (x : Pr), waitR pre (r ++ [x]) = waitR pre r ++ if clear (pre ++ r) x = true then [] else [x]
  | [], pre, x => by
    show (if clear pre x = true then waitR (pre ++ [x]) [] else x :: waitR (pre ++ [x]) []) = [] ++ if clear (pre ++ []) x = true then [] else [x]
    rw [List.append_nil, List.nil_append]
    rfl
  | y :: r, pre, x => by
    have ih := waitR_snoc r (pre ++ [y]) x
    have e : pre ++ [y] ++ r = pre ++ y :: r := by simp
    rw [e] at ih
    show (if clear pre y = true then waitR (pre ++ [y]) (r ++ [x]) else y :: waitR (pre ++ [y]) (r ++ [x])) = (if clear pre y = true then waitR (pre ++ [y]) r else y :: waitR (pre ++ [y]) r) ++ _
    rw [ih]
    split <;> rfl
theorem hind_clear {ps : List Pr} {k : Nat} {x : Pr} (h : ps[k]? = some x) : (hind ps k).isNone = clear (ps.take k) x := by
  have hk : k < ps.length := (List.getElem?_eq_some_iff.mp h).1
  rw [Bool.eq_iff_iff]
  unfold clear
  rw [List.all_eq_true]
  constructor
  · intro z a ha
    have hn : hind ps k = none := by cases e : hind ps k with | none => rfl | some j => rw [e] at z; cases z
    obtain ⟨j, hj, e⟩ := List.getElem_of_mem ha
    rw [List.length_take] at hj
    have hj' : j < k := by omega
    have hb0 := hind_of0 hn j hj'
    have ej : ps[j]? = some a := by rw [← e, List.getElem_take]; exact List.getElem?_eq_getElem _
    unfold hb at hb0
    rw [ej, h] at hb0
    have hb1 : (!decide (a.1 = x.1) && !besideB a.2 x.2) = false := hb0
    cases e1 : decide (a.1 = x.1) with
    | true => rfl
    | false => rw [e1] at hb1; simpa using hb1
  · intro z
    rw [hind_none fun j hj => ?_]
    · rfl
    unfold hb
    rw [h, List.getElem?_eq_getElem (by omega)]
    have hm : ps[j] ∈ ps.take k := by
      rw [List.mem_take_iff_getElem]
      exact ⟨j, by omega, rfl⟩
    have := z _ hm
    show (!decide (ps[j].1 = x.1) && !besideB ps[j].2 x.2) = false
    rw [← Bool.not_or, this]
    rfl
theorem pick_app {α : Type} (xs : List α) (a b : List Nat) : pick xs (a ++ b) = pick xs a ++ pick xs b := by unfold pick; rw [List.filterMap_append]
theorem held_take (ps : List Pr) : ∀ n, n ≤ ps.length → pick ps ((List.range n).filter fun k => (hind ps k).isNone) = heldR [] (ps.take n)
  | 0, _ => by simp [pick, heldR]
  | n + 1, h => by
    have hn : ps[n]? = some ps[n] := List.getElem?_eq_getElem (by omega)
    rw [range_filter_succ, pick_app, held_take ps n (by omega), take_at hn, heldR_snoc, List.nil_append, hind_clear hn]
    congr 1
    split
    · unfold pick; rw [List.filterMap_cons, hn]; rfl
    · rfl
theorem wait_take (ps : List Pr) : ∀ n, n ≤ ps.length → pick ps ((List.range n).filter fun k => (hind ps k).isSome) = waitR [] (ps.take n)
  | 0, _ => by simp [pick, waitR]
  | n + 1, h => by
    have hn : ps[n]? = some ps[n] := List.getElem?_eq_getElem (by omega)
    have e : (hind ps n).isSome = !clear (ps.take n) ps[n] := by rw [← hind_clear hn]; cases hind ps n <;> rfl
    rw [range_filter_succ, pick_app, wait_take ps n (by omega), take_at hn, waitR_snoc, List.nil_append, e]
    congr 1
    cases clear (ps.take n) ps[n] with
    | true => rfl
    | false => show pick ps [n] = [ps[n]]; unfold pick; rw [List.filterMap_cons, hn]; rfl
theorem held_eq (ps : List Pr) : heldL ps = heldR [] ps := by
  unfold heldL heldIx
  rw [held_take ps _ (Nat.le_refl _), List.take_length]
theorem wait_eq (ps : List Pr) : waitL ps = waitR [] ps := by
  unfold waitL waitIx
  rw [wait_take ps _ (Nat.le_refl _), List.take_length]
theorem wait_snoc (ps : List Pr) (x : Pr) : waitL (ps ++ [x]) = waitL ps ++ if clear ps x = true then [] else [x] := by rw [wait_eq, wait_eq, waitR_snoc, List.nil_append]
theorem mem_heldR : ∀ {r pre : List Pr} {y : Pr}, y ∈ heldR pre r → y ∈ r
  | [], _, _, h => by cases h
  | x :: r, pre, y, h => by
    have h' : y ∈ if clear pre x = true then x :: heldR (pre ++ [x]) r else heldR (pre ++ [x]) r := h
    split at h'
    · rcases List.mem_cons.mp h' with e | h'
      · exact e ▸ List.mem_cons_self
      · exact List.mem_cons_of_mem _ (mem_heldR h')
    · exact List.mem_cons_of_mem _ (mem_heldR h')
theorem mem_waitR : ∀ {r pre : List Pr} {y : Pr}, y ∈ waitR pre r → y ∈ r
  | [], _, _, h => by cases h
  | x :: r, pre, y, h => by
    have h' : y ∈ if clear pre x = true then waitR (pre ++ [x]) r else x :: waitR (pre ++ [x]) r := h
    split at h'
    · exact List.mem_cons_of_mem _ (mem_waitR h')
    · rcases List.mem_cons.mp h' with e | h'
      · exact e ▸ List.mem_cons_self
      · exact List.mem_cons_of_mem _ (mem_waitR h')
theorem mem_either : ∀ {r pre : List Pr} {y : Pr}, y ∈ r → y ∈ heldR pre r ∨ y ∈ waitR pre r
  | [], _, _, h => by cases h
  | x :: r, pre, y, h => by
    show (y ∈ if clear pre x = true then x :: heldR (pre ++ [x]) r else heldR (pre ++ [x]) r) ∨ (y ∈ if clear pre x = true then waitR (pre ++ [x]) r else x :: waitR (pre ++ [x]) r)
    rcases List.mem_cons.mp h with e | h
    · subst e
      split
      · exact .inl List.mem_cons_self
      · exact .inr List.mem_cons_self
    · rcases mem_either (pre := pre ++ [x]) h with z | z
      · refine .inl ?_
        split
        · exact List.mem_cons_of_mem _ z
        · exact z
      · refine .inr ?_
        split
        · exact z
        · exact List.mem_cons_of_mem _ z
theorem held_mem {ps : List Pr} {y : Pr} (h : y ∈ heldL ps) : y ∈ ps := by rw [held_eq] at h; exact mem_heldR h
theorem wait_mem {ps : List Pr} {y : Pr} (h : y ∈ waitL ps) : y ∈ ps := by rw [wait_eq] at h; exact mem_waitR h
def Ok2 (a b : Pr) : Prop := a.1 = b.1 ∨ besideB a.2 b.2 = true
theorem clear_of {pre : List Pr} {x : Pr} (h : clear pre x = true) : ∀ a ∈ pre, Ok2 a x := fun a ha => by
  have := List.all_eq_true.mp h a ha
  rcases Bool.or_eq_true_iff.mp this with z | z
  · exact .inl (of_decide_eq_true z)
  · exact .inr z
theorem of_clear {pre : List Pr} {x : Pr} (h : ∀ a ∈ pre, Ok2 a x) : clear pre x = true := List.all_eq_true.mpr fun a ha => by
  rcases h a ha with z | z
  · rw [decide_eq_true z, Bool.true_or]
  · rw [z, Bool.or_true]
theorem mem_pick {α : Type} {xs : List α} {ix : List Nat} {x : α} : x ∈ pick xs ix ↔ ∃ k ∈ ix, xs[k]? = some x := by
  unfold pick
  rw [List.mem_filterMap]
theorem wplace_iff {ps : List Pr} {p : Pa} : wplace ps p = none ↔ p ∉ (waitL ps).map (·.1) := by
  constructor
  · intro h hm
    obtain ⟨x, hx, e⟩ := List.mem_map.mp hm
    obtain ⟨k, hk, ek⟩ := mem_pick.mp hx
    unfold waitIx at hk
    obtain ⟨h1, h2⟩ := List.mem_filter.mp hk
    have hw := wplace_of0 h k (List.mem_range.mp h1)
    unfold wpl at hw
    rw [ek] at hw
    have hw' : (decide (x.1 = p) && (hind ps k).isSome) = false := hw
    rw [decide_eq_true e, h2] at hw'
    cases hw'
  · intro h
    refine wplace_none fun k hk => ?_
    unfold wpl
    rw [List.getElem?_eq_getElem hk]
    show (decide (ps[k].1 = p) && (hind ps k).isSome) = false
    cases e1 : decide (ps[k].1 = p) with
    | false => rfl
    | true =>
      cases e2 : (hind ps k).isSome with
      | false => rfl
      | true =>
        refine absurd (List.mem_map.mpr ⟨ps[k], mem_pick.mpr ⟨k, ?_, List.getElem?_eq_getElem hk⟩, of_decide_eq_true e1⟩) h
        unfold waitIx
        exact List.mem_filter.mpr ⟨List.mem_range.mpr hk, e2⟩
theorem hind_snoc {ps : List Pr} {p : Pa} {k : Lk} : (hind (ps ++ [(p, k)]) ps.length).isNone = clear ps (p, k) := by
  rw [hind_clear (x := (p, k)) (by rw [List.getElem?_append_right (Nat.le_refl _), Nat.sub_self]; rfl)]
  congr 1
  rw [List.take_append_of_le_length (Nat.le_refl _), List.take_length]
/-! ### tuples that are told -/
section
variable {X : Cx}
end
end Lo

set_option maxHeartbeats 1000000
/-! a house's locks beside lists of the law's own -/
namespace Lo
open PySem L2
section
variable {C : Kd → Addr} {CL : Addr} {K : PySem.W.Frag} {H H' : Hp} {l pl pl' d : Addr} {ps ps' : List Pr} {own : List (Addr × List V)} {xs ys : List V}
def HS (C : Kd → Addr) (CL : Addr) (K : PySem.W.Frag) (l pl : Addr) (ps : List Pr) (own : List (Addr × List V)) (H : Hp) : Prop :=
  LS C CL K H l pl ps ∧ (∀ q ∈ own, H q.1 = some (.lst q.2)) ∧ (∀ q ∈ own, q.1 ≠ pl) ∧ (own.map (·.1)).Nodup
theorem HS.keep (hC : ∀ k, C k ≠ CL) (e : Same H H') (h : HS C CL K l pl ps own H) : HS C CL K l pl ps own H' := ⟨h.1.keep hC e, fun q hq => e _ _ (h.2.1 q hq), h.2.2⟩
theorem HS.asked (e : Kp pl H H') (n : LS C CL K H' l pl ps') (h : HS C CL K l pl ps own H) : HS C CL K l pl ps' own H' := ⟨n, fun q hq => e _ _ (h.2.2.1 q hq) (h.2.1 q hq), h.2.2⟩
theorem HS.fsA (e : Kp pl H H') (h : HS C CL K l pl ps own H) : FSame CL H H' := by
  obtain ⟨vs, e2⟩ := h.1.lst
  exact e.fs e2
theorem HS.freed (e : Kp l H H') (n : LS C CL K H' l pl' ps') (f : H pl' = none) (h : HS C CL K l pl ps own H) : HS C CL K l pl' ps' own H' := by
  obtain ⟨dx, e1⟩ := h.1.ins
  refine ⟨n, fun q hq => e _ _ (fun z => ?_) (h.2.1 q hq), fun q hq z => ?_, h.2.2.2⟩
  · have := h.2.1 q hq
    rw [z, e1] at this
    cases this
  · have := h.2.1 q hq
    rw [z, f] at this
    cases this
theorem HS.fsF (e : Kp l H H') (h : HS C CL K l pl ps own H) : FSame CL H H' := by
  obtain ⟨dx, e1⟩ := h.1.ins
  exact e.fsi e1
theorem HS.add (hC : ∀ k, C k ≠ CL) (f : H d = none) (h : HS C CL K l pl ps own H) : HS C CL K l pl ps ((d, xs) :: own) (upd H d (.lst xs)) := by
  have s := same_new (o := .lst xs) f
  obtain ⟨vs, e2⟩ := h.1.lst
  refine ⟨h.1.keep hC s, fun q hq => ?_, fun q hq => ?_, ?_⟩
  · rcases List.mem_cons.mp hq with e | hq
    · subst e; exact upd_same
    · exact s _ _ (h.2.1 q hq)
  · rcases List.mem_cons.mp hq with e | hq
    · subst e
      exact Ne.symm (ne_of_none e2 f)
    · exact h.2.2.1 q hq
  · refine List.nodup_cons.mpr ⟨fun hm => ?_, h.2.2.2⟩
    obtain ⟨q, hq, e⟩ := List.mem_map.mp hm
    have z := h.2.1 q hq
    have e' : q.1 = d := e
    rw [e', f] at z
    cases z
theorem HS.old (hd : H d = some (.lst xs)) (hp : d ≠ pl) (hn : d ∉ own.map (·.1)) (h : HS C CL K l pl ps own H) : HS C CL K l pl ps ((d, xs) :: own) H :=
  ⟨h.1, fun q hq => (List.mem_cons.mp hq).elim (fun e => by subst e; exact hd) (h.2.1 q), fun q hq => (List.mem_cons.mp hq).elim (fun e => by subst e; exact hp) (h.2.2.1 q), List.nodup_cons.mpr ⟨hn, h.2.2.2⟩⟩
theorem HS.at0 (h : HS C CL K l pl ps ((d, xs) :: own) H) : H d = some (.lst xs) := h.2.1 (d, xs) List.mem_cons_self
theorem HS.at1 {e : Addr × List V} (h : HS C CL K l pl ps (e :: (d, xs) :: own) H) : H d = some (.lst xs) := h.2.1 (d, xs) (List.mem_cons_of_mem _ List.mem_cons_self)
end
theorem pair_at {α : Type} [DecidableEq α] {c : Cod α} {K : PySem.W.Frag} {H : Hp} {xs : List α} {us : List V} {i : Int} (h : Paired (c.rp K H) xs us) (h0 : 0 ≤ i) (h1 : i < (xs.length : Nat)) : ∃ x u, xs[i.toNat]? = some x ∧ atI us i = some u ∧ c.rp K H x u := by
  have hk : i.toNat < xs.length := by omega
  obtain ⟨u, eu, ru⟩ := h.get1 (List.getElem?_eq_getElem hk)
  refine ⟨xs[i.toNat], u, List.getElem?_eq_getElem hk, ?_, ru⟩
  have := atI_nat eu
  rw [show ((i.toNat : Nat) : Int) = i by omega] at this
  exact this
/-- names and base are told; n names more to come -/
def uN (n : Nat) (K : PySem.W.Frag) : TS := fun D σ H => ∃ a ns nl nus names b, σ = [some (.ref a), some (.ref nl), some (.int b)] ++ List.replicate n none ∧ SqL K H a ((ns : List Int).map V.int) ∧ ns.length ≤ 63 ∧ H nl = some (.lst nus) ∧ Paired (cPa.rp K H) names nus ∧ names.length = 4 ∧ ∀ H', D.rt (.bl true) H'
theorem askPs_len (ps : List Pr) (p : Pa) (k : Lk) : (askPs ps p k).length ≤ ps.length + 1 := by
  unfold askPs
  split
  · omega
  · rw [List.length_append]; exact Nat.le_refl _
theorem freePs_len (ps : List Pr) (p : Pa) : (freePs ps p).length ≤ ps.length := List.length_filter_le _ _
theorem freePs_mem {ps : List Pr} {p : Pa} {x : Pr} : x ∈ freePs ps p ↔ x ∈ ps ∧ x.1 ≠ p := by
  unfold freePs
  rw [List.mem_filter]
  refine and_congr_right fun _ => ?_
  simp
end Lo

set_option maxHeartbeats 1000000
/-! who is behind whom, by a cut of the list -/
namespace Lo
open PySem L2
/-- x waits, and the first that hinders it is y's -/
def Beh (ps : List Pr) (x y : Pa) : Prop := ∃ (pre1 pre2 post : List Pr) (h z : Pr), ps = (pre1 ++ h :: pre2) ++ z :: post ∧ z.1 = x ∧ h.1 = y ∧ y ≠ x ∧ besideB h.2 z.2 = false ∧ clear pre1 z = true ∧ x ∉ (waitL (pre1 ++ h :: pre2)).map (·.1)
/-! ### None or a pact -/
def orp (K : PySem.W.Frag) (H : Hp) : Option Pa → V → Prop
  | none, v => v = .non
  | some y, v => cPa.rp K H y v
section
variable {X : Cx}
end
end Lo

set_option maxHeartbeats 1000000
/-! cuts, numbers -/
namespace Lo
open PySem L2
theorem cut_take' (xs : List V) (k : Nat) (h : k ≤ xs.length) : cutV xs none (some (k : Int)) = xs.take k := by
  unfold cutV
  rw [HT.sIx_none, HT.sIx_nat, List.drop_zero, Nat.sub_zero, Nat.min_eq_left h]
theorem paired_take {α β : Type} {F : α → β → Prop} : ∀ (m : Nat) {xs : List α} {ys : List β}, Paired F xs ys → Paired F (xs.take m) (ys.take m)
  | 0, _, _, _ => by rw [List.take_zero, List.take_zero]; exact .nil
  | m + 1, [], _, .nil => .nil
  | m + 1, x :: xs, _, .cons h t => .cons h (paired_take m t)
/-- k-th to wait is x's -/
def wat (ps : List Pr) (x : Pa) (k : Nat) : Bool := ((waitL ps)[k]?).any fun z => decide (z.1 = x)
/-- whom a pact is behind stays, unless one of the two was freed -/
def Lasts (fo : Option Pa) (ps ps' : List Pr) : Prop := ∀ x y, behindO ps x = some y → fo ≠ some y → fo ≠ some x → behindO ps' x = some y
/-- what is known of whom the pacts were behind -/
def Kn (K : PySem.W.Frag) (H : Hp) (names : List Pa) (kus : List V) (i : Nat) (ps ps' : List Pr) : Prop :=
  kus.length = names.length ∧ ∀ j x u, names[j]? = some x → kus[j]? = some u → orp K H (if j < i then behindO ps' x else behindO ps x) u
def spBehindO (C : Kd → Addr) (CL : Addr) (K : PySem.W.Frag) : Sp := fun vs H Q _ => ∃ l p ps v x, vs = [.ref l, v] ∧ LS C CL K H l p ps ∧ ps.length ≤ 1000 ∧ cPa.rp K H x v ∧ ∀ u H', Same H H' → orp K H' (behindO ps x) u → Q u H'
def _root_.L2.GM.imp {P : Program} {w : World} {K : PySem.W.Frag} {mg : Str → Option Value} {base : Heap} {CX : CXT} {k : Nat} {C : Addr} {m : Str} {ps : List Str} {sp sp' : Sp} (G : GM P w K mg base CX k C m ps sp) (h : ∀ vs H Q E, sp' vs H Q E → sp vs H Q E) : GM P w K mg base CX k C m ps sp' := ⟨G.f, G.fd, G.ok.imp h, G.bd, G.me⟩
end Lo

set_option maxHeartbeats 1000000
/-! what a freeing lets in -/
namespace Lo
open PySem L2
theorem waitR_cons (pre : List Pr) (x : Pr) (r : List Pr) : waitR pre (x :: r) = if clear pre x = true then waitR (pre ++ [x]) r else x :: waitR (pre ++ [x]) r := rfl
theorem heldR_cons (pre : List Pr) (x : Pr) (r : List Pr) : heldR pre (x :: r) = if clear pre x = true then x :: heldR (pre ++ [x]) r else heldR (pre ++ [x]) r := rfl
theorem clear_filt {f : Pr → Bool} {pre : List Pr} {x : Pr} (h : clear pre x = true) : clear (pre.filter f) x = true := of_clear fun a ha => clear_of h a (List.mem_filter.mp ha).1
theorem filt_snoc1 {f : Pr → Bool} {pre : List Pr} {x : Pr} (h : f x = true) : (pre ++ [x]).filter f = pre.filter f ++ [x] := by rw [List.filter_append, List.filter_cons, if_pos h]; rfl
theorem filt_snoc0 {f : Pr → Bool} {pre : List Pr} {x : Pr} (h : ¬ f x = true) : (pre ++ [x]).filter f = pre.filter f := by rw [List.filter_append, List.filter_cons, if_neg h]; exact List.append_nil _
theorem waitR_sub (f : Pr → Bool) : ∀ (r pre : List Pr), (waitR (pre.filter f) (r.filter f)).Sublist (waitR pre r)
  | [], _ => List.Sublist.slnil
  | x :: r, pre => by
    have ih := waitR_sub f r (pre ++ [x])
    rw [waitR_cons]
    by_cases hx : f x = true
    · rw [List.filter_cons, if_pos hx, waitR_cons]
      rw [filt_snoc1 hx] at ih
      by_cases hc : clear pre x = true
      · rw [if_pos hc, if_pos (clear_filt hc)]; exact ih
      · rw [if_neg hc]
        split
        · exact ih.cons _
        · exact ih.cons_cons _
    · rw [List.filter_cons, if_neg hx]
      rw [filt_snoc0 hx] at ih
      split
      · exact ih
      · exact ih.cons _
theorem wait_sub (ps : List Pr) (p : Pa) : (waitL (freePs ps p)).Sublist (waitL ps) := by
  rw [wait_eq, wait_eq]
  exact waitR_sub (fun x => !decide (x.1 = p)) ps []
theorem _root_.PySem.Paired.split {β γ : Type} {R : β → γ → Prop} : ∀ {xs ys : List β} {x : β} {us : List γ}, Paired R (xs ++ x :: ys) us → ∃ us1 u us2, us = us1 ++ u :: us2 ∧ Paired R xs us1 ∧ R x u ∧ Paired R ys us2
  | [], ys, x, _, .cons r t => ⟨[], _, _, rfl, .nil, r, t⟩
  | y :: xs, ys, x, _, .cons r t => by
    obtain ⟨us1, u, us2, rfl, h1, h2, h3⟩ := PySem.Paired.split (xs := xs) t
    exact ⟨_ :: us1, u, us2, rfl, .cons r h1, h2, h3⟩
/-- names of those that wait stay without doubles -/
theorem nodup_ask {ps : List Pr} {p : Pa} {k : Lk} (h : ((waitL ps).map (·.1)).Nodup) (hp : p ∉ (waitL ps).map (·.1)) : ((waitL (askPs ps p k)).map (·.1)).Nodup := by
  unfold askPs
  split
  · exact h
  · rw [wait_snoc]
    split
    · rw [List.append_nil]; exact h
    · rw [List.map_append]
      refine List.nodup_append.mpr ⟨h, (by simp), fun a ha b hb e => ?_⟩
      have hb' : b = p := List.mem_singleton.mp hb
      rw [e, hb'] at ha
      exact hp ha
theorem nodup_free {ps : List Pr} {p : Pa} (h : ((waitL ps).map (·.1)).Nodup) : ((waitL (freePs ps p)).map (·.1)).Nodup := ((wait_sub ps p).map (·.1)).nodup h
/-! ### two lists of the law's own that change -/
section
variable {C : Kd → Addr} {CL : Addr} {K : PySem.W.Frag} {H H' : Hp} {l pl : Addr} {ps : List Pr} {own : List (Addr × List V)}
def Kq (a b : Addr) (H H' : Hp) : Prop := ∀ c o, c ≠ a → c ≠ b → H c = some o → H' c = some o
end
/-- the pairs that wait behind a freeing -/
def goneB (ps : List Pr) (p : Pa) (x : Pr) : Bool := decide (x.1 ∈ (waitL (freePs ps p)).map (·.1))
def notP (p : Pa) (x : Pr) : Bool := !decide (x.1 = p)
end Lo

set_option maxHeartbeats 1000000
namespace L2
open PySem PySem.Spec PyProof.Rows
/-! ### calls inside an except clause -/
def del (H : Hp) (a : Addr) : Hp := fun b => if b = a then none else H b
theorem del_same {H : Hp} {a : Addr} : del H a a = none := if_pos rfl
theorem del_ne {H : Hp} {a b : Addr} (h : b ≠ a) : del H a b = H b := if_neg h
theorem del_none {H : Hp} {a b : Addr} (h : H b = none) : del H a b = none := by
  unfold del
  split
  · rfl
  · exact h
theorem ff_base {h B B' : Heap} : ∀ {l : List Env}, h.FunFrames B l → (∀ b ∈ frs l, B'.get? b = none) → h.FunFrames B' l
  | [], _, _ => trivial
  | env :: r, ⟨k, ⟨L, o, fr, _, e, d⟩, t⟩, n => by
    have m : frs (env :: r) = L :: frs r := by
      show List.filterMap _ (env :: r) = _
      rw [List.filterMap_cons, fr]
      rfl
    rw [m] at n
    exact ⟨k, ⟨L, o, fr, n L List.mem_cons_self, e, d⟩, ff_base t fun b hb => n b (List.mem_cons_of_mem _ hb)⟩
section
variable {X : Cx} {pins : List (Addr × Obj)} {σ : St} {H : Hp} {s : Shared} {ea CE0 : Addr}
/-- what is hidden from a callee: what is tracked, and the frames -/
def hideF (l : List Env) (H : Hp) : Hp := fun b => if b ∈ frs l then some (.own 0) else H b
theorem hideF_none {l : List Env} {H : Hp} {b : Addr} (h : hideF l H b = none) : b ∉ frs l ∧ H b = none := by
  unfold hideF at h
  split at h
  · cases h
  · rename_i z
    exact ⟨z, h⟩
theorem hideF_mk {l : List Env} {H : Hp} {b : Addr} (h1 : b ∉ frs l) (h : H b = none) : hideF l H b = none := by
  unfold hideF
  rw [if_neg h1, h]
theorem Inv.nfr (I : Inv X pins σ H s) (hst : X.stack = X.env :: X.outer) (fr : X.env.frame = some X.env.locals) {b : Addr} {o : Obj} (e : X.base.get? b = some o) : b ∉ frs X.stack := fun z => by
  rw [frs_cons hst fr] at z
  rcases List.mem_cons.mp z with z | z
  · have := Heap.lt_size (I.ok.bs b o e).1
    rw [z] at this
    exact absurd this (Nat.not_lt.mpr I.ok.above)
  · exact I.ok.nofr e z
theorem Inv.excAt (I : Inv X pins σ H s) (he : H ea = some (ExcO ea CE0)) : (∃ o, s.heap.get? ea = some o) ∧ NoCtx s.heap ea ∧ ea ∉ frs X.stack := by
  obtain ⟨⟨⟨o, e, _⟩, n⟩, _⟩ := I.hok ea _ he
  exact ⟨⟨o, e⟩, n, fun z => by rw [I.stkFree ea z] at he; cases he⟩
/-- what a callee wants, from inside a handler -/
theorem Inv.env0H (I : Inv X pins σ H s) (hst : X.stack = X.env :: X.outer) (fr : X.env.frame = some X.env.locals) (hA : X.A.handled = some (.ref ea)) (he : H ea = some (ExcO ea CE0)) :
    ∃ B, Mod X.K X.mg B ∧ Env0 X.prog X.w X.K X.mg B X.A X.stack s (del H ea) := by
  obtain ⟨⟨oe, eo⟩, nc, nf⟩ := I.excAt he
  have kb : ∀ b o, X.base.get? b = some o → (hidT s.heap (hideF X.stack (del H ea))).get? b = some o := fun b o e =>
    hidT_get (I.bs b o e).1 (hideF_mk (I.nfr hst fr e) (del_none (I.bs b o e).2))
  obtain ⟨k1, k2, ⟨mb, k3, k4⟩, k5⟩ := I.ok.mod
  have md : Mod X.K X.mg (hidT s.heap (hideF X.stack (del H ea))) := ⟨k1.keeps kb, k2.keeps kb, ⟨mb, k3.keeps kb, k4⟩, k5.keeps kb⟩
  refine ⟨_, md, I.ok.frames, md, fun b o e => ⟨(of_hidT e).1, (hideF_none (of_hidT e).2).2⟩, Nat.le_of_eq (hidT_size _ _), ff_base I.stack fun b hb => ?_, fun b hb => del_none (I.stkFree b hb), fun a o e => ?_, I.bare, .inr ⟨ea, hA, nc.keeps fun o e => hidT_get e (hideF_mk nf del_same)⟩⟩
  · cases z : (hidT s.heap (hideF X.stack (del H ea))).get? b with
    | none => rfl
    | some o => exact absurd hb (hideF_none (of_hidT z).2).1
  · have ne : a ≠ ea := fun z => by rw [z, del_same] at e; cases e
    rw [del_ne ne] at e
    refine (I.hok a o e).stay (fun c v _ q => q) (fun c q => ?_) fun c xs q => ?_
    · rw [del_ne fun z => ?_]
      · exact q
      · rw [z, he] at q; cases q
    · rw [del_ne fun z => ?_]
      · exact q
      · rw [z, he] at q; cases q
theorem Un.under {fs : List Addr} {H' : Hp} {h h' : Heap} (he : H ea = some (ExcO ea CE0)) (u : Un fs [] (del H ea) H' h h') : Un fs [] H (upd H' ea (ExcO ea CE0)) h h' := by
  have ne : ∀ b, H b = none → b ≠ ea := fun b z e => by rw [e, he] at z; cases z
  refine ⟨fun b o e n => u.keep b o e (del_none n), fun b o e n => u.slot b o e (del_none n), fun b o e n nx => ?_, u.there, fun b xs e => ?_, fun b o v e => ?_, fun b ps e => ?_⟩
  · rw [upd_ne (ne b n)]
    exact u.free b o e (del_none n) nx
  · have nb : b ≠ ea := fun z => by rw [z, he] at e; cases e
    rw [upd_ne nb]
    exact u.tups b xs (by rw [del_ne nb]; exact e)
  · have nb : b ≠ ea := fun z => by rw [z, he] at e; cases e
    rw [upd_ne nb]
    exact u.frzs b o v (by rw [del_ne nb]; exact e)
  · have nb : b ≠ ea := fun z => by rw [z, he] at e; cases e
    rw [upd_ne nb]
    exact u.tbls b ps (by rw [del_ne nb]; exact e)
variable {k : Nat} {f C : Addr} {fd : FuncData} {ps : List Str} {sp : Sp} {m : Str} {o : Expr} {ta : TE} {pos apos : Pos}
theorem run_fnH {Q : VK} {us : List Value} {vs : List V} (F : ∀ B, Mod X.K X.mg B → FnOk X.prog X.w X.K X.mg B CX0 k f fd ps sp) (hr : Room k X.A) (hb : Binds X.K fd ps []) (hst : X.stack = X.env :: X.outer) (fr : X.env.frame = some X.env.locals)
    (hA : X.A.handled = some (.ref ea)) (I : Inv X pins σ H s) (he : H ea = some (ExcO ea CE0)) (r : Vals vs us) (h : sp vs (del H ea) (fun v H2 => H2 ea = none → Q v (upd H2 ea (ExcO ea CE0))) fun _ _ _ => False) :
    wpAny (model X.prog X.w) X.A (call (.ref f) us) (EP X pins σ Q) X.xe s := by
  obtain ⟨B, md, e0⟩ := I.env0H hst fr hA he
  obtain ⟨⟨oe, eo⟩, nc, nf⟩ := I.excAt he
  have hl : us.length = ps.length := by rw [← r.length]; exact (F B md).len _ _ _ _ h
  have bb := hb s us I.kIn (by rw [List.append_nil]; exact hl)
  rw [List.append_nil] at bb
  refine wpAny_call (codeAny_mono ((F B md).run X.A X.stack s (del H ea) ⟨us, []⟩ us vs _ _ hr e0 bb r h) fun r s' hq => ?_)
  cases r with
  | error e => exact False.elim hq
  | ok fl =>
    cases fl with
    | next => exact False.elim hq
    | brk => exact False.elim hq
    | cont => exact False.elim hq
    | ret u =>
      obtain ⟨v, H', os, bare, un, hok, rv, q⟩ := hq
      have h'e : H' ea = none := un.free ea oe eo del_same (by simp)
      have keep := un.keep ea oe eo del_same nf (by simp)
      refine I.after ⟨v, upd H' ea (ExcO ea CE0), os, bare, un.under he, fun b w e => ?_, rv, q h'e⟩
      by_cases hb : b = ea
      · subst hb
        rw [upd_same] at e
        cases e
        obtain ⟨ph, _, mono⟩ := I.hok _ _ he
        exact ⟨mono _ _ ph fun o e => by rw [eo] at e; cases e; exact keep, ⟨_, keep⟩, mono⟩
      · rw [upd_ne hb] at e
        exact (hok b w e).stay (fun c v _ q => q) (fun c q => by rw [upd_ne (ne_of_none q h'e)]; exact q) fun c xs q => by rw [upd_ne (ne_of_none q h'e)]; exact q
def tMethH (ea CE0 C : Addr) (m : Str) (sp : Sp) (ta : TE) : TE := fun σ H Q => ta σ H fun x H1 => ∃ a dx fs, x = .ref a ∧ H1 a = some (.ins C dx fs) ∧ fs.lookup m = none ∧ H1 ea = some (ExcO ea CE0) ∧ sp [x] (del H1 ea) (fun v H2 => H2 ea = none → Q v (upd H2 ea (ExcO ea CE0))) fun _ _ _ => False
/-- o.m() inside a handler -/
theorem pe_methH0 {pl : Sem Bool} (ho : PE X o ta) (c : Cls X.K C) (hm : Meth X.K C m f) (F : ∀ B, Mod X.K X.mg B → FnOk X.prog X.w X.K X.mg B CX0 k f fd ps sp) (hr : Room k X.A) (hb : Binds X.K fd ps []) (hst : X.stack = X.env :: X.outer) (fr : X.env.frame = some X.env.locals)
    (hA : X.A.handled = some (.ref ea))
    (ht : eval (.Call (.Attribute o m apos) [] [] pos) X.env = (do
      let ov ← eval o X.env
      standAt apos.atName
      let (f, first) ← holding [ov] (getMethod ov m pl)
      callWith pos f first (backTo pos (starEach [] X.env)) (backToKw pos (keywordEach [] X.env))) := by rfl) :
    PE X (.Call (.Attribute o m apos) [] [] pos) (tMethH ea CE0 C m sp ta) := by
  intro pins s σ H Q I h
  refine PySem.W.methodCall_KW (pl := pl) (thn (ho pins s σ H _ I h) fun u s1 ⟨x, H1, I1, rx, a, dx, fs, ex, ha, l, he, q⟩ => ?_) ht
  subst ex
  obtain rfl : u = Value.ref a := rx
  refine getmeth_ok I1 ha c hm l ?_
  exact PySem.W.callWith_K0 (first := [.ref a]) I1.kIn hm.kp (run_fnH (us := [.ref a]) (vs := [.ref a]) F hr hb hst fr hA I1 he (.cons rfl .nil) q)
end
section
variable {X : Cx} {k : Nat} {f C : Addr} {fd : FuncData} {ps : List Str} {sp : Sp} {m : Str} {o e : Expr} {es : List Expr} {ta : TE} {t : TA} {pos apos : Pos}
def xMeth (C : Addr) (m : Str) (sp : Sp) (ta : TE) (t : TA) : TX := fun σ H Q E => ta σ H fun x H1 => ∃ a dx fs, x = .ref a ∧ H1 a = some (.ins C dx fs) ∧ fs.lookup m = none ∧ t σ H1 fun vs H2 => sp (x :: vs) H2 Q E
/-- o.m(e, ..) in a try -/
theorem pex_meth {pl : Sem Bool} (ho : PE X.nox o ta) (c : Cls X.K C) (hm : Meth X.K C m f) (F : FnOk X.prog X.w X.K X.mg X.base (CXE X.prog X.w) k f fd ps sp) (hr : Room k X.A) (hb : Binds X.K fd ps []) (ha : PA X.nox (e :: es) t)
    (hst : starEach (e :: es) X.env = (false, eval e X.env) :: starEach es X.env := by rfl) (hpl : (backTo pos (starEach es X.env)).any (·.1) = false := by rfl)
    (ht : eval (.Call (.Attribute o m apos) (e :: es) [] pos) X.env = (do
      let ov ← eval o X.env
      standAt apos.atName
      let (f, first) ← holding [ov] (getMethod ov m pl)
      callWith pos f first (backTo pos (starEach (e :: es) X.env)) (backToKw pos (keywordEach [] X.env))) := by rfl) (hcq : X.calm = true := by rfl) :
    PEX X (.Call (.Attribute o m apos) (e :: es) [] pos) (xMeth C m sp ta t) := by
  intro pins s σ H Q E I h
  refine PySem.W.methodCall_KW (pl := pl) (nox (ho pins s σ H _ (I.wish _) h) fun u s1 ⟨x, H1, I1, rx, a, dx, fs, ex, ea, l, q⟩ => ?_) ht
  subst ex
  obtain rfl : u = Value.ref a := rx
  refine getmeth_ok I1.unwish ea c hm l ?_
  refine PySem.W.callWith_K (first := [.ref a]) (h₀ := X.base) I.ok.mod.kin hm.kp (nox (ha pos pins s1 σ H1 _ I1 q) fun us s2 ⟨vs, H2, I2, r, q2⟩ => ⟨I2.unwish.kIn, ?_⟩) hst hpl
  exact run_fnX hcq (us := .ref a :: us) (vs := .ref a :: vs) (dvs := []) (ds := []) F hr hb .nil I2.unwish (.cons rfl r) (by rw [List.append_nil]; exact q2)
theorem refs_vals : ∀ {Bs : List Addr} {its : List Value}, Vals (Bs.map V.ref) its → its = Bs.map Value.ref
  | [], _, .nil => rfl
  | B :: Bs, _, .cons r1 r2 => by
    rw [List.map_cons, ← refs_vals r2]
    exact congrArg (· :: _) r1
/-- isinstance of an error of an own class, by a tuple of own classes -/
theorem call_isinstET {C : Addr} (Y : ExcK X.K C) : CallR X (.builtin "isinstance") (fun xs H Q => ∃ ea t Bs b, xs = [.ref ea, .ref t] ∧ H ea = some (ExcO ea C) ∧ H t = some (.tup ((Bs : List Addr).map V.ref)) ∧ PySem.W.kitAny X.K (.ref C) (Bs.map Value.ref) = some b ∧ Q (.bl b) H) := by
  intro pins s σ H xs us Q I r h
  obtain ⟨ea, t, Bs, b, rfl, ty, tt, e, q⟩ := h
  obtain ⟨u, u2, rfl, rx, r2⟩ := vals2 r
  cases (show u2 = Value.ref t from r2)
  cases (show u = Value.ref ea from rx)
  obtain ⟨_, its, rv, ht⟩ := I.hok t _ tt
  have ei : its = Bs.map Value.ref := refs_vals rv
  subst ei
  obtain ⟨ot, et, ct, n, dt⟩ := ht
  obtain ⟨oc, od, odt, osl⟩ := ot
  cases ct
  cases dt
  exact PySem.W.kia_tup (kitx_exc Y) I.kIn (I.hok.exc ty) et e (fun z => nomatch z) fun tk => ⟨.bl b, H, I.tok _, rfl, q⟩
end
end L2

set_option maxHeartbeats 1000000
/-! who waits is hindered -/
namespace Lo
open PySem L2
theorem waitR_at : ∀ {r pre A B : List Pr} {z : Pr}, waitR pre r = A ++ z :: B → ∃ r1 r2, r = r1 ++ z :: r2 ∧ waitR pre r1 = A ∧ clear (pre ++ r1) z = false
  | [], pre, A, B, z, h => by
    have h' : ([] : List Pr) = A ++ z :: B := h
    cases A <;> cases h'
  | x :: r, pre, A, B, z, h => by
    rw [waitR_cons] at h
    by_cases c : clear pre x = true
    · rw [if_pos c] at h
      obtain ⟨r1, r2, e, e1, e2⟩ := waitR_at h
      refine ⟨x :: r1, r2, by rw [e]; rfl, by rw [waitR_cons, if_pos c]; exact e1, ?_⟩
      rw [List.append_assoc] at e2
      exact e2
    · rw [if_neg c] at h
      cases A with
      | nil =>
        cases h
        refine ⟨[], r, rfl, rfl, ?_⟩
        rw [List.append_nil]
        exact Bool.eq_false_iff.mpr c
      | cons a A =>
        have h1 : x = a := (List.cons.inj h).1
        have h2 : waitR (pre ++ [x]) r = A ++ z :: B := (List.cons.inj h).2
        obtain ⟨r1, r2, e, e1, e2⟩ := waitR_at h2
        refine ⟨x :: r1, r2, by rw [e]; rfl, by rw [waitR_cons, if_neg c, e1, h1], ?_⟩
        rw [List.append_assoc] at e2
        exact e2
theorem heldR_pre : ∀ {r1 pre r2 : List Pr} {y : Pr}, y ∈ heldR pre r1 → y ∈ heldR pre (r1 ++ r2)
  | [], pre, r2, y, h => by
    have h' : y ∈ ([] : List Pr) := h
    cases h'
  | x :: r1, pre, r2, y, h => by
    rw [List.cons_append, heldR_cons]
    rw [heldR_cons] at h
    by_cases c : clear pre x = true
    · rw [if_pos c] at h ⊢
      rcases List.mem_cons.mp h with e | e
      · rw [e]; exact List.mem_cons_self
      · exact List.mem_cons_of_mem _ (heldR_pre e)
    · rw [if_neg c] at h ⊢
      exact heldR_pre h
theorem not_clear {pre : List Pr} {z : Pr} (h : clear pre z = false) : ∃ a ∈ pre, ¬ Ok2 a z := by
  by_cases e : ∃ a ∈ pre, ¬ Ok2 a z
  · exact e
  · have : clear pre z = true := of_clear fun a ha => Classical.byContradiction fun n => e ⟨a, ha, n⟩
    rw [h] at this
    cases this
/-- one that waits is hindered by a lock of another pact that is held or waits ahead of it -/
theorem wait_hind {ps A B : List Pr} {z : Pr} (h : waitL ps = A ++ z :: B) : ∃ a, (a ∈ heldL ps ∨ a ∈ A) ∧ ¬ Ok2 a z := by
  rw [wait_eq] at h
  obtain ⟨r1, r2, e, e1, e2⟩ := waitR_at h
  rw [List.nil_append] at e2
  obtain ⟨a, ha, hn⟩ := not_clear e2
  refine ⟨a, ?_, hn⟩
  rcases mem_either (pre := []) ha with q | q
  · refine .inl ?_
    rw [held_eq, e]
    exact heldR_pre q
  · exact .inr (by rw [← e1]; exact q)
theorem cut_last (xs : List V) (x : V) : cutV (xs ++ [x]) (some (-1)) none = [x] := by
  unfold cutV
  have e : HT.sIx (xs ++ [x]).length 0 (some (-1)) = xs.length := by
    rw [List.length_append]
    show (if (-1 : Int) < 0 then ((-1 : Int) + ((xs.length + 1 : Nat) : Int)).toNat else min (-1 : Int).toNat (xs.length + 1)) = _
    rw [if_pos (by decide)]
    omega
  rw [HT.sIx_none, e, List.length_append]
  simp
section
variable (C : Kd → Addr) (CL CWt : Addr) (K : PySem.W.Frag)
def spAskE : Sp := fun vs H Q E => ∃ l p ps v x u k, vs = [.ref l, v, u] ∧ LS C CL K H l p ps ∧ ps.length < 1000 ∧ cPa.rp K H x v ∧ LkO C H k u ∧ (∃ j, wplace ps x = some j) ∧ ∀ ea H', Same H H' → E (.ref ea) (some CWt) H'
def spHindered : Sp := fun vs H Q _ => ∃ q1 q2 hd wt us1 us2, vs = [.ref q1, .ref q2] ∧ H q1 = some (.lst us1) ∧ H q2 = some (.lst us2) ∧ Paired (cPr.rp K H) hd us1 ∧ Paired (cPr.rp K H) wt us2 ∧ us1.length ≤ 400 ∧ us2.length ≤ 400 ∧ (wt.map (·.1)).Nodup ∧
  (∀ A z B, wt = A ++ z :: B → ∃ a, (a ∈ hd ∨ a ∈ A) ∧ ¬ Ok2 a z) ∧ ∀ H', Same H H' → Q (.bl true) H'
def spRefused : Sp := fun vs H Q _ => ∃ l p ps v x t k, vs = [.ref l, v, t] ∧ LS C CL K H l p ps ∧ ps.length < 1000 ∧ cPa.rp K H x v ∧ cLk.rp K H k t ∧ (∃ j, wplace ps x = some j) ∧ ∀ H', Same H H' → Q (.bl true) H'
def spAsked : Sp := fun vs H Q _ => ∃ l p ps v x t k, vs = [.ref l, v, t] ∧ LS C CL K H l p ps ∧ ps.length < 900 ∧ cPa.rp K H x v ∧ cLk.rp K H k t ∧
  ((∃ j, wplace ps x = some j) → ∀ H', Same H H' → Q (.bl true) H') ∧ (wplace ps x = none → ∀ H', LS C CL K H' l p (askPs ps x k) → Kp p H H' → Q (.bl true) H')
end
theorem same_del {H1 H : Hp} {ea : Addr} (h : H1 ea = none) (s : Same H1 H) : Same H1 (del H ea) := fun b o e => by
  rw [del_ne fun z => by rw [z, h] at e; cases e]
  exact s b o e
theorem same_back {H1 H : Hp} {ea : Addr} {o : HO} (h : H1 ea = none) (s : Same H1 H) : Same H1 (upd H ea o) := fun b u e => by
  rw [upd_ne fun z => by rw [z, h] at e; cases e]
  exact s b u e
theorem ask_true {ps : List Pr} {x : Pa} {k : Lk} (hw : x ∉ (waitL ps).map (·.1)) (h : askR ps x k = true) : x ∉ (waitL (askPs ps x k)).map (·.1) := by
  unfold askR at h
  unfold askPs
  by_cases hc : covered ps x k = true
  · rw [if_pos hc]
    exact hw
  · rw [if_neg hc, wait_snoc]
    rw [Bool.eq_false_iff.mpr hc, Bool.false_or, hind_snoc] at h
    rw [if_pos h, List.append_nil]
    exact hw
theorem ask_false {ps : List Pr} {x : Pa} {k : Lk} (h : askR ps x k = false) : waitL (askPs ps x k) = waitL ps ++ [(x, k)] := by
  unfold askR at h
  have h1 : covered ps x k = false := (Bool.or_eq_false_iff.mp h).1
  have h2 := (Bool.or_eq_false_iff.mp h).2
  rw [hind_snoc] at h2
  unfold askPs
  rw [if_neg (by rw [h1]; decide), wait_snoc, if_neg (by rw [h2]; decide)]
end Lo

set_option maxHeartbeats 4000000
namespace K15
open PySem L2 Lo
def top (i : Nat) : Stmt := PySem.Challenge.pw_pactroom_k15_who_waits_is_hindered.main.body.getD i (.Pass ⟨0, 0, 0, 0⟩)
abbrev s__wall : Stmt := top 0
abbrev m_NoText_init : Stmt := inClass (top 11) 0
abbrev m_NoPlace_init : Stmt := inClass (top 12) 0
abbrev m_NoWayBack_init : Stmt := inClass (top 13) 0
abbrev m_NoFit_init : Stmt := inClass (top 14) 0
abbrev m_Locks_init : Stmt := inClass (top 16) 0
abbrev m_Locks_ask : Stmt := inClass (top 16) 1
abbrev m_Locks_free : Stmt := inClass (top 16) 2
abbrev m_Locks_stands : Stmt := inClass (top 16) 3
abbrev m_Locks_behind : Stmt := inClass (top 16) 4
abbrev m_Locks_held : Stmt := inClass (top 16) 5
abbrev m_Locks_waiting : Stmt := inClass (top 16) 6
abbrev m_Locks_hinderer : Stmt := inClass (top 16) 7
abbrev m_Locks_held_pairs : Stmt := inClass (top 16) 8
abbrev m_Locks_waiting_pairs : Stmt := inClass (top 16) 9
abbrev m_Locks_waiting_place : Stmt := inClass (top 16) 10
abbrev m_Lock_init : Stmt := inClass (top 20) 0
abbrev m_Lock_kind : Stmt := inClass (top 20) 1
abbrev m_Lock_beside : Stmt := inClass (top 20) 2
abbrev m_Lock_covers : Stmt := inClass (top 20) 3
abbrev m_Lock_told : Stmt := inClass (top 20) 4
abbrev m_Read_kind : Stmt := inClass (top 21) 0
abbrev m_Mean_kind : Stmt := inClass (top 22) 0
abbrev m_Change_kind : Stmt := inClass (top 23) 0
abbrev s_lock_of : Stmt := top 24
abbrev s__law_cell_at : Stmt := top 26
abbrev s__law_names : Stmt := top 27
abbrev s__law_told : Stmt := top 28
abbrev s__law_beside : Stmt := top 29
abbrev s__law_hindered : Stmt := top 30
abbrev s__law_refused : Stmt := top 31
abbrev s__law_asked : Stmt := top 32
abbrev s_law : Stmt := top 33
theorem sc_Locks_init : FnScope ["self"] ["self"] (defScope m_Locks_init) := ⟨rfl, rfl, rfl, by decide +kernel, rfl, by decide +kernel, by decide +kernel⟩
theorem sc_Locks_ask : FnScope ["self", "p", "lock"] ["self", "p", "lock"] (defScope m_Locks_ask) := ⟨rfl, rfl, rfl, by decide +kernel, rfl, by decide +kernel, by decide +kernel⟩
def cm_Locks_ask_0 : Scope := match defBody m_Locks_ask with
  | _ :: .If (.Call _ [.ListComp _ _ sc _] _ _) _ _ _ :: _ => sc
  | _ => default
theorem sb_Locks_ask_0 : BlkScope ["self", "p", "lock"] (defScope m_Locks_ask) cm_Locks_ask_0 "pair" ["pair", "p", "lock"] [1, 2] := ⟨by decide +kernel, rfl, by decide +kernel, rfl, by decide +kernel, by decide +kernel, rfl, rfl, by decide +kernel⟩
theorem sc_Locks_free : FnScope ["self", "p", "waited", "still"] ["self", "p"] (defScope m_Locks_free) := ⟨rfl, rfl, rfl, by decide +kernel, rfl, by decide +kernel, by decide +kernel⟩
def cm_Locks_free_0 : Scope := match defBody m_Locks_free with
  | _ :: .Assign _ (.ListComp _ _ sc _) _ :: _ => sc
  | _ => default
theorem sb_Locks_free_0 : BlkScope ["self", "p", "waited", "still"] (defScope m_Locks_free) cm_Locks_free_0 "pair" ["pair", "p"] [1] := ⟨by decide +kernel, rfl, by decide +kernel, rfl, by decide +kernel, by decide +kernel, rfl, rfl, by decide +kernel⟩
def cm_Locks_free_1 : Scope := match defBody m_Locks_free with
  | _ :: _ :: .Assign _ (.ListComp _ _ sc _) _ :: _ => sc
  | _ => default
theorem sb_Locks_free_1 : BlkScope ["self", "p", "waited", "still"] (defScope m_Locks_free) cm_Locks_free_1 "pair" ["pair"] [] := ⟨by decide +kernel, rfl, by decide +kernel, rfl, by decide +kernel, by decide +kernel, rfl, rfl, fun j h => absurd h (Nat.not_lt_zero j)⟩
def cm_Locks_free_2 : Scope := match defBody m_Locks_free with
  | _ :: _ :: _ :: .Return (some (.ListComp _ _ sc _)) _ :: _ => sc
  | _ => default
theorem sb_Locks_free_2 : BlkScope ["self", "p", "waited", "still"] (defScope m_Locks_free) cm_Locks_free_2 "pair" ["pair", "p", "still"] [1, 3] := ⟨by decide +kernel, rfl, by decide +kernel, rfl, by decide +kernel, by decide +kernel, rfl, rfl, by decide +kernel⟩
theorem sc_Locks_held : FnScope ["self"] ["self"] (defScope m_Locks_held) := ⟨rfl, rfl, rfl, by decide +kernel, rfl, by decide +kernel, by decide +kernel⟩
def cm_Locks_held_0 : Scope := match defBody m_Locks_held with
  | .Return (some (.ListComp _ _ sc _)) _ :: _ => sc
  | _ => default
theorem sb_Locks_held_0 : BlkScope ["self"] (defScope m_Locks_held) cm_Locks_held_0 "pair" ["pair"] [] := ⟨by decide +kernel, rfl, by decide +kernel, rfl, by decide +kernel, by decide +kernel, rfl, rfl, fun j h => absurd h (Nat.not_lt_zero j)⟩
theorem sc_Locks_waiting : FnScope ["self"] ["self"] (defScope m_Locks_waiting) := ⟨rfl, rfl, rfl, by decide +kernel, rfl, by decide +kernel, by decide +kernel⟩
def cm_Locks_waiting_0 : Scope := match defBody m_Locks_waiting with
  | .Return (some (.ListComp _ _ sc _)) _ :: _ => sc
  | _ => default
theorem sb_Locks_waiting_0 : BlkScope ["self"] (defScope m_Locks_waiting) cm_Locks_waiting_0 "pair" ["pair"] [] := ⟨by decide +kernel, rfl, by decide +kernel, rfl, by decide +kernel, by decide +kernel, rfl, rfl, fun j h => absurd h (Nat.not_lt_zero j)⟩
theorem sc_Locks_hinderer : FnScope ["self", "place", "pair", "k", "ahead"] ["self", "place"] (defScope m_Locks_hinderer) := ⟨rfl, rfl, rfl, by decide +kernel, rfl, by decide +kernel, by decide +kernel⟩
theorem sc_Locks_held_pairs : FnScope ["self"] ["self"] (defScope m_Locks_held_pairs) := ⟨rfl, rfl, rfl, by decide +kernel, rfl, by decide +kernel, by decide +kernel⟩
def cm_Locks_held_pairs_0 : Scope := match defBody m_Locks_held_pairs with
  | .Return (some (.ListComp _ _ sc _)) _ :: _ => sc
  | _ => default
theorem sb_Locks_held_pairs_0 : BlkScope ["self"] (defScope m_Locks_held_pairs) cm_Locks_held_pairs_0 "k" ["k", "self"] [0] := ⟨by decide +kernel, rfl, by decide +kernel, rfl, by decide +kernel, by decide +kernel, rfl, rfl, by decide +kernel⟩
theorem sc_Locks_waiting_pairs : FnScope ["self"] ["self"] (defScope m_Locks_waiting_pairs) := ⟨rfl, rfl, rfl, by decide +kernel, rfl, by decide +kernel, by decide +kernel⟩
def cm_Locks_waiting_pairs_0 : Scope := match defBody m_Locks_waiting_pairs with
  | .Return (some (.ListComp _ _ sc _)) _ :: _ => sc
  | _ => default
theorem sb_Locks_waiting_pairs_0 : BlkScope ["self"] (defScope m_Locks_waiting_pairs) cm_Locks_waiting_pairs_0 "k" ["k", "self"] [0] := ⟨by decide +kernel, rfl, by decide +kernel, rfl, by decide +kernel, by decide +kernel, rfl, rfl, by decide +kernel⟩
theorem sc_Locks_waiting_place : FnScope ["self", "p", "k"] ["self", "p"] (defScope m_Locks_waiting_place) := ⟨rfl, rfl, rfl, by decide +kernel, rfl, by decide +kernel, by decide +kernel⟩
theorem sc_Lock_init : FnScope ["self", "first", "last"] ["self", "first", "last"] (defScope m_Lock_init) := ⟨rfl, rfl, rfl, by decide +kernel, rfl, by decide +kernel, by decide +kernel⟩
theorem sc_Lock_beside : FnScope ["self", "other", "apart"] ["self", "other"] (defScope m_Lock_beside) := ⟨rfl, rfl, rfl, by decide +kernel, rfl, by decide +kernel, by decide +kernel⟩
theorem sc_Lock_covers : FnScope ["self", "other", "within"] ["self", "other"] (defScope m_Lock_covers) := ⟨rfl, rfl, rfl, by decide +kernel, rfl, by decide +kernel, by decide +kernel⟩
theorem sc_Lock_told : FnScope ["self"] ["self"] (defScope m_Lock_told) := ⟨rfl, rfl, rfl, by decide +kernel, rfl, by decide +kernel, by decide +kernel⟩
theorem sc_Read_kind : FnScope ["self"] ["self"] (defScope m_Read_kind) := ⟨rfl, rfl, rfl, by decide +kernel, rfl, by decide +kernel, by decide +kernel⟩
theorem sc_Mean_kind : FnScope ["self"] ["self"] (defScope m_Mean_kind) := ⟨rfl, rfl, rfl, by decide +kernel, rfl, by decide +kernel, by decide +kernel⟩
theorem sc_Change_kind : FnScope ["self"] ["self"] (defScope m_Change_kind) := ⟨rfl, rfl, rfl, by decide +kernel, rfl, by decide +kernel, by decide +kernel⟩
theorem sc_lock_of : FnScope ["told"] ["told"] (defScope s_lock_of) := ⟨rfl, rfl, rfl, by decide +kernel, rfl, by decide +kernel, by decide +kernel⟩
theorem sc__law_cell_at : FnScope ["_law_script", "_law_k"] ["_law_script", "_law_k"] (defScope s__law_cell_at) := ⟨rfl, rfl, rfl, by decide +kernel, rfl, by decide +kernel, by decide +kernel⟩
theorem sc__law_names : FnScope ["_law_cell", "_law_home", "_law_k"] ["_law_cell"] (defScope s__law_names) := ⟨rfl, rfl, rfl, by decide +kernel, rfl, by decide +kernel, by decide +kernel⟩
theorem sc__law_told : FnScope ["_law_cell", "_law_base", "_law_first"] ["_law_cell", "_law_base"] (defScope s__law_told) := ⟨rfl, rfl, rfl, by decide +kernel, rfl, by decide +kernel, by decide +kernel⟩
theorem sc__law_beside : FnScope ["_law_one", "_law_other", "_law_kinds"] ["_law_one", "_law_other"] (defScope s__law_beside) := ⟨rfl, rfl, rfl, by decide +kernel, rfl, by decide +kernel, by decide +kernel⟩
theorem sc__law_hindered : FnScope ["_law_held", "_law_waiting", "_law_k", "_law_p", "_law_told_here", "_law_others"] ["_law_held", "_law_waiting"] (defScope s__law_hindered) := ⟨rfl, rfl, rfl, by decide +kernel, rfl, by decide +kernel, by decide +kernel⟩
def cm__law_hindered_0 : Scope := match defBody s__law_hindered with
  | .For _ _ (_ :: .If (.Compare _ _ [.ListComp _ _ sc _] _) _ _ _ :: _) _ _ :: _ => sc
  | _ => default
theorem sb__law_hindered_0 : BlkS ["_law_held", "_law_waiting", "_law_k", "_law_p", "_law_told_here", "_law_others"] (defScope s__law_hindered) cm__law_hindered_0 2 ["_law_pact", "_law_other"] [] := ⟨by decide +kernel, rfl, by decide +kernel, by decide +kernel, by decide +kernel, rfl, fun j h => absurd h (Nat.not_lt_zero j)⟩
def cm__law_hindered_1 : Scope := match defBody s__law_hindered with
  | .For _ _ (_ :: _ :: .Assign _ (.ListComp _ _ sc _) _ :: _) _ _ :: _ => sc
  | _ => default
theorem sb__law_hindered_1 : BlkS ["_law_held", "_law_waiting", "_law_k", "_law_p", "_law_told_here", "_law_others"] (defScope s__law_hindered) cm__law_hindered_1 2 ["_law_pact", "_law_other", "_law_p"] [3] := ⟨by decide +kernel, rfl, by decide +kernel, by decide +kernel, by decide +kernel, rfl, by decide +kernel⟩
def cm__law_hindered_2 : Scope := match defBody s__law_hindered with
  | .For _ _ (_ :: _ :: _ :: .If (.Compare (.ListComp _ _ sc _) _ _ _) _ _ _ :: _) _ _ :: _ => sc
  | _ => default
theorem sb__law_hindered_2 : BlkScope ["_law_held", "_law_waiting", "_law_k", "_law_p", "_law_told_here", "_law_others"] (defScope s__law_hindered) cm__law_hindered_2 "_law_other" ["_law_other", "_law_told_here"] [4] := ⟨by decide +kernel, rfl, by decide +kernel, rfl, by decide +kernel, by decide +kernel, rfl, rfl, by decide +kernel⟩
theorem sc__law_refused : FnScope ["_law_locks", "_law_p", "_law_told_here", "_law_held", "_law_waiting", "e", "_law_others"] ["_law_locks", "_law_p", "_law_told_here"] (defScope s__law_refused) := ⟨rfl, rfl, rfl, by decide +kernel, rfl, by decide +kernel, by decide +kernel⟩
theorem sc__law_asked : FnScope ["_law_locks", "_law_p", "_law_told_here", "_law_found", "_law_late"] ["_law_locks", "_law_p", "_law_told_here"] (defScope s__law_asked) := ⟨rfl, rfl, rfl, by decide +kernel, rfl, by decide +kernel, by decide +kernel⟩
def cm__law_asked_0 : Scope := match defBody s__law_asked with
  | .If (.Compare _ _ [.ListComp _ _ sc _] _) _ _ _ :: _ => sc
  | _ => default
theorem sb__law_asked_0 : BlkS ["_law_locks", "_law_p", "_law_told_here", "_law_found", "_law_late"] (defScope s__law_asked) cm__law_asked_0 2 ["_law_pact", "_law_other"] [] := ⟨by decide +kernel, rfl, by decide +kernel, by decide +kernel, by decide +kernel, rfl, fun j h => absurd h (Nat.not_lt_zero j)⟩
def cm__law_asked_1 : Scope := match defBody s__law_asked with
  | _ :: _ :: _ :: .If _ (.Return (some (.Compare _ _ [.ListComp _ _ sc _] _)) _ :: _) _ _ :: _ => sc
  | _ => default
theorem sb__law_asked_1 : BlkS ["_law_locks", "_law_p", "_law_told_here", "_law_found", "_law_late"] (defScope s__law_asked) cm__law_asked_1 2 ["_law_pact", "_law_other"] [] := ⟨by decide +kernel, rfl, by decide +kernel, by decide +kernel, by decide +kernel, rfl, fun j h => absurd h (Nat.not_lt_zero j)⟩
theorem sc_law : FnScope ["_law_script", "_law_names_here", "_law_base", "_law_locks", "_law_cell", "_law_p"] ["_law_script"] (defScope s_law) := ⟨rfl, rfl, rfl, by decide +kernel, rfl, by decide +kernel, by decide +kernel⟩
def cm_law_0 : Scope := match defBody s_law with
  | _ :: _ :: _ :: _ :: .For _ _ (_ :: .If _ (_ :: .If (.Compare _ _ [.ListComp _ _ sc _] _) _ _ _ :: _) _ _ :: _) _ _ :: _ => sc
  | _ => default
theorem sb_law_0 : BlkS ["_law_script", "_law_names_here", "_law_base", "_law_locks", "_law_cell", "_law_p"] (defScope s_law) cm_law_0 2 ["_law_pact", "_law_told_here"] [] := ⟨by decide +kernel, rfl, by decide +kernel, by decide +kernel, by decide +kernel, rfl, fun j h => absurd h (Nat.not_lt_zero j)⟩
end K15

set_option maxHeartbeats 4000000
namespace K15
open PySem L2 Lo
section
variable {P : Program} {w : World} {K : PySem.W.Frag} {mg : Str → Option Value} {base : Heap} {f CL : Addr} {fd : FuncData} {C : Kd → Addr}
/-! ### kinds of locks -/
theorem ok_rk (F : Fun K "kind" "Read.kind" m_Read_kind f fd) : FnOk P w K mg base CX0 1 f fd ["self"] (spKind .read) := by
  refine F.ok sc_Read_kind (fun vs H Q E h => ?_) (fun cdv A outer s H vs Q E hr h => ?_)
  · obtain ⟨v, rfl, _⟩ := h
    rfl
  obtain ⟨v, rfl, q⟩ := h
  exact ⟨_, pss_one (ps_ret pe_str), q⟩
theorem ok_mk (F : Fun K "kind" "Mean.kind" m_Mean_kind f fd) : FnOk P w K mg base CX0 1 f fd ["self"] (spKind .mean) := by
  refine F.ok sc_Mean_kind (fun vs H Q E h => ?_) (fun cdv A outer s H vs Q E hr h => ?_)
  · obtain ⟨v, rfl, _⟩ := h
    rfl
  obtain ⟨v, rfl, q⟩ := h
  exact ⟨_, pss_one (ps_ret pe_str), q⟩
theorem ok_ck (F : Fun K "kind" "Change.kind" m_Change_kind f fd) : FnOk P w K mg base CX0 1 f fd ["self"] (spKind .change) := by
  refine F.ok sc_Change_kind (fun vs H Q E h => ?_) (fun cdv A outer s H vs Q E hr h => ?_)
  · obtain ⟨v, rfl, _⟩ := h
    rfl
  obtain ⟨v, rfl, q⟩ := h
  exact ⟨_, pss_one (ps_ret pe_str), q⟩
theorem ok_linit (F : Fun K "__init__" "Lock.__init__" m_Lock_init f fd) (T : TxK K C) : FnOk P w K mg base CX0 1 f fd ["self", "first", "last"] (spLInit C) := by
  refine F.ok sc_Lock_init (fun vs H Q E h => ?_) (fun cdv A outer s H vs Q E hr h => ?_)
  · obtain ⟨a, dx, k, x, y, rfl, _⟩ := h
    rfl
  obtain ⟨a, dx, k, x, y, rfl, ha, q⟩ := h
  refine ⟨_, pss_cons (ps_fld (pv 0) (pv 1) rfl) (pss_one (ps_fld (pv 0) (pv 2) rfl)), ?_⟩
  exact ⟨_, rfl, _, rfl, a, C k, dx, [], rfl, ha, T.cl k, T.nF k, (by show 0 < 1000; decide), _, rfl, _, rfl, a, C k, dx, _, rfl, upd_same, T.cl k, T.nL k, (by show 1 < 1000; decide), q⟩
theorem ok_told (F : Fun K "told" "Lock.told" m_Lock_told f fd) (T : TxK K C) (GK : ∀ k, GM P w K mg base CX0 1 (C k) "kind" ["self"] (spKind k)) : FnOk P w K mg base CX0 2 f fd ["self"] (spTold C) := by
  refine F.ok sc_Lock_told (fun vs H Q E h => ?_) (fun cdv A outer s H vs Q E hr h => ?_)
  · obtain ⟨v, k, rfl, _⟩ := h
    rfl
  obtain ⟨v, k, rfl, ⟨a, dx, rfl, ha⟩, q⟩ := h
  refine ⟨_, pss_one (ps_ret (pe_tup (pa_cons (pm0 (GK k.1) (pv 0) (T.cl k.1) hr) (pa_cons (pe_fld (pv 0) rfl) (pa_cons (pe_fld (pv 0) rfl) pa_nil))))), ?_⟩
  refine ⟨_, rfl, a, dx, _, rfl, ha, lf_no _ _ (by decide +kernel) (by decide +kernel), _, rfl, ?_⟩
  exact ⟨_, rfl, a, _, dx, _, _, rfl, ha, T.cl _, T.nF _, lf_first _ _, _, rfl, a, _, dx, _, _, rfl, ha, T.cl _, T.nL _, lf_last _ _, (by show 3 ≤ sizeLine; decide), fun t ht => q t ht⟩
theorem ok_lockof (F : Fun K "lock_of" "lock_of" s_lock_of f fd) (T : TxK K C) (mgC : ∀ k, mg (kdN k) = some (.ref (C k))) {fI : Addr} {dI : FuncData} (M : ∀ k, Mk K (C k) fI)
    (GI : FnOk P w K mg base CX0 1 fI dI ["self", "first", "last"] (spLInit C)) (bI : Binds K dI ["self", "first", "last"] []) : FnOk P w K mg base CX0 3 f fd ["told"] (spLockOf C K) := by
  refine F.ok sc_lock_of (fun vs H Q E h => ?_) (fun cdv A outer s H vs Q E hr h => ?_)
  · obtain ⟨v, k, rfl, _⟩ := h
    rfl
  obtain ⟨v, k, rfl, hv, q⟩ := h
  obtain ⟨a, u1, u2, u3, rfl, ha, e1, e2, e3⟩ := hv
  have e1' : u1 = .str (kdS k.1) := e1
  have e2' : u2 = .int k.2.1 := e2
  have e3' : u3 = .int k.2.2 := e3
  subst e1' e2' e3'
  have hr1 : Room (1 + 1) _ := hr
  refine ⟨_, pss_cons (ps_if (pt_cmpR op_eq (pe_ix (r := rIxT K) ix_tup (pv 0) pe_int (fun _ _ => rfl)) pe_str (nomark _))
      (pss_one (ps_ret (pe_make (M .read) GI hr1 rfl (mgC .read) bI .nil pass0 (pa_cons (pe_ix (r := rIxT K) ix_tup (pv 0) pe_int (fun _ _ => rfl)) (pa_cons (pe_ix (r := rIxT K) ix_tup (pv 0) pe_int (fun _ _ => rfl)) pa_nil))))) pss_nil)
    (pss_cons (ps_if (pt_cmpR op_eq (pe_ix (r := rIxT K) ix_tup (pv 0) pe_int (fun _ _ => rfl)) pe_str (nomark _))
      (pss_one (ps_ret (pe_make (M .mean) GI hr1 rfl (mgC .mean) bI .nil pass0 (pa_cons (pe_ix (r := rIxT K) ix_tup (pv 0) pe_int (fun _ _ => rfl)) (pa_cons (pe_ix (r := rIxT K) ix_tup (pv 0) pe_int (fun _ _ => rfl)) pa_nil))))) pss_nil)
    (pss_one (ps_ret (pe_make (M .change) GI hr1 rfl (mgC .change) bI .nil pass0 (pa_cons (pe_ix (r := rIxT K) ix_tup (pv 0) pe_int (fun _ _ => rfl)) (pa_cons (pe_ix (r := rIxT K) ix_tup (pv 0) pe_int (fun _ _ => rfl)) pa_nil)))))), ?_⟩
  refine ⟨_, rfl, a, _, _, _, rfl, rfl, ha.sq, rfl, rfl, _, rfl, ?_⟩
  obtain ⟨kd, x, y⟩ := k
  cases kd with
  | read =>
    refine ite2 (fun _ => ?_) (fun c => absurd (decide_eq_true rfl) c)
    exact ⟨_, rfl, a, _, _, _, rfl, rfl, ha.sq, rfl, _, rfl, a, _, _, _, rfl, rfl, ha.sq, rfl, fun z dz nz ndz nez => ⟨z, dz, .read, x, y, rfl, upd_same, rfl, q _ _ (mk_same nz ndz) ⟨z, dz, rfl, upd_same⟩⟩⟩
  | mean =>
    refine ite2 (fun c => absurd (V.str.inj (of_decide_eq_true c)).symm s_rm) (fun _ => ?_)
    refine ⟨_, rfl, a, _, _, _, rfl, rfl, ha.sq, rfl, rfl, _, rfl, ?_⟩
    refine ite2 (fun _ => ?_) (fun c => absurd (decide_eq_true rfl) c)
    exact ⟨_, rfl, a, _, _, _, rfl, rfl, ha.sq, rfl, _, rfl, a, _, _, _, rfl, rfl, ha.sq, rfl, fun z dz nz ndz nez => ⟨z, dz, .mean, x, y, rfl, upd_same, rfl, q _ _ (mk_same nz ndz) ⟨z, dz, rfl, upd_same⟩⟩⟩
  | change =>
    refine ite2 (fun c => absurd (V.str.inj (of_decide_eq_true c)).symm s_rc) (fun _ => ?_)
    refine ⟨_, rfl, a, _, _, _, rfl, rfl, ha.sq, rfl, rfl, _, rfl, ?_⟩
    refine ite2 (fun c => absurd (V.str.inj (of_decide_eq_true c)).symm s_mc) (fun _ => ?_)
    exact ⟨_, rfl, a, _, _, _, rfl, rfl, ha.sq, rfl, _, rfl, a, _, _, _, rfl, rfl, ha.sq, rfl, fun z dz nz ndz nez => ⟨z, dz, .change, x, y, rfl, upd_same, rfl, q _ _ (mk_same nz ndz) ⟨z, dz, rfl, upd_same⟩⟩⟩
theorem ok_cell (F : Fun K "_law_cell_at" "_law_cell_at" s__law_cell_at f fd) (B : TxB mg) : FnOk P w K mg base CX0 1 f fd ["_law_script", "_law_k"] (spCell K) := by
  refine F.ok sc__law_cell_at (fun vs H Q E h => ?_) (fun cdv A outer s H vs Q E hr h => ?_)
  · obtain ⟨a, ns, k, rfl, _⟩ := h
    rfl
  obtain ⟨a, ns, k, rfl, hS, q⟩ := h
  refine ⟨_, pss_cons (ps_if (pt_cmpR op_lt (pv 1) (pe_callB call_len_seq rfl B.len PySem.boot_len (pa_cons (pv 0) pa_nil)) (nomark _)) (pss_one (ps_ret (pe_ix ix_list (pv 0) (pv 1) (fun _ _ => rfl)))) pss_nil)
    (pss_one (ps_ret pe_int)), ?_⟩
  refine ⟨_, rfl, _, rfl, a, _, rfl, .inl hS, _, _, rfl, rfl, _, rfl, ?_⟩
  refine ite2 (fun c => ?_) (fun c => ?_)
  · have c' : (k : Int) < (((ns.map V.int).length : Nat) : Int) := of_decide_eq_true c
    rw [List.length_map] at c'
    have hk : k < ns.length := by omega
    have q1 : atI (ns.map V.int) ((k : Nat) : Int) = some (.int ns[k]) := atI_nat (by rw [List.getElem?_map, List.getElem?_eq_getElem hk] <;> rfl)
    have e : cellAt ns k = ns[k] := by unfold cellAt; rw [List.getElem?_eq_getElem hk]; rfl
    rw [e] at q
    exact ⟨_, rfl, _, rfl, a, _, _, _, rfl, rfl, hS, q1, q⟩
  · have c' : ¬ (k : Int) < (((ns.map V.int).length : Nat) : Int) := fun z => c (decide_eq_true z)
    rw [List.length_map] at c'
    have e : cellAt ns k = 0 := by unfold cellAt; rw [List.getElem?_eq_none (by omega)]; rfl
    rw [e] at q
    exact q
theorem ok_ltold (F : Fun K "_law_told" "_law_told" s__law_told f fd) : FnOk P w K mg base CX0 1 f fd ["_law_cell", "_law_base"] (spLTold K) := by
  refine F.ok sc__law_told (fun vs H Q E h => ?_) (fun cdv A outer s H vs Q E hr h => ?_)
  · obtain ⟨c, b, rfl, _⟩ := h
    rfl
  obtain ⟨c, b, rfl, q⟩ := h
  refine ⟨_, pss_cons (ps_set (i := 2) sc__law_told.nd rfl (Or.inl rfl) (pe_op op_add (pv 1) (pe_op op_mod (pe_op op_fdiv (pv 0) pe_int) pe_int)))
    (pss_one (ps_ret (pe_tup (pa_cons (pe_ix ix_list (pe_lst (pa_cons pe_str (pa_cons pe_str (pa_cons pe_str pa_nil)))) (pe_op op_mod (pv 0) pe_int) (fun _ _ => rfl)) (pa_cons (pv 2) (pa_cons (pe_op op_add (pv 2) (pe_op op_mod (pe_op op_fdiv (pv 0) pe_int) pe_int)) pa_nil)))))), ?_⟩
  refine ⟨_, rfl, _, rfl, _, _, rfl, rfl, ⟨by decide, by decide⟩, _, _, rfl, rfl, (by show (0 : Int) < 9; decide), _, _, rfl, rfl, ?_⟩
  refine ⟨(by show 3 ≤ sizeLine; decide), fun l hl => ?_⟩
  refine ⟨_, rfl, _, _, rfl, rfl, (by show (0 : Int) < 3; decide), l, _, _, _, rfl, rfl, SqL.of upd_same, kds_at _ (Int.emod_nonneg _ (by decide)) (Int.emod_lt_of_pos _ (by decide)), ?_⟩
  refine ⟨_, rfl, _, rfl, _, rfl, _, _, rfl, rfl, ⟨by decide, by decide⟩, _, _, rfl, rfl, (by show (0 : Int) < 10; decide), _, _, rfl, rfl, (by show 3 ≤ sizeLine; decide), fun t ht => ?_⟩
  exact q _ _ ((same_new hl).trans (same_new ht)) (cLk_mk (k := toldL c b) upd_same)
theorem ok_lnames (F : Fun K "_law_names" "_law_names" s__law_names f fd) : FnOk P w K mg base CX0 1 f fd ["_law_cell"] (spNames K) := by
  refine F.ok sc__law_names (fun vs H Q E h => ?_) (fun cdv A outer s H vs Q E hr h => ?_)
  · obtain ⟨c, rfl, _⟩ := h
    rfl
  obtain ⟨c, rfl, q⟩ := h
  refine ⟨_, pss_cons (ps_set (i := 1) sc__law_names.nd rfl (Or.inl rfl) (pe_op op_mod (pv 0) pe_int))
    (pss_cons (ps_set (i := 2) sc__law_names.nd rfl (Or.inl rfl) (pe_op op_mod (pe_op op_fdiv (pv 0) pe_int) pe_int))
    (pss_one (ps_ret (pe_lst (pa_cons (pe_tup (pa_cons (pv 1) (pa_cons (pv 2) pa_nil))) (pa_cons (pe_tup (pa_cons (pv 1) (pa_cons (pe_op op_add (pv 2) pe_int) pa_nil))) (pa_cons (pe_tup (pa_cons (pe_op op_mod (pe_op op_add (pv 1) pe_int) pe_int) (pa_cons (pv 2) pa_nil)))
      (pa_cons (pe_tup (pa_cons (pe_op op_mod (pe_op op_add (pv 1) pe_int) pe_int) (pa_cons (pe_op op_add (pv 2) pe_int) pa_nil))) pa_nil)))))))), ?_⟩
  refine ⟨_, rfl, _, _, rfl, rfl, (by show (0 : Int) < 5; decide), ?_⟩
  refine ⟨_, rfl, _, _, rfl, rfl, ⟨by decide, by decide⟩, _, _, rfl, rfl, (by show (0 : Int) < 17; decide), ?_⟩
  refine ⟨_, rfl, _, rfl, (by show 2 ≤ sizeLine; decide), fun t1 h1 => ?_⟩
  refine ⟨_, rfl, _, rfl, _, _, rfl, rfl, (by show 2 ≤ sizeLine; decide), fun t2 h2 => ?_⟩
  refine ⟨_, rfl, _, _, rfl, rfl, _, _, rfl, rfl, (by show (0 : Int) < 5; decide), _, rfl, (by show 2 ≤ sizeLine; decide), fun t3 h3 => ?_⟩
  refine ⟨_, rfl, _, _, rfl, rfl, _, _, rfl, rfl, (by show (0 : Int) < 5; decide), _, rfl, _, _, rfl, rfl, (by show 2 ≤ sizeLine; decide), fun t4 h4 => ?_⟩
  refine ⟨(by show 4 ≤ sizeLine; decide), fun l hl => ?_⟩
  have s1 := same_new (o := .tup [.int (c % 5), .int (c / 5 % 17)]) h1
  have s2 := same_new (o := .tup [.int (c % 5), .int (c / 5 % 17 + 1)]) h2
  have s3 := same_new (o := .tup [.int ((c % 5 + 1) % 5), .int (c / 5 % 17)]) h3
  have s4 := same_new (o := .tup [.int ((c % 5 + 3) % 5), .int (c / 5 % 17 + 2)]) h4
  have s5 := same_new (o := .lst [.ref t1, .ref t2, .ref t3, .ref t4]) hl
  refine q l _ _ (s1.trans (s2.trans (s3.trans (s4.trans s5)))) ((s1.trans (s2.trans (s3.trans s4))).free hl) upd_same ?_
  exact .cons (cPa_mk (s5 _ _ (s4 _ _ (s3 _ _ (s2 _ _ upd_same))))) (.cons (cPa_mk (s5 _ _ (s4 _ _ (s3 _ _ upd_same)))) (.cons (cPa_mk (s5 _ _ (s4 _ _ upd_same))) (.cons (cPa_mk (s5 _ _ upd_same)) .nil)))
end
end K15

set_option maxHeartbeats 4000000
namespace K15
open PySem L2 Lo
section
variable {P : Program} {w : World} {K : PySem.W.Frag} {mg : Str → Option Value} {base : Heap} {f CL : Addr} {fd : FuncData} {C : Kd → Addr}
/-! ### beside, covers -/
theorem ok_beside (F : Fun K "beside" "Lock.beside" m_Lock_beside f fd) (T : TxK K C) (S : TxS K mg) (GK : ∀ k, GM P w K mg base CX0 1 (C k) "kind" ["self"] (spKind k)) : FnOk P w K mg base CX0 2 f fd ["self", "other"] (spBeside C) := by
  refine F.ok sc_Lock_beside (fun vs H Q E h => ?_) (fun cdv A outer s H vs Q E hr h => ?_)
  · obtain ⟨v, u, k, j, rfl, _⟩ := h
    rfl
  obtain ⟨v, u, k, j, rfl, ⟨a, dx, rfl, ha⟩, ⟨b, dy, rfl, hb⟩, q⟩ := h
  obtain ⟨aS, a0, a1, a2, mS, tS, t0, t1, t2⟩ := S.sh
  refine ⟨_, pss_cons (ps_set (i := 2) sc_Lock_beside.nd rfl (Or.inl rfl) (pe_or (pe_cmpR op_lt (pe_fld (pv 0) rfl) (pe_fld (pv 1) rfl) (nomark _)) (pe_one (pe_cmpR op_lt (pe_fld (pv 1) rfl) (pe_fld (pv 0) rfl) (nomark _)))))
    (pss_one (ps_ret (pe_or (pv 2) (pe_one (pe_cmpR (op_inC (cT2 cStr cStr) (hun hr)) (pe_tup (pa_cons (pm0 (GK k.1) (pv 0) (T.cl k.1) hr) (pa_cons (pm0 (GK j.1) (pv 1) (T.cl j.1) hr) pa_nil))) (pe_glob (v := .ref aS) rfl mS rfl) rfl))))), ?_⟩
  refine ⟨_, rfl, a, _, dx, _, _, rfl, ha, T.cl _, T.nL _, lf_last _ _, _, rfl, b, _, dy, _, _, rfl, hb, T.cl _, T.nF _, lf_first _ _, _, _, rfl, rfl, _, rfl, ?_⟩
  by_cases h1 : k.2.2 < j.2.1
  · have e : besideB k j = true := by unfold besideB; rw [decide_eq_true h1]; rfl
    rw [e] at q
    refine ite2 (fun _ => ?_) (fun c => absurd (decide_eq_true h1) c)
    exact ⟨_, rfl, _, rfl, iteT (q H (Same.refl H))⟩
  refine ite2 (fun c => absurd (of_decide_eq_true c) h1) (fun _ => ?_)
  refine ⟨_, rfl, b, _, dy, _, _, rfl, hb, T.cl _, T.nL _, lf_last _ _, _, rfl, a, _, dx, _, _, rfl, ha, T.cl _, T.nF _, lf_first _ _, _, _, rfl, rfl, ?_⟩
  by_cases h2 : j.2.2 < k.2.1
  · have e : besideB k j = true := by unfold besideB; rw [decide_eq_true h2, Bool.or_true]; rfl
    rw [e] at q
    refine ⟨_, rfl, _, rfl, ite2 (fun _ => q H (Same.refl H)) (fun c => absurd (decide_eq_true h2) c)⟩
  have e : besideB k j = share k.1 j.1 := by unfold besideB; rw [decide_eq_false h1, decide_eq_false h2]; rfl
  rw [e] at q
  refine ⟨_, rfl, _, rfl, ite2 (fun c => absurd (of_decide_eq_true c) h2) (fun _ => ?_)⟩
  refine ⟨_, rfl, a, dx, _, rfl, ha, lf_no _ _ (by decide +kernel) (by decide +kernel), _, rfl, ?_⟩
  refine ⟨_, rfl, b, dy, _, rfl, hb, lf_no _ _ (by decide +kernel) (by decide +kernel), _, rfl, (by show 2 ≤ sizeLine; decide), fun t ht => ?_⟩
  refine ⟨(kdS k.1, kdS j.1), aS, _, ([("read", "read"), ("read", "mean"), ("mean", "read")] : List (Str × Str)), ⟨t, _, _, rfl, .inl upd_same, rfl, rfl⟩, rfl, .inr tS.sq.sq, .cons ⟨a0, _, _, rfl, t0.sq, rfl, rfl⟩ (.cons ⟨a1, _, _, rfl, t1.sq, rfl, rfl⟩ (.cons ⟨a2, _, _, rfl, t2.sq, rfl, rfl⟩ .nil)), ?_⟩
  have z := q _ (same_new (o := .tup [.str (kdS k.1), .str (kdS j.1)]) ht)
  rw [share_mem2]
  exact z
theorem ok_covers (F : Fun K "covers" "Lock.covers" m_Lock_covers f fd) (T : TxK K C) (R : TxR K mg) (GK : ∀ k, GM P w K mg base CX0 1 (C k) "kind" ["self"] (spKind k)) : FnOk P w K mg base CX0 2 f fd ["self", "other"] (spCovers C) := by
  refine F.ok sc_Lock_covers (fun vs H Q E h => ?_) (fun cdv A outer s H vs Q E hr h => ?_)
  · obtain ⟨v, u, k, j, rfl, _⟩ := h
    rfl
  obtain ⟨v, u, k, j, rfl, ⟨a, dx, rfl, ha⟩, ⟨b, dy, rfl, hb⟩, q⟩ := h
  obtain ⟨aR, mR, tR⟩ := R.rk
  refine ⟨_, pss_cons (ps_set (i := 2) sc_Lock_covers.nd rfl (Or.inl rfl) (pe_and (pe_cmpR op_le (pe_fld (pv 0) rfl) (pe_fld (pv 1) rfl) (nomark _)) (pe_one (pe_cmpR op_le (pe_fld (pv 1) rfl) (pe_fld (pv 0) rfl) (nomark _)))))
    (pss_one (ps_ret (pe_and (pv 2) (pe_one (pe_cmpR op_ge (pe_ix (ix_tabI (D := ranksD)) (pe_glob (v := .ref aR) rfl mR rfl) (pm0 (GK k.1) (pv 0) (T.cl k.1) hr) (fun _ _ => rfl)) (pe_ix (ix_tabI (D := ranksD)) (pe_glob (v := .ref aR) rfl mR rfl) (pm0 (GK j.1) (pv 1) (T.cl j.1) hr) (fun _ _ => rfl)) (nomark _)))))), ?_⟩
  refine ⟨_, rfl, a, _, dx, _, _, rfl, ha, T.cl _, T.nF _, lf_first _ _, _, rfl, b, _, dy, _, _, rfl, hb, T.cl _, T.nF _, lf_first _ _, _, _, rfl, rfl, _, rfl, ?_⟩
  by_cases h1 : k.2.1 ≤ j.2.1
  · refine ite2 (fun _ => ?_) (fun c => absurd (decide_eq_true h1) c)
    refine ⟨_, rfl, b, _, dy, _, _, rfl, hb, T.cl _, T.nL _, lf_last _ _, _, rfl, a, _, dx, _, _, rfl, ha, T.cl _, T.nL _, lf_last _ _, _, _, rfl, rfl, ?_⟩
    by_cases h2 : j.2.2 ≤ k.2.2
    · have e : coversB k j = decide (rank j.1 ≤ rank k.1) := by unfold coversB; rw [decide_eq_true h1, decide_eq_true h2]; rfl
      rw [e] at q
      refine ⟨_, rfl, _, rfl, ite2 (fun _ => ?_) (fun c => absurd (decide_eq_true h2) c)⟩
      refine ⟨_, rfl, a, dx, _, rfl, ha, lf_no _ _ (by decide +kernel) (by decide +kernel), _, rfl, aR, _, rank k.1, rfl, rfl, tR, rank_at k.1, rfl, ?_⟩
      exact ⟨_, rfl, b, dy, _, rfl, hb, lf_no _ _ (by decide +kernel) (by decide +kernel), _, rfl, aR, _, rank j.1, rfl, rfl, tR, rank_at j.1, rfl, _, _, rfl, rfl, q H (Same.refl H)⟩
    · have e : coversB k j = false := by unfold coversB; rw [decide_eq_false h2, Bool.and_false]; rfl
      rw [e] at q
      exact ⟨_, rfl, _, rfl, ite2 (fun c => absurd (of_decide_eq_true c) h2) (fun _ => q H (Same.refl H))⟩
  · have e : coversB k j = false := by unfold coversB; rw [decide_eq_false h1]; rfl
    rw [e] at q
    refine ite2 (fun c => absurd (of_decide_eq_true c) h1) (fun _ => ?_)
    exact ⟨_, rfl, _, rfl, iteF (q H (Same.refl H))⟩

theorem ok_lbeside (F : Fun K "_law_beside" "_law_beside" s__law_beside f fd) (B : TxB mg) : FnOk P w K mg base CX0 1 f fd ["_law_one", "_law_other"] (spLBeside K) := by
  refine F.ok sc__law_beside (fun vs H Q E h => ?_) (fun cdv A outer s H vs Q E hr h => ?_)
  · obtain ⟨v, u, k, j, rfl, _⟩ := h
    rfl
  obtain ⟨v, u, k, j, rfl, ⟨a, u1, u2, u3, rfl, ha, e1, e2, e3⟩, ⟨b, w1, w2, w3, rfl, hb, f1, f2, f3⟩, q⟩ := h
  have e1' : u1 = .str (kdS k.1) := e1
  have e2' : u2 = .int k.2.1 := e2
  have e3' : u3 = .int k.2.2 := e3
  have f1' : w1 = .str (kdS j.1) := f1
  have f2' : w2 = .int j.2.1 := f2
  have f3' : w3 = .int j.2.2 := f3
  subst e1' e2' e3' f1' f2' f3'
  refine ⟨_, pss_cons (ps_if (PW.pt (pw_or (pt_cmpR op_lt (pe_ix (r := rIxT K) ix_tup (pv 0) pe_int (fun _ _ => rfl)) (pe_ix (r := rIxT K) ix_tup (pv 1) pe_int (fun _ _ => rfl)) (nomark _)) (pw_or1 (pt_cmpR op_lt (pe_ix (r := rIxT K) ix_tup (pv 1) pe_int (fun _ _ => rfl)) (pe_ix (r := rIxT K) ix_tup (pv 0) pe_int (fun _ _ => rfl)) (nomark _))))) (pss_one (ps_ret pe_bl)) pss_nil)
    (pss_cons (ps_set (i := 2) sc__law_beside.nd rfl (Or.inl rfl) (pe_callB call_sorted2 rfl B.sorted PyProof.Rows.boot_sorted (pa_cons (pe_lst (pa_cons (pe_ix (r := rIxT K) ix_tup (pv 0) pe_int (fun _ _ => rfl)) (pa_cons (pe_ix (r := rIxT K) ix_tup (pv 1) pe_int (fun _ _ => rfl)) pa_nil))) pa_nil)))
    (pss_one (ps_ret (pe_or (pe_cmpR (op_eqL cStr (hun hr)) (pv 2) (pe_lst (pa_cons pe_str (pa_cons pe_str pa_nil))) (nomark _)) (pe_one (pe_cmpR (op_eqL cStr (hun hr)) (pv 2) (pe_lst (pa_cons pe_str (pa_cons pe_str pa_nil))) (nomark _))))))), ?_⟩
  refine ⟨_, rfl, a, _, _, _, rfl, rfl, ha.sq, rfl, _, rfl, b, _, _, _, rfl, rfl, hb.sq, rfl, _, _, rfl, rfl, _, rfl, ?_⟩
  by_cases h1 : k.2.2 < j.2.1
  · have e : besideB k j = true := by unfold besideB; rw [decide_eq_true h1]; rfl
    rw [e] at q
    exact ite2 (fun _ => iteT (q H (Same.refl H))) (fun c => absurd (decide_eq_true h1) c)
  refine ite2 (fun c => absurd (of_decide_eq_true c) h1) (fun _ => ?_)
  refine ⟨_, rfl, b, _, _, _, rfl, rfl, hb.sq, rfl, _, rfl, a, _, _, _, rfl, rfl, ha.sq, rfl, _, _, rfl, rfl, _, rfl, ?_⟩
  by_cases h2 : j.2.2 < k.2.1
  · have e : besideB k j = true := by unfold besideB; rw [decide_eq_true h2, Bool.or_true]; rfl
    rw [e] at q
    exact ite2 (fun _ => q H (Same.refl H)) (fun c => absurd (decide_eq_true h2) c)
  refine ite2 (fun c => absurd (of_decide_eq_true c) h2) (fun _ => ?_)
  have e : besideB k j = share k.1 j.1 := by unfold besideB; rw [decide_eq_false h1, decide_eq_false h2]; rfl
  rw [e, ← srt_share] at q
  refine ⟨_, rfl, a, _, _, _, rfl, rfl, ha.sq, rfl, _, rfl, b, _, _, _, rfl, rfl, hb.sq, rfl, (by show 2 ≤ sizeLine; decide), fun l hl => ?_⟩
  refine ⟨l, kdS k.1, kdS j.1, rfl, SqL.of upd_same, fun m hm => ?_⟩
  have sm : Same H (upd (upd H l (.lst [.str (kdS k.1), .str (kdS j.1)])) m (.lst ((srt (kdS k.1) (kdS j.1)).map V.str))) := (same_new hl).trans (same_new hm)
  have em : (if (kdS j.1).cps.toList < (kdS k.1).cps.toList then [V.str (kdS j.1), V.str (kdS k.1)] else [V.str (kdS k.1), V.str (kdS j.1)]) = (srt (kdS k.1) (kdS j.1)).map V.str := by
    unfold srt
    split <;> rfl
  rw [em]
  have pl : ∀ (H' : Hp), Paired (cStr.rp K H') (srt (kdS k.1) (kdS j.1)) ((srt (kdS k.1) (kdS j.1)).map V.str) := fun H' => by
    unfold srt
    split <;> exact .cons rfl (.cons rfl .nil)
  refine ⟨_, rfl, (by show 2 ≤ sizeLine; decide), fun n hn => ?_⟩
  have s2 := sm.trans (same_new (o := .lst [.str "read", .str "read"]) hn)
  have hm3 := same_new (o := .lst [.str "read", .str "read"]) hn m _ upd_same
  refine ⟨_, (["read", "read"] : List Str), ⟨m, _, rfl, SqL.of hm3, pl _⟩, ⟨n, _, rfl, SqL.of upd_same, .cons rfl (.cons rfl .nil)⟩, _, rfl, ?_⟩
  by_cases g1 : srt (kdS k.1) (kdS j.1) = (["read", "read"] : List Str)
  · rw [decide_eq_true g1, Bool.true_or] at q
    exact ite2 (fun _ => q _ s2) (fun c => absurd (decide_eq_true g1) c)
  refine ite2 (fun c => absurd (of_decide_eq_true c) g1) (fun _ => ?_)
  rw [decide_eq_false g1, Bool.false_or] at q
  refine ⟨_, rfl, (by show 2 ≤ sizeLine; decide), fun n' hn' => ?_⟩
  exact ⟨_, (["mean", "read"] : List Str), ⟨m, _, rfl, SqL.of (same_new hn' _ _ hm3), pl _⟩, ⟨n', _, rfl, SqL.of upd_same, .cons rfl (.cons rfl .nil)⟩, q _ (s2.trans (same_new hn'))⟩
end
end K15

set_option maxHeartbeats 4000000
namespace K15
open PySem L2 Lo
section
variable {P : Program} {w : World} {K : PySem.W.Frag} {mg : Str → Option Value} {base : Heap} {f CL : Addr} {fd : FuncData} {C : Kd → Addr}
/-! ### a house's locks -/
theorem ok_lsinit (F : Fun K "__init__" "Locks.__init__" m_Locks_init f fd) (L : TxL K C CL) : FnOk P w K mg base CX0 1 f fd ["self"] (spLsInit CL) := by
  refine F.ok sc_Locks_init (fun vs H Q E h => ?_) (fun cdv A outer s H vs Q E hr h => ?_)
  · obtain ⟨l, dx, rfl, _⟩ := h
    rfl
  obtain ⟨l, dx, rfl, hl, q⟩ := h
  refine ⟨_, pss_one (ps_fld (pv 0) (pe_lst pa_nil) rfl), ?_⟩
  refine ⟨(by show 0 ≤ sizeLine; decide), fun p hp => ?_⟩
  have nl : l ≠ p := ne_of_none hl hp
  refine ⟨_, rfl, l, CL, dx, [], rfl, (by rw [upd_ne nl]; exact hl), L.cl, L.nP, (by show 0 < 1000; decide), ?_⟩
  exact q p _ hp (by rw [upd_ne (Ne.symm nl), upd_same]) upd_same fun b o n e => by rw [upd_ne n, upd_ne (ne_of_none e hp)]; exact e
theorem ok_hind (F : Fun K "hinderer" "Locks.hinderer" m_Locks_hinderer f fd) (B : TxB mg) (T : TxK K C) (L : TxL K C CL) (GB : ∀ k, GM P w K mg base CX0 2 (C k) "beside" ["self", "other"] (spBeside C)) :
    FnOk P w K mg base CX0 3 f fd ["self", "place"] (spHind C CL K) := by
  refine F.ok sc_Locks_hinderer (fun vs H Q E h => ?_) (fun cdv A outer s H vs Q E hr h => ?_)
  · obtain ⟨l, p, ps, k, rfl, _⟩ := h
    rfl
  obtain ⟨l, p, ps, k, rfl, ls, hk, hz, q⟩ := h
  have nd := sc_Locks_hinderer.nd
  obtain ⟨dx, vs, hl, hp, pr⟩ := id ls
  have hlen := pr.len
  obtain ⟨uk, euk, ruk⟩ := pr.get1 (List.getElem?_eq_getElem hk)
  refine ⟨_, pss_cons (ps_set (i := 2) nd rfl (Or.inl rfl) (pe_ix (r := rIxL K) ix_list (pe_fld (pv 0) rfl) (pv 1) (fun _ _ => rfl)))
    (pss_cons (ps_for PassesOwn.never rfl (pi_range1 rfl B.range (pa_cons (pv 1) pa_nil)) (pg_name (i := 3) nd rfl (Or.inl rfl))
      (pss_cons (ps_set (i := 4) nd rfl (Or.inl rfl) (pe_ix (r := rIxL K) ix_list (pe_fld (pv 0) rfl) (pv 3) (fun _ _ => rfl)))
      (pss_one (ps_if (PW.pt (pw_and (pt_cmpR (op_neC cPa (hun hr)) (pe_ix (r := rIxT K) ix_tup (pv 4) pe_int (fun _ _ => rfl)) (pe_ix (r := rIxT K) ix_tup (pv 2) pe_int (fun _ _ => rfl)) (nomark _))
        (pw_and1 (pt_not (pt_val (PE.ex fun kd : Kd => pm (GB kd) (pe_ix (r := rIxT K) ix_tup (pv 4) pe_int (fun _ _ => rfl)) (T.cl kd) hr (pa_cons (pe_ix (r := rIxT K) ix_tup (pv 2) pe_int (fun _ _ => rfl)) pa_nil))))))) (pss_one (ps_ret (pv 3))) pss_nil))))
    (pss_one (ps_ret pe_non))), ?_⟩
  refine ⟨_, rfl, l, CL, dx, _, _, rfl, hl, L.cl, L.nP, lp_pairs, _, rfl, p, _, _, _, rfl, rfl, SqL.of hp, atI_nat euk, ?_⟩
  refine ⟨_, rfl, (k : Int), rfl, (bnd (by omega)).1, (bnd (by omega)).2, ?_⟩
  rw [Int.toNat_natCast]
  refine for_range (n := k) (fun i σ H' => Same H H' ∧ (∃ x3 x4, σ = [some (.ref l), some (.int (k : Nat)), some uk, x3, x4]) ∧ ∀ j, j < i → hb ps k j = false) ⟨Same.refl H, ⟨none, none, rfl⟩, fun j h => absurd h (Nat.not_lt_zero _)⟩ ?_ ?_
  · rintro i σ H1 hi ⟨s1, ⟨x3, x4, rfl⟩, h0⟩
    rw [Int.zero_add]
    obtain ⟨dx1, vs1, hl1, hp1, pr1⟩ := ls.keep L.ne s1
    have hi' : i < ps.length := by omega
    obtain ⟨ui, eui, rui⟩ := pr1.get1 (List.getElem?_eq_getElem hi')
    have ruk1 := ruk.keep L.ne (fs_same s1)
    obtain ⟨a1, p1, l1, rfl, t1, c1, o1⟩ := rui
    obtain ⟨a2, p2, l2, rfl, t2, c2, o2⟩ := ruk1
    have hbe : hb ps k i = (!decide (ps[i].1 = ps[k].1) && !besideB ps[i].2 ps[k].2) := by
      unfold hb
      rw [List.getElem?_eq_getElem hi', List.getElem?_eq_getElem hk]
    have next : ∀ H2, Same H1 H2 → hb ps k i = false → (Same H H2 ∧ (∃ x3 x4, [some (.ref l), some (.int (k : Nat)), some (V.ref a2), some (.int (i : Nat)), some (V.ref a1)] = [some (.ref l), some (.int (k : Nat)), some (V.ref a2), x3, x4]) ∧ ∀ j, j < i + 1 → hb ps k j = false) := fun H2 s2 hf =>
      ⟨s1.trans s2, ⟨_, _, rfl⟩, fun j hj => by
        by_cases e : j = i
        · rw [e]; exact hf
        · exact h0 j (by omega)⟩
    refine ⟨_, rfl, l, CL, dx1, _, _, rfl, hl1, L.cl, L.nP, lp_pairs, _, rfl, p, _, _, _, rfl, rfl, SqL.of hp1, atI_nat eui, ?_⟩
    refine ⟨_, rfl, a1, _, _, _, rfl, rfl, t1.sq, rfl, _, rfl, a2, _, _, _, rfl, rfl, t2.sq, rfl, ps[i].1, ps[k].1, c1, c2, _, rfl, ?_⟩
    by_cases e : ps[i].1 = ps[k].1
    · rw [decide_eq_true e]
      exact iteF (iteF (next H1 (Same.refl _) (by rw [hbe, decide_eq_true e]; rfl)))
    rw [decide_eq_false e]
    refine iteT ?_
    obtain ⟨la, da, rfl, ha⟩ := id o1
    refine ⟨ps[i].2.1, _, rfl, a1, _, _, _, rfl, rfl, t1.sq, rfl, la, da, _, rfl, ha, lf_no _ _ (by decide +kernel) (by decide +kernel), _, rfl, a2, _, _, _, rfl, rfl, t2.sq, rfl, _, _, ps[i].2, ps[k].2, rfl, o1, o2, fun H2 s2 => ⟨_, rfl, ?_⟩⟩
    cases eb : besideB ps[i].2 ps[k].2 with
    | true => exact iteF (next H2 s2 (by rw [hbe, eb, Bool.not_true, Bool.and_false]))
    | false =>
      refine iteT ⟨_, rfl, ?_⟩
      have z := q H2 (s1.trans s2)
      rw [hind_some hi (by rw [hbe, eb, decide_eq_false e]; rfl) h0] at z
      exact z
  · rintro σ H1 ⟨s1, ⟨x3, x4, rfl⟩, h0⟩
    have z := q H1 s1
    rw [hind_none h0] at z
    exact z
theorem ok_heldp (F : Fun K "held_pairs" "Locks.held_pairs" m_Locks_held_pairs f fd) (B : TxB mg) (L : TxL K C CL) (GH : GM P w K mg base CX0 3 CL "hinderer" ["self", "place"] (spHind C CL K)) :
    FnOk P w K mg base CX0 4 f fd ["self"] (spPairs C CL K heldL) := by
  refine F.ok sc_Locks_held_pairs (fun vs H Q E h => ?_) (fun cdv A outer s H vs Q E hr h => ?_)
  · obtain ⟨l, p, ps, rfl, _⟩ := h
    rfl
  obtain ⟨l, p, ps, rfl, ls, hz, q⟩ := h
  obtain ⟨dx, vs, hl, hp, pr⟩ := id ls
  have hlen := pr.len
  refine ⟨_, pss_one (ps_ret (pe_lc sb_Locks_held_pairs_0 rfl (pi_range1 rfl B.range (pa_cons (pe_callB call_len_seq rfl B.len PySem.boot_len (pa_cons (pe_fld (pv 0) rfl) pa_nil)) pa_nil))
    (fun _ _ _ _ => pts_one (pt_cmpR op_isN (pm GH (pv 1) L.cl hr (pa_cons (pv 0) pa_nil)) pe_non (nomark _))) (fun _ _ _ _ => pe_ix (r := rIxL K) ix_list (pfK K 1) (pv 0) (fun _ _ => rfl)))), ?_⟩
  refine ⟨_, rfl, l, CL, dx, _, _, rfl, hl, L.cl, L.nP, lp_pairs, p, _, rfl, .inl (SqL.of hp), (vs.length : Int), rfl, (bnd (by omega)).1, (bnd (by omega)).2, ?_⟩
  rw [Int.toNat_natCast]
  refine lc_range (n := vs.length) (fun i ys H' => Same H H' ∧ ys = pick vs ((List.range i).filter fun k => (hind ps k).isNone)) ⟨Same.refl H, rfl⟩ (small (by omega)) ?_ ?_
  · rintro i ys H1 hi ⟨s1, rfl⟩
    obtain ⟨dx1, vs1, hl1, hp1, pr1⟩ := ls.keep L.ne s1
    have ev : vs1 = vs := by
      have := s1 p _ hp
      rw [hp1] at this
      cases this
      rfl
    subst ev
    have hi' : i < ps.length := by omega
    refine ⟨_, rfl, l, dx1, _, rfl, hl1, lp_no (by decide +kernel), _, rfl, l, p, ps, i, rfl, ls.keep L.ne s1, hi', hz, fun H2 s2 => ⟨rfl, _, rfl, ?_⟩⟩
    cases e : hind ps i with
    | none =>
      refine iteT ⟨_, rfl, l, CL, dx1, _, _, rfl, s2 _ _ hl1, L.cl, L.nP, lp_pairs, _, rfl, p, _, _, _, rfl, rfl, SqL.of (s2 _ _ hp1), atI_nat (List.getElem?_eq_getElem hi), s1.trans s2, ?_⟩
      rw [range_filter_succ, e]
      show _ = pick vs1 (_ ++ [i])
      rw [pick_snoc, List.getElem?_eq_getElem hi]
      rfl
    | some j =>
      refine iteF ⟨s1.trans s2, ?_⟩
      rw [range_filter_succ, e]
      show _ = pick vs1 (_ ++ [])
      rw [List.append_nil]
  · rintro ys H1 ⟨s1, rfl⟩ x hx
    have s2 := s1.trans (same_new (o := .lst (pick vs ((List.range vs.length).filter fun k => (hind ps k).isNone))) hx)
    refine q x _ _ s2 (s1.free hx) upd_same ?_
    have z := pick_pair pr (heldIx ps)
    unfold heldIx at z
    rw [hlen] at z
    unfold heldL heldIx
    rw [hlen]
    exact pp z fun _ _ g => g.keep L.ne (fs_same s2)
theorem ok_waitp (F : Fun K "waiting_pairs" "Locks.waiting_pairs" m_Locks_waiting_pairs f fd) (B : TxB mg) (L : TxL K C CL) (GH : GM P w K mg base CX0 3 CL "hinderer" ["self", "place"] (spHind C CL K)) :
    FnOk P w K mg base CX0 4 f fd ["self"] (spPairs C CL K waitL) := by
  refine F.ok sc_Locks_waiting_pairs (fun vs H Q E h => ?_) (fun cdv A outer s H vs Q E hr h => ?_)
  · obtain ⟨l, p, ps, rfl, _⟩ := h
    rfl
  obtain ⟨l, p, ps, rfl, ls, hz, q⟩ := h
  obtain ⟨dx, vs, hl, hp, pr⟩ := id ls
  have hlen := pr.len
  refine ⟨_, pss_one (ps_ret (pe_lc sb_Locks_waiting_pairs_0 rfl (pi_range1 rfl B.range (pa_cons (pe_callB call_len_seq rfl B.len PySem.boot_len (pa_cons (pe_fld (pv 0) rfl) pa_nil)) pa_nil))
    (fun _ _ _ _ => pts_one (pt_cmpR op_notN (pm GH (pv 1) L.cl hr (pa_cons (pv 0) pa_nil)) pe_non (nomark _))) (fun _ _ _ _ => pe_ix (r := rIxL K) ix_list (pfK K 1) (pv 0) (fun _ _ => rfl)))), ?_⟩
  refine ⟨_, rfl, l, CL, dx, _, _, rfl, hl, L.cl, L.nP, lp_pairs, p, _, rfl, .inl (SqL.of hp), (vs.length : Int), rfl, (bnd (by omega)).1, (bnd (by omega)).2, ?_⟩
  rw [Int.toNat_natCast]
  refine lc_range (n := vs.length) (fun i ys H' => Same H H' ∧ ys = pick vs ((List.range i).filter fun k => (hind ps k).isSome)) ⟨Same.refl H, rfl⟩ (small (by omega)) ?_ ?_
  · rintro i ys H1 hi ⟨s1, rfl⟩
    obtain ⟨dx1, vs1, hl1, hp1, pr1⟩ := ls.keep L.ne s1
    have ev : vs1 = vs := by
      have := s1 p _ hp
      rw [hp1] at this
      cases this
      rfl
    subst ev
    have hi' : i < ps.length := by omega
    refine ⟨_, rfl, l, dx1, _, rfl, hl1, lp_no (by decide +kernel), _, rfl, l, p, ps, i, rfl, ls.keep L.ne s1, hi', hz, fun H2 s2 => ⟨rfl, _, rfl, ?_⟩⟩
    cases e : hind ps i with
    | some j =>
      refine iteT ⟨_, rfl, l, CL, dx1, _, _, rfl, s2 _ _ hl1, L.cl, L.nP, lp_pairs, _, rfl, p, _, _, _, rfl, rfl, SqL.of (s2 _ _ hp1), atI_nat (List.getElem?_eq_getElem hi), s1.trans s2, ?_⟩
      rw [range_filter_succ, e]
      show _ = pick vs1 (_ ++ [i])
      rw [pick_snoc, List.getElem?_eq_getElem hi]
      rfl
    | none =>
      refine iteF ⟨s1.trans s2, ?_⟩
      rw [range_filter_succ, e]
      show _ = pick vs1 (_ ++ [])
      rw [List.append_nil]
  · rintro ys H1 ⟨s1, rfl⟩ x hx
    have s2 := s1.trans (same_new (o := .lst (pick vs ((List.range vs.length).filter fun k => (hind ps k).isSome))) hx)
    refine q x _ _ s2 (s1.free hx) upd_same ?_
    have z := pick_pair pr (waitIx ps)
    unfold waitIx at z
    rw [hlen] at z
    unfold waitL waitIx
    rw [hlen]
    exact pp z fun _ _ g => g.keep L.ne (fs_same s2)
theorem ok_held (F : Fun K "held" "Locks.held" m_Locks_held f fd) (T : TxK K C) (L : TxL K C CL) (GP : GM P w K mg base CX0 4 CL "held_pairs" ["self"] (spPairs C CL K heldL)) (GT : ∀ k, GM P w K mg base CX0 2 (C k) "told" ["self"] (spTold C)) :
    FnOk P w K mg base CX0 5 f fd ["self"] (spTolds C CL K heldL) := by
  refine F.ok sc_Locks_held (fun vs H Q E h => ?_) (fun cdv A outer s H vs Q E hr h => ?_)
  · obtain ⟨l, p, ps, rfl, _⟩ := h
    rfl
  obtain ⟨l, p, ps, rfl, ls, hz, q⟩ := h
  obtain ⟨dx, vs, hl, hp, pr⟩ := id ls
  refine ⟨_, pss_one (ps_ret (pe_lc sb_Locks_held_0 rfl (pi_list (pm0 GP (pv 0) L.cl hr)) (fun _ _ _ _ => pts_nil)
    (fun _ _ _ _ => pe_tup (pa_cons (pe_ix (r := rIxT K) ix_tup (pv 0) pe_int (fun _ _ => rfl)) (pa_cons (PE.ex fun kd : Kd => pm0 (GT kd) (pe_ix (r := rIxT K) ix_tup (pv 0) pe_int (fun _ _ => rfl)) (T.cl kd) hr) pa_nil))))), ?_⟩
  refine ⟨_, rfl, l, dx, _, rfl, hl, lp_no (by decide +kernel), l, p, ps, rfl, ls, hz, fun x H1 us s1 nx hx px => ⟨x, rfl, ⟨_, SqL.of hx⟩, ?_⟩⟩
  have hlen := px.len
  have hb : us.length ≤ 1000 := by
    rw [← hlen]
    exact Nat.le_trans (heldL_len ps) hz
  refine lc_list (xs := us) (fun i ys H' => Same H1 H' ∧ Paired (cPr.rp K H') ((heldL ps).take i) ys) ⟨Same.refl _, .nil⟩ (small hb) (fun i ys H2 _ g => SqL.of (g.1 _ _ hx)) ?_ ?_
  · rintro i u ys H2 hu ⟨s2, py⟩
    obtain ⟨y, ey, ry⟩ := px.get hu
    have ry2 := ry.keep L.ne (fs_same s2)
    obtain ⟨a, pu, lu, rfl, ta, cp, lo⟩ := ry2
    obtain ⟨la, da, rfl, ha⟩ := id lo
    refine tAllT ⟨_, rfl, a, _, _, _, rfl, rfl, ta.sq, rfl, ?_⟩
    refine ⟨y.2.1, _, rfl, a, _, _, _, rfl, rfl, ta.sq, rfl, la, da, _, rfl, ha, lf_no _ _ (by decide +kernel) (by decide +kernel), _, y.2, rfl, lo, fun t ht => ?_⟩
    refine ⟨(by show 2 ≤ sizeLine; decide), fun t2 ht2 => ?_⟩
    have s3 : Same H2 (upd (upd H2 t (.tup [.str (kdS y.2.1), .int y.2.2.1, .int y.2.2.2])) t2 (.tup [pu, .ref t])) := (same_new ht).trans (same_new ht2)
    refine ⟨s2.trans s3, ?_⟩
    have e : (heldL ps).take (i + 1) = (heldL ps).take i ++ [y] := by
      rw [List.take_succ, ey]
      rfl
    rw [e]
    refine (pp py fun _ _ g => cPr.keep s3.ts g).app (.cons ?_ .nil)
    exact cPr_mk (k := y) upd_same (cPa.keep s3.ts cp) (cLk_mk (same_new ht2 _ _ upd_same))
  · rintro ys H2 ⟨s2, py⟩ z hz2
    have s3 := same_new (o := .lst ys) hz2
    rw [← hlen, List.take_length] at py
    exact q z _ _ (s1.trans (s2.trans s3)) ((s1.trans s2).free hz2) upd_same (pp py fun _ _ g => cPr.keep s3.ts g)
theorem ok_waiting (F : Fun K "waiting" "Locks.waiting" m_Locks_waiting f fd) (T : TxK K C) (L : TxL K C CL) (GP : GM P w K mg base CX0 4 CL "waiting_pairs" ["self"] (spPairs C CL K waitL)) (GT : ∀ k, GM P w K mg base CX0 2 (C k) "told" ["self"] (spTold C)) :
    FnOk P w K mg base CX0 5 f fd ["self"] (spTolds C CL K waitL) := by
  refine F.ok sc_Locks_waiting (fun vs H Q E h => ?_) (fun cdv A outer s H vs Q E hr h => ?_)
  · obtain ⟨l, p, ps, rfl, _⟩ := h
    rfl
  obtain ⟨l, p, ps, rfl, ls, hz, q⟩ := h
  obtain ⟨dx, vs, hl, hp, pr⟩ := id ls
  refine ⟨_, pss_one (ps_ret (pe_lc sb_Locks_waiting_0 rfl (pi_list (pm0 GP (pv 0) L.cl hr)) (fun _ _ _ _ => pts_nil)
    (fun _ _ _ _ => pe_tup (pa_cons (pe_ix (r := rIxT K) ix_tup (pv 0) pe_int (fun _ _ => rfl)) (pa_cons (PE.ex fun kd : Kd => pm0 (GT kd) (pe_ix (r := rIxT K) ix_tup (pv 0) pe_int (fun _ _ => rfl)) (T.cl kd) hr) pa_nil))))), ?_⟩
  refine ⟨_, rfl, l, dx, _, rfl, hl, lp_no (by decide +kernel), l, p, ps, rfl, ls, hz, fun x H1 us s1 nx hx px => ⟨x, rfl, ⟨_, SqL.of hx⟩, ?_⟩⟩
  have hlen := px.len
  have hb : us.length ≤ 1000 := by
    rw [← hlen]
    exact Nat.le_trans (waitL_len ps) hz
  refine lc_list (xs := us) (fun i ys H' => Same H1 H' ∧ Paired (cPr.rp K H') ((waitL ps).take i) ys) ⟨Same.refl _, .nil⟩ (small hb) (fun i ys H2 _ g => SqL.of (g.1 _ _ hx)) ?_ ?_
  · rintro i u ys H2 hu ⟨s2, py⟩
    obtain ⟨y, ey, ry⟩ := px.get hu
    have ry2 := ry.keep L.ne (fs_same s2)
    obtain ⟨a, pu, lu, rfl, ta, cp, lo⟩ := ry2
    obtain ⟨la, da, rfl, ha⟩ := id lo
    refine tAllT ⟨_, rfl, a, _, _, _, rfl, rfl, ta.sq, rfl, ?_⟩
    refine ⟨y.2.1, _, rfl, a, _, _, _, rfl, rfl, ta.sq, rfl, la, da, _, rfl, ha, lf_no _ _ (by decide +kernel) (by decide +kernel), _, y.2, rfl, lo, fun t ht => ?_⟩
    refine ⟨(by show 2 ≤ sizeLine; decide), fun t2 ht2 => ?_⟩
    have s3 : Same H2 (upd (upd H2 t (.tup [.str (kdS y.2.1), .int y.2.2.1, .int y.2.2.2])) t2 (.tup [pu, .ref t])) := (same_new ht).trans (same_new ht2)
    refine ⟨s2.trans s3, ?_⟩
    have e : (waitL ps).take (i + 1) = (waitL ps).take i ++ [y] := by
      rw [List.take_succ, ey]
      rfl
    rw [e]
    refine (pp py fun _ _ g => cPr.keep s3.ts g).app (.cons ?_ .nil)
    exact cPr_mk (k := y) upd_same (cPa.keep s3.ts cp) (cLk_mk (same_new ht2 _ _ upd_same))
  · rintro ys H2 ⟨s2, py⟩ z hz2
    have s3 := same_new (o := .lst ys) hz2
    rw [← hlen, List.take_length] at py
    exact q z _ _ (s1.trans (s2.trans s3)) ((s1.trans s2).free hz2) upd_same (pp py fun _ _ g => cPr.keep s3.ts g)
end
end K15

set_option maxHeartbeats 4000000
namespace K15
open PySem L2 Lo
section
variable {P : Program} {w : World} {K : PySem.W.Frag} {mg : Str → Option Value} {base : Heap} {f CL : Addr} {fd : FuncData} {C : Kd → Addr}
theorem ok_wplace (F : Fun K "waiting_place" "Locks.waiting_place" m_Locks_waiting_place f fd) (B : TxB mg) (L : TxL K C CL) (GH : GM P w K mg base CX0 3 CL "hinderer" ["self", "place"] (spHind C CL K)) :
    FnOk P w K mg base CX0 4 f fd ["self", "p"] (spWPlace C CL K) := by
  refine F.ok sc_Locks_waiting_place (fun vs H Q E h => ?_) (fun cdv A outer s H vs Q E hr h => ?_)
  · obtain ⟨l, p, ps, v, x, rfl, _⟩ := h
    rfl
  obtain ⟨l, p, ps, v, x, rfl, ls, hz, hx, q⟩ := h
  have nd := sc_Locks_waiting_place.nd
  obtain ⟨dx, vs, hl, hp, pr⟩ := id ls
  have hlen := pr.len
  refine ⟨_, pss_cons (ps_for PassesOwn.never rfl (pi_range1 rfl B.range (pa_cons (pe_callB call_len_seq rfl B.len PySem.boot_len (pa_cons (pe_fld (pv 0) rfl) pa_nil)) pa_nil)) (pg_name (i := 2) nd rfl (Or.inl rfl))
      (pss_one (ps_if (PW.pt (pw_and (pt_cmpR (op_eqC cPa (hun hr)) (pe_ix (r := rIxT K) ix_tup (pe_ix (r := rIxL K) ix_list (pe_fld (pv 0) rfl) (pv 2) (fun _ _ => rfl)) pe_int (fun _ _ => rfl)) (pv 1) (nomark _))
        (pw_and1 (pt_cmpR op_notN (pm GH (pv 0) L.cl hr (pa_cons (pv 2) pa_nil)) pe_non (nomark _))))) (pss_one (ps_ret (pv 2))) pss_nil)))
    (pss_one (ps_ret pe_non)), ?_⟩
  refine ⟨_, rfl, l, CL, dx, _, _, rfl, hl, L.cl, L.nP, lp_pairs, p, _, rfl, .inl (SqL.of hp), (vs.length : Int), rfl, (bnd (by omega)).1, (bnd (by omega)).2, ?_⟩
  rw [Int.toNat_natCast]
  refine for_range (n := vs.length) (fun i σ H' => Same H H' ∧ (∃ x2, σ = [some (.ref l), some v, x2]) ∧ ∀ j, j < i → wpl ps x j = false) ⟨Same.refl H, ⟨none, rfl⟩, fun j h => absurd h (Nat.not_lt_zero _)⟩ ?_ ?_
  · rintro i σ H1 hi ⟨s1, ⟨x2, rfl⟩, h0⟩
    rw [Int.zero_add]
    have ls1 := ls.keep L.ne s1
    obtain ⟨dx1, vs1, hl1, hp1, pr1⟩ := id ls1
    have hi' : i < ps.length := by omega
    obtain ⟨ui, eui, rui⟩ := pr1.get1 (List.getElem?_eq_getElem hi')
    obtain ⟨a1, p1, l1, rfl, t1, c1, o1⟩ := rui
    have we : wpl ps x i = (decide (ps[i].1 = x) && (hind ps i).isSome) := by
      unfold wpl
      rw [List.getElem?_eq_getElem hi']
    have next : ∀ H2, Same H1 H2 → wpl ps x i = false → (Same H H2 ∧ (∃ x2, [some (.ref l), some v, some (.int (i : Nat))] = [some (.ref l), some v, x2]) ∧ ∀ j, j < i + 1 → wpl ps x j = false) := fun H2 s2 hf =>
      ⟨s1.trans s2, ⟨_, rfl⟩, fun j hj => by
        by_cases e : j = i
        · rw [e]; exact hf
        · exact h0 j (by omega)⟩
    refine ⟨_, rfl, l, CL, dx1, _, _, rfl, hl1, L.cl, L.nP, lp_pairs, _, rfl, p, _, _, _, rfl, rfl, SqL.of hp1, atI_nat eui, a1, _, _, _, rfl, rfl, t1.sq, rfl, _, rfl, ps[i].1, x, c1, cPa.keep s1.ts hx, _, rfl, ?_⟩
    by_cases e : ps[i].1 = x
    · rw [decide_eq_true e]
      refine iteT ⟨_, rfl, l, dx1, _, rfl, hl1, lp_no (by decide +kernel), _, rfl, l, p, ps, i, rfl, ls1, hi', hz, fun H2 s2 => ⟨rfl, _, rfl, ?_⟩⟩
      cases eh : hind ps i with
      | none => exact iteF (next H2 s2 (by rw [we, eh]; simp))
      | some j =>
        refine iteT ⟨_, rfl, ?_⟩
        have z := q H2 (s1.trans s2)
        rw [wplace_some hi' (by rw [we, eh, decide_eq_true e]; rfl) h0] at z
        exact z
    · rw [decide_eq_false e]
      exact iteF (iteF (next H1 (Same.refl _) (by rw [we, decide_eq_false e]; rfl)))
  · rintro σ H1 ⟨s1, ⟨x2, rfl⟩, h0⟩
    have z := q H1 s1
    rw [hlen.symm] at h0
    rw [wplace_none h0] at z
    exact z
theorem ok_ask (F : Fun K "ask" "Locks.ask" m_Locks_ask f fd) (B : TxB mg) (T : TxK K C) (L : TxL K C CL) (GC : ∀ k, GM P w K mg base CX0 2 (C k) "covers" ["self", "other"] (spCovers C)) (GH : GM P w K mg base CX0 3 CL "hinderer" ["self", "place"] (spHind C CL K)) (GW : GM P w K mg base CX0 4 CL "waiting_place" ["self", "p"] (spWPlace C CL K)) :
    FnOk P w K mg base CX0 21 f fd ["self", "p", "lock"] (spAsk C CL K) := by
  refine F.ok sc_Locks_ask (fun vs H Q E h => ?_) (fun cdv A outer s H vs Q E hr h => ?_)
  · obtain ⟨l, p, ps, v, x, u, k, rfl, _⟩ := h
    rfl
  obtain ⟨l, p, ps, v, x, u, k, rfl, ls, hz, hx, hu, hw, q⟩ := h
  have nd := sc_Locks_ask.nd
  refine ⟨_, pss_cons (ps_if (pt_cmpR op_notN (pm GW (pv 0) L.cl hr (pa_cons (pv 1) pa_nil)) pe_non (nomark _)) pss_never pss_nil)
    (pss_cons (ps_if (pt_val (pe_callB (call_any_bl (hr.hd (by decide))) rfl B.any PyProof.Rows.boot_any (pa_cons (pe_lc sb_Locks_ask_0 rfl (pi_list (pe_fld (pv 0) rfl)) (fun _ _ _ _ => pts_nil)
      (fun _ _ _ _ => pe_and (pe_cmpR (op_eqCK K cPa (hun hr)) (pe_ix (r := rIxT K) ix_tup (pv 0) pe_int (fun _ _ => rfl)) (pv 1) (nomark _)) (pe_one (PE.ex fun kd : Kd => pm (GC kd) (pe_ix (r := rIxT K) ix_tup (pv 0) pe_int (fun _ _ => rfl)) (T.cl kd) hr (pa_cons (pv 2) pa_nil))))) pa_nil))) (pss_one (ps_ret pe_bl)) pss_nil)
    (pss_cons (ps_expr (pe_bm PySem.F.plainAttrs_list PySem.F.slot_list_append PySem.F.type_list_append mt_append (pe_fld (pv 0) rfl) (pa_cons (pe_tup (pa_cons (pv 1) (pa_cons (pv 2) pa_nil))) pa_nil)))
    (pss_one (ps_ret (pe_cmpR op_isN (pm GH (pv 0) L.cl hr (pa_cons (pe_op op_sub (pe_callB call_len_seq rfl B.len PySem.boot_len (pa_cons (pe_fld (pv 0) rfl) pa_nil)) pe_int) pa_nil)) pe_non (nomark _)))))), ?_⟩
  obtain ⟨dx, vs, hl, hp, pr⟩ := id ls
  have hlen := pr.len
  refine ⟨_, rfl, l, dx, _, rfl, hl, lp_no (by decide +kernel), _, rfl, l, p, ps, v, x, rfl, ls, Nat.le_of_lt hz, hx, fun H1 s1 => ⟨rfl, _, rfl, ?_⟩⟩
  rw [hw]
  refine iteF ?_
  have ls1 := ls.keep L.ne s1
  obtain ⟨dx1, vs1, hl1, hp1, pr1⟩ := id ls1
  have ev : vs1 = vs := by
    have := s1 p _ hp
    rw [hp1] at this
    cases this
    rfl
  subst ev
  refine ⟨_, rfl, l, CL, dx1, _, _, rfl, hl1, L.cl, L.nP, lp_pairs, p, rfl, ⟨_, SqL.of hp1⟩, ?_⟩
  refine lc_list (xs := vs1) (fun i ys H' => Same H1 H' ∧ ys = ((ps.take i).map fun y => decide (y.1 = x) && coversB y.2 k).map V.bl) ⟨Same.refl _, rfl⟩ (small (by omega)) (fun i ys H2 _ g => SqL.of (g.1 _ _ hp1)) ?_ ?_
  · rintro i u0 ys H2 hu0 ⟨s2, rfl⟩
    obtain ⟨y, ey, ry⟩ := pr1.get hu0
    have ry2 := ry.keep L.ne (fs_same s2)
    obtain ⟨a, pu, lu, rfl, ta, cp, lo⟩ := ry2
    obtain ⟨la, da, rfl, ha⟩ := id lo
    have sx := s1.trans s2
    have e : ps.take (i + 1) = ps.take i ++ [y] := by
      rw [List.take_succ, ey]
      rfl
    refine tAllT ⟨_, rfl, a, _, _, _, rfl, rfl, ta.sq, rfl, _, rfl, y.1, x, cp, cPa.keep sx.ts hx, _, rfl, ?_⟩
    by_cases ex : y.1 = x
    · rw [decide_eq_true ex]
      refine iteT ⟨y.2.1, _, rfl, a, _, _, _, rfl, rfl, ta.sq, rfl, la, da, _, rfl, ha, lf_no _ _ (by decide +kernel) (by decide +kernel), _, rfl, _, _, y.2, k, rfl, lo, hu.keep L.ne (fs_same sx), fun H3 s3 => ⟨s2.trans s3, ?_⟩⟩
      rw [e, List.map_append, List.map_append]
      simp only [List.map_cons, List.map_nil, decide_eq_true ex, Bool.true_and]
    · rw [decide_eq_false ex]
      refine iteF ⟨s2, ?_⟩
      rw [e, List.map_append, List.map_append]
      simp only [List.map_cons, List.map_nil, decide_eq_false ex, Bool.false_and]
  · rintro ys H2 ⟨s2, rfl⟩ y hy
    have el : vs1.length = ps.length := hlen.symm
    rw [el, List.take_length]
    refine ⟨y, _, rfl, SqL.of upd_same, _, rfl, ?_⟩
    have eany : ((ps.map fun y => decide (y.1 = x) && coversB y.2 k).any id) = covered ps x k := by
      unfold covered
      rw [List.any_map]
      rfl
    rw [eany]
    have s3 := s1.trans (s2.trans (same_new (o := .lst ((ps.map fun y => decide (y.1 = x) && coversB y.2 k).map V.bl)) hy))
    generalize (upd H2 y (HO.lst ((ps.map fun y => decide (y.1 = x) && coversB y.2 k).map V.bl))) = H3 at s3 ⊢
    cases ec : covered ps x k with
    | true =>
      refine iteT ?_
      have z := q H3
      unfold askPs askR at z
      rw [ec, if_pos rfl] at z
      exact z (ls.keep L.ne s3) (Kp.of s3)
    | false =>
      refine iteF ?_
      obtain ⟨dx3, vs3, hl3, hp3, pr3⟩ := ls.keep L.ne s3
      have hlen3 := pr3.len
      refine ⟨_, rfl, l, CL, dx3, _, _, rfl, hl3, L.cl, L.nP, lp_pairs, .inl ⟨rfl, _, SqL.of hp3⟩, _, rfl, _, rfl, (by show 2 ≤ sizeLine; decide), fun t ht => ?_⟩
      have np : p ≠ t := ne_of_none hp3 ht
      have nl : l ≠ p := ne_of hl3 hp3 (by intro z; cases z)
      have hp4 : (upd H3 t (.tup [v, u])) p = some (.lst vs3) := by rw [upd_ne np]; exact hp3
      refine ⟨p, vs3, _, rfl, rfl, hp4, small1000 (by omega), ?_⟩
      have kp4 : Kp p H3 (upd (upd H3 t (.tup [v, u])) p (.lst (vs3 ++ [.ref t]))) := (Kp.of (same_new ht)).trans kp_upd
      have fs4 : FSame CL H3 (upd (upd H3 t (.tup [v, u])) p (.lst (vs3 ++ [.ref t]))) := kp4.fs hp3
      have hl4 := kp4 l _ nl hl3
      have ls4 : LS C CL K (upd (upd H3 t (.tup [v, u])) p (.lst (vs3 ++ [.ref t]))) l p (ps ++ [(x, k)]) :=
        ⟨dx3, _, hl4, upd_same, (pp pr3 fun _ _ g => g.keep L.ne fs4).app (.cons ⟨t, v, u, rfl, .inl (by rw [upd_ne (Ne.symm np), upd_same]), cPa.keep ((fs_same s3).trans fs4).ts hx, hu.keep L.ne ((fs_same s3).trans fs4)⟩ .nil)⟩
      have kp5 := (Kp.of (p := p) s3).trans kp4
      generalize (upd (upd H3 t (.tup [v, u])) p (HO.lst (vs3 ++ [.ref t]))) = H4 at hl4 ls4 kp5 ⊢
      obtain ⟨dx4, vs4, hl4', hp4', pr4⟩ := id ls4
      have hlen4 := pr4.len
      rw [List.length_append] at hlen4
      have hlen4' : vs4.length = ps.length + 1 := hlen4.symm
      refine ⟨_, rfl, l, dx4, _, rfl, hl4', lp_no (by decide +kernel), _, rfl, l, CL, dx4, _, _, rfl, hl4', L.cl, L.nP, lp_pairs, p, _, rfl, .inl (SqL.of hp4'), _, _, rfl, rfl, ?_⟩
      rw [hlen4']
      have ei : ((ps.length + 1 : Nat) : Int) - 1 = (ps.length : Nat) := by omega
      refine ⟨l, p, _, ps.length, congrArg (fun i => [V.ref l, V.int i]) ei, ls4, by rw [List.length_append]; exact Nat.lt_succ_self _, by rw [List.length_append]; exact hz, fun H5 s5 => ⟨rfl, ?_⟩⟩
      have z := q H5
      unfold askPs askR at z
      rw [ec, if_neg Bool.false_ne_true, Bool.false_or] at z
      have z2 := z (ls4.keep L.ne s5) (kp5.trans (Kp.of s5))
      have eo : (hind (ps ++ [(x, k)]) ps.length).isNone = decide (optV (hind (ps ++ [(x, k)]) ps.length) = .non) := by
        cases hind (ps ++ [(x, k)]) ps.length <;> rfl
      rw [eo] at z2
      exact z2
theorem ok_free (F : Fun K "free" "Locks.free" m_Locks_free f fd) (L : TxL K C CL) (GP : GM P w K mg base CX0 4 CL "waiting_pairs" ["self"] (spPairs C CL K waitL)) :
    FnOk P w K mg base CX0 5 f fd ["self", "p"] (spFree C CL K) := by
  refine F.ok sc_Locks_free (fun vs H Q E h => ?_) (fun cdv A outer s H vs Q E hr h => ?_)
  · obtain ⟨l, p, ps, v, x, rfl, _⟩ := h
    rfl
  obtain ⟨l, p, ps, v, x, rfl, ls, hz, hx, q⟩ := h
  have nd := sc_Locks_free.nd
  refine ⟨_, pss_cons (ps_set (i := 2) nd rfl (Or.inl rfl) (pm0 GP (pv 0) L.cl hr))
    (pss_cons (ps_fld (pv 0) (pe_lc sb_Locks_free_0 rfl (pi_list (pe_fld (pv 0) rfl)) (fun _ _ _ _ => pts_one (pt_cmpR (op_neCK K cPa (hun hr)) (pe_ix (r := rIxT K) ix_tup (pv 0) pe_int (fun _ _ => rfl)) (pv 1) (nomark _))) (fun _ _ _ _ => pv 0)) rfl)
    (pss_cons (ps_set (i := 3) nd rfl (Or.inr rfl) (pe_lc sb_Locks_free_1 rfl (pi_list (pm0 GP (pv 0) L.cl hr)) (fun _ _ _ _ => pts_nil) (fun _ _ _ _ => pe_ix (r := rIxT K) ix_tup (pv 0) pe_int (fun _ _ => rfl))))
    (pss_one (ps_ret (pe_lc sb_Locks_free_2 rfl (pi_list (pv 2)) (fun _ _ _ _ => pts_one (PW.pt (pw_and (pt_cmpR (op_neCK K cPa (hun hr)) (pe_ix (r := rIxT K) ix_tup (pv 0) pe_int (fun _ _ => rfl)) (pv 1) (nomark _)) (pw_and1 (pt_cmpR (op_notinCK K cPa (hun hr)) (pe_ix (r := rIxT K) ix_tup (pv 0) pe_int (fun _ _ => rfl)) (pv 2) rfl)))))
      (fun _ _ _ _ => pe_ix (r := rIxT K) ix_tup (pv 0) pe_int (fun _ _ => rfl))))))), ?_⟩
  obtain ⟨dx, vs, hl, hp, pr⟩ := id ls
  have hlen := pr.len
  -- waited
  refine ⟨_, rfl, l, dx, _, rfl, hl, lp_no (by decide +kernel), l, p, ps, rfl, ls, hz, fun w0 H1 us s1 nw hw pw => ?_⟩
  have ls1 := ls.keep L.ne s1
  obtain ⟨dx1, vs1, hl1, hp1, pr1⟩ := id ls1
  have hlen1 := pr1.len
  -- self.pairs
  refine ⟨_, rfl, l, CL, dx1, _, _, rfl, hl1, L.cl, L.nP, lp_pairs, p, rfl, ⟨_, SqL.of hp1⟩, ?_⟩
  refine lc_list (xs := vs1) (fun i ys H' => Same H1 H' ∧ Paired (PrO C K H') ((ps.take i).filter fun y => !decide (y.1 = x)) ys) ⟨Same.refl _, .nil⟩ (small (by omega)) (fun i ys H2 _ g => SqL.of (g.1 _ _ hp1)) ?_ ?_
  · rintro i u ys H2 hu ⟨s2, py⟩
    obtain ⟨y, ey, ry⟩ := pr1.get hu
    have ry2 := ry.keep L.ne (fs_same s2)
    have e : ps.take (i + 1) = ps.take i ++ [y] := by
      rw [List.take_succ, ey]
      rfl
    obtain ⟨a, pu, lu, rfl, ta, cp, lo⟩ := id ry2
    refine ⟨_, rfl, a, _, _, _, rfl, rfl, ta.sq, rfl, _, rfl, y.1, x, cp, cPa.keep (s1.trans s2).ts hx, _, rfl, ?_⟩
    by_cases ex : y.1 = x
    · rw [decide_eq_true ex]
      refine iteF ⟨s2, ?_⟩
      rw [e, List.filter_append]
      simp only [List.filter_cons, List.filter_nil, decide_eq_true ex, Bool.not_true, Bool.false_eq_true, if_false, List.append_nil]
      exact py
    · rw [decide_eq_false ex]
      refine iteT ⟨_, rfl, s2, ?_⟩
      rw [e, List.filter_append]
      simp only [List.filter_cons, List.filter_nil, decide_eq_false ex, Bool.not_false, if_true]
      exact py.app (.cons ry2 .nil)
  rintro ys H2 ⟨s2, py⟩ p' hp'
  rw [show vs1.length = ps.length from hlen1.symm, List.take_length] at py
  have s12 := s1.trans s2
  have np : l ≠ p' := ne_of_none (s2 _ _ hl1) hp'
  refine ⟨_, rfl, l, CL, dx1, _, rfl, (by rw [upd_ne np]; exact s2 _ _ hl1), L.cl, L.nP, (by show 1 < 1000; decide), ?_⟩
  rw [lp_put]
  have kp3 : Kp l H2 (upd (upd H2 p' (.lst ys)) l (.ins CL dx1 [("pairs", .ref p')])) := (Kp.of (same_new hp')).trans kp_upd
  have fs3 : FSame CL H2 (upd (upd H2 p' (.lst ys)) l (.ins CL dx1 [("pairs", .ref p')])) := kp3.fsi (s2 _ _ hl1)
  have ls3 : LS C CL K (upd (upd H2 p' (.lst ys)) l (.ins CL dx1 [("pairs", .ref p')])) l p' (freePs ps x) := ⟨dx1, ys, upd_same, by rw [upd_ne (Ne.symm np), upd_same], pp py fun _ _ g => g.keep L.ne fs3⟩
  have nwl : w0 ≠ l := fun z => by
    rw [z] at hw
    rw [hl1] at hw
    cases hw
  have hw3 := kp3 w0 _ nwl (s2 _ _ hw)
  have kp03 : Kp l H (upd (upd H2 p' (.lst ys)) l (.ins CL dx1 [("pairs", .ref p')])) := (Kp.of s12).trans kp3
  have fs03 : FSame CL H (upd (upd H2 p' (.lst ys)) l (.ins CL dx1 [("pairs", .ref p')])) := (fs_same s12).trans fs3
  have fs13 : FSame CL H1 (upd (upd H2 p' (.lst ys)) l (.ins CL dx1 [("pairs", .ref p')])) := (fs_same s2).trans fs3
  have hpf : H p' = none := s12.free hp'
  generalize (upd (upd H2 p' (.lst ys)) l (HO.ins CL dx1 [("pairs", V.ref p')])) = H3 at ls3 hw3 kp03 fs03 fs13 ⊢
  have hz3 : (freePs ps x).length ≤ 1000 := Nat.le_trans (List.length_filter_le _ _) hz
  -- still
  obtain ⟨dx3, vs3, hl3, hp3, pr3⟩ := id ls3
  refine ⟨_, rfl, l, dx3, _, rfl, hl3, lp_no (by decide +kernel), l, p', freePs ps x, rfl, ls3, hz3, fun w1 H4 us4 s4 nw4 hw4 pw4 => ⟨w1, rfl, ⟨_, SqL.of hw4⟩, ?_⟩⟩
  have hb4 : us4.length ≤ 1000 := by
    rw [← pw4.len]
    exact Nat.le_trans (waitL_len _) hz3
  refine lc_list (xs := us4) (fun i ys H' => Same H4 H' ∧ Paired (cPa.rp K H') (((waitL (freePs ps x)).take i).map (·.1)) ys) ⟨Same.refl _, .nil⟩ (small hb4) (fun i ys H2 _ g => SqL.of (g.1 _ _ hw4)) ?_ ?_
  · rintro i u ys H5 hu ⟨s5, py5⟩
    obtain ⟨y, ey, ry⟩ := pw4.get hu
    obtain ⟨a, pu, lu, rfl, ta, cp, lo⟩ := ry.keep L.ne (fs_same s5)
    refine tAllT ⟨_, rfl, a, _, _, _, rfl, rfl, ta.sq, rfl, s5, ?_⟩
    have e : (waitL (freePs ps x)).take (i + 1) = (waitL (freePs ps x)).take i ++ [y] := by
      rw [List.take_succ, ey]
      rfl
    rw [e, List.map_append]
    exact py5.app (.cons cp .nil)
  rintro ys5 H5 ⟨s5, py5⟩ st hst
  rw [show us4.length = (waitL (freePs ps x)).length from pw4.len.symm, List.take_length] at py5
  have s35 := s4.trans (s5.trans (same_new (o := .lst ys5) hst))
  have hst5 : (upd H5 st (.lst ys5)) st = some (.lst ys5) := upd_same
  have py6 := pp py5 fun a b (g : cPa.rp K H5 a b) => cPa.keep (same_new (o := .lst ys5) hst).ts g
  generalize (upd H5 st (HO.lst ys5)) = H6 at s35 hst5 py6 ⊢
  -- told
  refine ⟨_, rfl, w0, rfl, ⟨_, SqL.of (s35 _ _ hw3)⟩, ?_⟩
  have hb0 : us.length ≤ 1000 := by
    rw [← pw.len]
    exact Nat.le_trans (waitL_len _) hz
  refine lc_list (xs := us) (fun i ys H' => Same H6 H' ∧ Paired (cPa.rp K H') ((((waitL ps).take i).filter fun y => !decide (y.1 = x) && !decide (y.1 ∈ (waitL (freePs ps x)).map (·.1))).map (·.1)) ys) ⟨Same.refl _, .nil⟩ (small hb0) (fun i ys H2 _ g => SqL.of (g.1 _ _ (s35 _ _ hw3))) ?_ ?_
  · rintro i u ys H7 hu ⟨s7, py7⟩
    obtain ⟨y, ey, ry⟩ := pw.get hu
    obtain ⟨a, pu, lu, rfl, ta, cp, lo⟩ := ry.keep L.ne (fs13.trans (fs_same (s35.trans s7)))
    have e : (waitL ps).take (i + 1) = (waitL ps).take i ++ [y] := by
      rw [List.take_succ, ey]
      rfl
    refine ⟨_, rfl, a, _, _, _, rfl, rfl, ta.sq, rfl, _, rfl, y.1, x, cp, cPa.keep (fs03.trans (fs_same (s35.trans s7))).ts hx, _, rfl, ?_⟩
    by_cases ex : y.1 = x
    · rw [decide_eq_true ex]
      refine iteF (iteF ⟨s7, ?_⟩)
      rw [e, List.filter_append, List.map_append]
      simp only [List.filter_cons, List.filter_nil, decide_eq_true ex, Bool.not_true, Bool.false_and, Bool.false_eq_true, if_false, List.map_nil, List.append_nil]
      exact py7
    rw [decide_eq_false ex]
    refine iteT ⟨_, rfl, a, _, _, _, rfl, rfl, ta.sq, rfl, _, rfl, y.1, st, _, _, cp, rfl, .inl (SqL.of (s7 _ _ hst5)), pp py6 (fun _ _ g => cPa.keep s7.ts g), _, rfl, ?_⟩
    by_cases em : y.1 ∈ (waitL (freePs ps x)).map (·.1)
    · refine ite2 (fun c => absurd em (by simpa only [Bool.not_eq_true', decide_eq_false_iff_not] using c)) (fun _ => ⟨s7, ?_⟩)
      rw [e, List.filter_append, List.map_append]
      simp only [List.filter_cons, List.filter_nil, decide_eq_true em, Bool.not_true, Bool.and_false, Bool.false_eq_true, if_false, List.map_nil, List.append_nil]
      exact py7
    · refine ite2 (fun _ => ?_) (fun c => absurd (by simpa only [Bool.not_eq_true', decide_eq_false_iff_not] using em) c)
      refine ⟨_, rfl, a, _, _, _, rfl, rfl, ta.sq, rfl, s7, ?_⟩
      rw [e, List.filter_append, List.map_append]
      simp only [List.filter_cons, List.filter_nil, decide_eq_false em, decide_eq_false ex, Bool.not_false, Bool.and_true, if_true, List.map_cons, List.map_nil]
      exact py7.app (.cons cp .nil)
  · rintro ys7 H7 ⟨s7, py7⟩ r hr7
    rw [show us.length = (waitL ps).length from pw.len.symm, List.take_length] at py7
    have s8 := same_new (o := .lst ys7) hr7
    have s38 := s35.trans (s7.trans s8)
    refine q r p' _ ys7 (ls3.keep L.ne s38) hpf (kp03.trans (Kp.of s38)) ?_ upd_same (pp py7 fun _ _ g => cPa.keep s8.ts g)
    cases z : H r with
    | none => rfl
    | some o =>
      by_cases hrl : r = l
      · rw [hrl] at hr7
        rw [(s35.trans s7) _ _ hl3] at hr7
        cases hr7
      · rw [(s35.trans s7) _ _ (kp03 r o hrl z)] at hr7
        cases hr7
end
end K15

set_option maxHeartbeats 4000000
namespace K15
open PySem L2 Lo
section
variable {P : Program} {w : World} {K : PySem.W.Frag} {mg : Str → Option Value} {base : Heap} {f CL : Addr} {fd : FuncData} {C : Kd → Addr}
abbrev bmV : List Value := [.type "ValueError", .type "Exception", .type "BaseException", .type "object"]
theorem ok_askE {CWt : Addr} (F : Fun K "ask" "Locks.ask" m_Locks_ask f fd) (L : TxL K C CL) (mW : mg "Waiting" = some (.ref CWt)) (xW : PySem.W.excIn K CWt bmV "ValueError.__new__" = true) (GW : GM P w K mg base CX0 4 CL "waiting_place" ["self", "p"] (spWPlace C CL K)) :
    FnOk P w K mg base (CXE P w) 21 f fd ["self", "p", "lock"] (spAskE C CL CWt K) := by
  refine F.okE sc_Locks_ask (fun vs H Q E h => ?_) (fun cdv A outer s H vs Q E hr h => ?_)
  · obtain ⟨l, p, ps, v, x, u, k, rfl, _⟩ := h
    rfl
  obtain ⟨l, p, ps, v, x, u, k, rfl, ls, hz, hx, hu, ⟨j, hw⟩, q⟩ := h
  refine ⟨_, pss_cons (ps_if (pt_cmpR op_notN (pm GW (pv 0) L.cl hr (pa_cons (pv 1) pa_nil)) pe_non (nomark _)) (pss_one (ps_raise def_cx (hr.hd (by decide)) rfl mW xW PySem.F.excBase_ValueError (pa_cons pe_str pa_nil))) pss_nil) pss_never, ?_⟩
  obtain ⟨dx, us, hl, hp, pr⟩ := id ls
  refine ⟨_, rfl, l, dx, _, rfl, hl, lp_no (by decide +kernel), _, rfl, l, p, ps, v, x, rfl, ls, Nat.le_of_lt hz, hx, fun H1 s1 => ⟨rfl, _, rfl, ?_⟩⟩
  rw [hw]
  exact iteT ⟨(by show 1 ≤ 1; decide), fun ea => q ea H1 s1⟩
theorem ok_hindered (F : Fun K "_law_hindered" "_law_hindered" s__law_hindered f fd) (B : TxB mg) (GB : GF P w K mg base CX0 1 "_law_beside" ["_law_one", "_law_other"] (spLBeside K)) : FnOk P w K mg base CX0 21 f fd ["_law_held", "_law_waiting"] (spHindered K) := by
  refine F.ok sc__law_hindered (fun vs H Q E h => ?_) (fun cdv A outer s H vs Q E hr h => ?_)
  · obtain ⟨q1, q2, hd, wt, us1, us2, rfl, _⟩ := h
    rfl
  obtain ⟨q1, q2, hd, wt, us1, us2, rfl, h1, h2, p1, p2, hz1, hz2, nd2, hh, q⟩ := h
  have nd := sc__law_hindered.nd
  have hl2 := p2.len
  refine ⟨_, pss_cons (ps_for PassesOwn.never rfl (pi_range1 rfl B.range (pa_cons (pe_callB call_len_seq rfl B.len PySem.boot_len (pa_cons (pv 1) pa_nil)) pa_nil)) (pg_name (i := 2) nd rfl (Or.inl rfl))
      (pss_cons (ps_asg (pe_ix (r := rIxL K) ix_list (pv 1) (pv 2) (fun _ _ => rfl)) (pg_tup (hr.hd (by decide)) (pgs_cons (pg_name (i := 3) nd rfl (Or.inr rfl)) (pgs_cons (pg_name (i := 4) nd rfl (Or.inr rfl)) pgs_nil))))
      (pss_cons (ps_if (pt_cmpR (op_inC cPa (hun hr)) (pv 3) (pe_lcM sb__law_hindered_0 (fun _ _ _ _ => pg_pairK K (hr.hd (by decide)) sb__law_hindered_0.nd rfl rfl rfl rfl) rfl (pi_list (pe_slice sl_list (pv 1) po_none (po_some (pv 2)))) (fun _ _ _ _ => pts_nil) (fun _ _ _ _ => pv 0)) rfl) pss_never pss_nil)
      (pss_cons (ps_setLCM (j := 5) nd rfl (Or.inl rfl) sb__law_hindered_1 (fun _ _ _ _ => pg_pairK K (hr.hd (by decide)) sb__law_hindered_1.nd rfl rfl rfl rfl) rfl (pi_list (pe_op op_cat (pv 0) (pe_slice sl_list (pv 1) po_none (po_some (pv 2))))) (fun _ _ _ _ => pts_one (pt_cmpR (op_neCK K cPa (hun hr)) (pv 0) (pv 2) (nomark _))) (fun _ _ _ _ => pv 1))
      (pss_one (ps_if (pt_cmpR (op_eqL cLk (hun hr)) (pe_lc sb__law_hindered_2 rfl (pi_list (pv 5)) (fun _ _ _ _ => pts_one (pt_not (pt_val (pc GB hr (pa_cons (pv 0) (pa_cons (pv 1) pa_nil)))))) (fun _ _ _ _ => pv 0)) (pe_lst pa_nil) (nomark _)) pss_never pss_nil))))))
    (pss_one (ps_ret pe_bl)), ?_⟩
  refine ⟨_, rfl, q2, _, rfl, .inl (SqL.of h2), _, rfl, by omega, by omega, ?_⟩
  refine for_range (n := us2.length) (fun i σ H' => Same H H' ∧ ∃ x2 x3 x4 x5, σ = [some (.ref q1), some (.ref q2), x2, x3, x4, x5]) ⟨Same.refl _, none, none, none, none, rfl⟩ ?_ ?_
  · rintro i σ H1 hi ⟨s1, x2, x3, x4, x5, rfl⟩
    have e0 : (0 : Int) + ((i : Nat) : Int) = ((i : Nat) : Int) := Int.zero_add _
    rw [e0]
    have hu : us2[i]? = some us2[i] := List.getElem?_eq_getElem hi
    obtain ⟨x, ex, rx⟩ := p2.get hu
    obtain ⟨a, vp, vt, eu, ta, cp, ct⟩ := id (cPr.keep s1.ts rx)
    rw [eu] at hu
    refine ⟨_, rfl, _, rfl, q2, _, _, _, rfl, rfl, SqL.of (s1 _ _ h2), atI_nat hu, a, [vp, vt], rfl, ta.sq, rfl, vp, [vt], rfl, vt, [], rfl, rfl, ?_⟩
    have hA : wt = wt.take i ++ x :: wt.drop (i + 1) := by
      have hx : i < wt.length := by rw [hl2]; exact hi
      have : x = wt[i] := by rw [List.getElem?_eq_getElem hx] at ex; exact (Option.some.inj ex).symm
      rw [this, List.getElem_cons_drop, List.take_append_drop]
    -- none twice
    refine ⟨_, rfl, _, rfl, _, rfl, _, rfl, q2, us2, rfl, SqL.of (s1 _ _ h2), fun w1 hw1 => ⟨w1, rfl, ⟨_, SqL.of upd_same⟩, ?_⟩⟩
    rw [cut_take' us2 i (Nat.le_of_lt hi)]
    have s2 := same_new (o := .lst (us2.take i)) hw1
    have p2' := paired_take i (pp p2 fun _ _ z => cPr.keep (s1.trans s2).ts z)
    refine lc_fm2 (c := cPa) (c2 := cLk) (d := cPa) p2' (SqL.of upd_same) (small (by rw [List.length_take]; omega)) (fun _ => true) (fun y => y.1) (fun y u1 u2 H5 Q5 _ r1 r2 s5 hQ => hQ _ (Same.refl _)) (fun y u1 u2 H5 Q5 _ r1 r2 s5 hQ => ⟨_, rfl, hQ _ _ (Same.refl _) r1⟩) ?_
    intro zs H3 s3 pz w2 hw2
    rw [filt_true] at pz
    have s4 := same_new (o := .lst zs) hw2
    have s14 := s2.trans (s3.trans s4)
    refine ⟨x.1, w2, zs, (wt.take i).map (·.1), cPa.keep s14.ts cp, rfl, .inl (SqL.of upd_same), pp pz (fun _ _ z => cPa.keep s4.ts z), _, rfl, ite2 (fun c => ?_) (fun _ => ?_)⟩
    · exfalso
      have hm : x.1 ∈ (wt.take i).map (·.1) := by simpa only [decide_eq_true_eq] using c
      rw [hA, List.map_append, List.map_cons] at nd2
      exact (List.nodup_append.mp nd2).2.2 _ hm _ List.mem_cons_self rfl
    generalize (upd H3 w2 (HO.lst zs)) = H4 at s14 ⊢
    have s04 := s1.trans s14
    -- the others
    refine ⟨_, rfl, _, rfl, _, rfl, _, rfl, q2, us2, rfl, SqL.of (s04 _ _ h2), fun w3 hw3 => ?_⟩
    rw [cut_take' us2 i (Nat.le_of_lt hi)]
    have s5 := same_new (o := .lst (us2.take i)) hw3
    have hlt : (us2.take i).length ≤ 400 := by rw [List.length_take]; omega
    refine ⟨q1, w3, us1, us2.take i, rfl, rfl, s5 _ _ (s04 _ _ h1), upd_same, Nat.le_trans (Nat.add_le_add hz1 hlt) (by decide), fun w4 hw4 => ⟨w4, rfl, ⟨_, SqL.of upd_same⟩, ?_⟩⟩
    have s6 := same_new (o := .lst (us1 ++ us2.take i)) hw4
    have s46 := s5.trans s6
    have s06 := s04.trans s46
    have pc6 : Paired (cPr.rp K (upd (upd H4 w3 (.lst (us2.take i))) w4 (.lst (us1 ++ us2.take i)))) (hd ++ wt.take i) (us1 ++ us2.take i) := (pp p1 fun _ _ z => cPr.keep s06.ts z).app (paired_take i (pp p2 fun _ _ z => cPr.keep s06.ts z))
    refine lc_fm2 (c := cPa) (c2 := cLk) (d := cLk) pc6 (SqL.of upd_same) (by rw [List.length_append]; exact Nat.le_trans (Nat.add_le_add hz1 hlt) (by decide)) (fun y => !decide (y.1 = x.1)) (fun y => y.2)
      (fun y u1 u2 H5 Q5 _ r1 r2 s7 hQ => ⟨_, rfl, _, rfl, y.1, x.1, r1, cPa.keep (s14.trans (s46.trans s7)).ts cp, _, rfl, hQ _ (Same.refl _)⟩) (fun y u1 u2 H5 Q5 _ r1 r2 s7 hQ => ⟨_, rfl, hQ _ _ (Same.refl _) r2⟩) ?_
    intro zs7 H7 s7 pz7 w5 hw5
    have s8 := same_new (o := .lst zs7) hw5
    have s08 := s06.trans (s7.trans s8)
    have s18 := s14.trans (s46.trans (s7.trans s8))
    have pz8 := pp pz7 fun a b (z : cLk.rp K H7 a b) => cLk.keep s8.ts z
    have hw58 : (upd H7 w5 (.lst zs7)) w5 = some (.lst zs7) := upd_same
    generalize (upd H7 w5 (HO.lst zs7)) = H8 at s08 s18 pz8 hw58 ⊢
    refine ⟨_, rfl, w5, rfl, ⟨_, SqL.of hw58⟩, ?_⟩
    have hl8 : zs7.length ≤ 800 := by
      rw [← pz8.len, List.length_map]
      refine Nat.le_trans (List.length_filter_le _ _) ?_
      rw [List.length_append, p1.len]
      have h3 : (wt.take i).length ≤ us2.length := by rw [List.length_take]; omega
      omega
    refine lc_fm (c := cLk) (d := cLk) pz8 (SqL.of hw58) (small (by omega)) (fun j => !besideB j x.2) (fun j => j)
      (fun y u H9 Q9 _ ry s9 hQ => ⟨_, rfl, _, rfl, _, _, y, x.2, rfl, ry, cLk.keep (s18.trans s9).ts ct, fun H10 s10 => ⟨_, rfl, hQ H10 s10⟩⟩) (fun y u H9 Q9 _ ry s9 hQ => ⟨_, rfl, hQ _ _ (Same.refl _) ry⟩) ?_
    intro zs9 H9 s9 pz9 w6 hw6
    have s10 := same_new (o := .lst zs9) hw6
    refine ⟨(by show 0 ≤ sizeLine; decide), fun e0 he0 => ?_⟩
    have s11 := same_new (o := .lst []) he0
    rw [List.map_id'] at pz9
    refine ⟨_, [], ⟨w6, zs9, rfl, SqL.of (s11 _ _ upd_same), pp pz9 fun _ _ z => cLk.keep (s10.trans s11).ts z⟩, ⟨e0, [], rfl, SqL.of upd_same, .nil⟩, _, rfl, ite2 (fun c => ?_) (fun _ => ?_)⟩
    · exfalso
      have en := of_decide_eq_true c
      obtain ⟨a0, ha0, no⟩ := hh _ _ _ hA
      have n1 : ¬ a0.1 = x.1 := fun z => no (.inl z)
      have n2 : besideB a0.2 x.2 = false := Bool.eq_false_iff.mpr fun z => no (.inr z)
      have m1 : a0.2 ∈ (((hd ++ wt.take i).filter fun y => !decide (y.1 = x.1)).map fun y => y.2).filter fun j => !besideB j x.2 :=
        List.mem_filter.mpr ⟨List.mem_map.mpr ⟨a0, List.mem_filter.mpr ⟨List.mem_append.mpr ha0, by rw [decide_eq_false n1]; rfl⟩, rfl⟩, by rw [n2]; rfl⟩
      rw [en] at m1
      cases m1
    · exact ⟨s08.trans (s9.trans (s10.trans s11)), _, _, _, _, rfl⟩
  · rintro σ H1 ⟨s1, x2, x3, x4, x5, rfl⟩
    exact q H1 s1
end
end K15

set_option maxHeartbeats 4000000
namespace K15
open PySem L2 Lo
section
variable {P : Program} {w : World} {K : PySem.W.Frag} {mg : Str → Option Value} {base : Heap} {f CL : Addr} {fd : FuncData} {C : Kd → Addr}
/-- the classes of errors -/
structure TxE (K : PySem.W.Frag) (mg : Str → Option Value) (CWt CP a1 a2 a3 a4 a5 a6 a7 b1 b2 b3 b4 : Addr) : Prop where
  mW : mg "Waiting" = some (.ref CWt)
  xW : PySem.W.excIn K CWt bmV "ValueError.__new__" = true
  mP : mg "PactError" = some (.ref CP)
  xP : PySem.W.excIn K CP bmV "ValueError.__new__" = true
  sub : PySem.W.mroIn K CWt (.ref CP) = some true
  vE : mg "ValueError" = none
  kV : PySem.W.kitOne K (.ref CWt) (.type "ValueError") = some true
  kS : PySem.W.kitOne K (.ref CWt) (.ref CWt) = some true
  ek : ExcK K CWt
  m1 : mg "Fallen" = some (.ref a1)
  m2 : mg "NoHouse" = some (.ref a2)
  m3 : mg "NoLetter" = some (.ref a3)
  m4 : mg "NoNeed" = some (.ref a4)
  m5 : mg "NotBound" = some (.ref a5)
  m6 : mg "NoThing" = some (.ref a6)
  m7 : mg "Standing" = some (.ref a7)
  n1 : mg "NoText" = some (.ref b1)
  n2 : mg "NoPlace" = some (.ref b2)
  n3 : mg "NoWayBack" = some (.ref b3)
  n4 : mg "NoFit" = some (.ref b4)
  kA : PySem.W.kitAny K (.ref CWt) ([a1, a2, a3, a4, a5, a6, a7].map Value.ref) = some false
  kB : PySem.W.kitAny K (.ref CWt) ([b1, b2, b3, b4].map Value.ref) = some false
theorem boot_vErr : bootBuiltins "ValueError" = some (.type "ValueError") := by decide +kernel
theorem ok_refused {CWt CP a1 a2 a3 a4 a5 a6 a7 b1 b2 b3 b4 fH fW fA : Addr} {dH dW dA : FuncData} (F : Fun K "_law_refused" "_law_refused" s__law_refused f fd) (B : TxB mg) (L : TxL K C CL) (Y : TxE K mg CWt CP a1 a2 a3 a4 a5 a6 a7 b1 b2 b3 b4)
    (GO : GF P w K mg base CX0 3 "lock_of" ["told"] (spLockOf C K)) (GH : GM P w K mg base CX0 5 CL "held" ["self"] (spTolds C CL K heldL)) (GW : GM P w K mg base CX0 5 CL "waiting" ["self"] (spTolds C CL K waitL))
    (mA : Meth K CL "ask" fA) (GA : FnOk P w K mg base (CXE P w) 21 fA dA ["self", "p", "lock"] (spAskE C CL CWt K)) (bA : Binds K dA ["self", "p", "lock"] [])
    (mH : Meth K CL "held" fH) (HH : ∀ b, Mod K mg b → FnOk P w K mg b CX0 5 fH dH ["self"] (spTolds C CL K heldL)) (bH : Binds K dH ["self"] [])
    (mW : Meth K CL "waiting" fW) (HW : ∀ b, Mod K mg b → FnOk P w K mg b CX0 5 fW dW ["self"] (spTolds C CL K waitL)) (bW : Binds K dW ["self"] []) : FnOk P w K mg base CX0 23 f fd ["_law_locks", "_law_p", "_law_told_here"] (spRefused C CL K) := by
  refine F.ok sc__law_refused (fun vs H Q E h => ?_) (fun cdv A outer s H vs Q E hr h => ?_)
  · obtain ⟨l, p, ps, v, x, t, k, rfl, _⟩ := h
    rfl
  obtain ⟨l, p, ps, v, x, t, k, rfl, ls, hz, hx, ht, hw, q⟩ := h
  have nd := sc__law_refused.nd
  have hr21 := hr.mono (show 21 ≤ 22 by decide)
  have hr5 := hr.mono (show 5 ≤ 22 by decide)
  have hrH : ∀ ev, Room 5 ((A.deeper (PyProof.Rows.envOfC (Str.ofString "_law_refused") (defScope s__law_refused) s.heap.objs.size f cdv)).mark (some ev)) := fun ev => ⟨fun z => absurd z (by decide), hr5.dp, hr5.un⟩
  refine ⟨_, pss_cons (ps_set (i := 3) nd rfl (Or.inl rfl) (pm0 GH (pv 0) L.cl hr)) (pss_cons (ps_set (i := 4) nd rfl (Or.inl rfl) (pm0 GW (pv 0) L.cl hr))
    (pss_cons (ps_tryAs (i := 5) (C := CWt) rfl rfl rfl nd rfl rfl (pex_meth (pv 0) L.cl mA GA hr21 bA (pa_cons (pv 1) (pa_cons (pc GO hr (pa_cons (pv 2) pa_nil)) pa_nil))) rfl Y.mP (takes_sub Y.mW Y.xW Y.mP Y.xP (by decide +kernel) Y.sub)
      (fun ea => pss_cons (ps_set (i := 6) nd rfl (Or.inl rfl) (pe_callB (call_isinstET Y.ek) rfl B.isi PyProof.Rows.boot_isinstance (pa_cons (pv 5) (pa_cons (pe_tup (pa_cons (pe_glob (v := .ref a1) rfl Y.m1 rfl) (pa_cons (pe_glob (v := .ref a2) rfl Y.m2 rfl) (pa_cons (pe_glob (v := .ref a3) rfl Y.m3 rfl) (pa_cons (pe_glob (v := .ref a4) rfl Y.m4 rfl) (pa_cons (pe_glob (v := .ref a5) rfl Y.m5 rfl) (pa_cons (pe_glob (v := .ref a6) rfl Y.m6 rfl) (pa_cons (pe_glob (v := .ref a7) rfl Y.m7 rfl) pa_nil)))))))) pa_nil))))
        (pss_cons (ps_set (i := 6) nd rfl (Or.inl rfl) (pe_or (pv 6) (pe_one (pe_callB (call_isinstET Y.ek) rfl B.isi PyProof.Rows.boot_isinstance (pa_cons (pv 5) (pa_cons (pe_tup (pa_cons (pe_glob (v := .ref b1) rfl Y.n1 rfl) (pa_cons (pe_glob (v := .ref b2) rfl Y.n2 rfl) (pa_cons (pe_glob (v := .ref b3) rfl Y.n3 rfl) (pa_cons (pe_glob (v := .ref b4) rfl Y.n4 rfl) pa_nil))))) pa_nil))))))
        (pss_cons (ps_if (PW.pt (pw_or (pt_val (pv 6)) (pw_or (pt_not (pt_val (pe_callB (call_isinstEC Y.ek) rfl B.isi PyProof.Rows.boot_isinstance (pa_cons (pv 5) (pa_cons (pe_glob (v := .ref CWt) rfl Y.mW rfl) pa_nil))))) (pw_or1 (pt_not (pt_val (pe_callB (call_isinstE Y.ek) rfl B.isi PyProof.Rows.boot_isinstance (pa_cons (pv 5) (pa_cons (pe_bltn (v := .ty "ValueError") rfl Y.vE boot_vErr rfl) pa_nil))))))))) pss_never pss_nil)
        (pss_one (ps_ret (pe_and (pe_cmpR (op_eqL cPr (hun (hrH _))) (pe_methH0 (ea := ea) (CE0 := CWt) (pv 0) L.cl mH HH (hrH _) bH rfl rfl rfl) (pv 3) (nomark _)) (pe_one (pe_cmpR (op_eqL cPr (hun (hrH _))) (pe_methH0 (ea := ea) (CE0 := CWt) (pv 0) L.cl mW HW (hrH _) bW rfl rfl rfl) (pv 4) (nomark _))))))))))
    pss_never)), ?_⟩
  obtain ⟨dx, us, hl, hp, pr⟩ := id ls
  refine ⟨_, rfl, l, dx, _, rfl, hl, lp_no (by decide +kernel), l, p, ps, rfl, ls, Nat.le_of_lt hz, fun q1 H1 us1 s1 n1 hq1 pq1 => ?_⟩
  have ls1 := ls.keep L.ne s1
  refine ⟨_, rfl, l, dx, _, rfl, s1 _ _ hl, lp_no (by decide +kernel), l, p, ps, rfl, ls1, Nat.le_of_lt hz, fun q2 H2 us2 s2 n2 hq2 pq2 => ?_⟩
  have ls2 := ls1.keep L.ne s2
  have s02 := s1.trans s2
  refine ⟨_, rfl, l, dx, _, rfl, s02 _ _ hl, lp_no (by decide +kernel), _, rfl, _, rfl, _, k, rfl, cLk.keep s02.ts ht, fun u H3 s3 lo => ?_⟩
  have s03 := s02.trans s3
  refine ⟨l, p, ps, v, x, u, k, rfl, ls2.keep L.ne s3, hz, cPa.keep s03.ts hx, lo, hw, fun ea H4 s4 => ⟨ea, rfl, rfl, fun ne => ?_⟩⟩
  have s04 := s03.trans s4
  have s24 := s3.trans s4
  -- in the handler
  have s5 : Same H4 (upd H4 ea (ExcO ea CWt)) := same_new ne
  have hE : (upd H4 ea (ExcO ea CWt)) ea = some (ExcO ea CWt) := upd_same
  generalize (upd H4 ea (ExcO ea CWt)) = H5 at s5 hE ⊢
  refine ⟨_, rfl, (by show 7 ≤ sizeLine; decide), fun t1 ht1 => ?_⟩
  have s6 := same_new (o := .tup [.ref a1, .ref a2, .ref a3, .ref a4, .ref a5, .ref a6, .ref a7]) ht1
  refine ⟨ea, t1, [a1, a2, a3, a4, a5, a6, a7], false, rfl, s6 _ _ hE, upd_same, Y.kA, ?_⟩
  refine ⟨_, rfl, false, rfl, iteF ⟨_, rfl, (by show 4 ≤ sizeLine; decide), fun t2 ht2 => ?_⟩⟩
  have s7 := same_new (o := .tup [.ref b1, .ref b2, .ref b3, .ref b4]) ht2
  refine ⟨ea, t2, [b1, b2, b3, b4], false, rfl, s7 _ _ (s6 _ _ hE), upd_same, Y.kB, ?_⟩
  have s57 := s6.trans s7
  have hE7 := s57 _ _ hE
  have s47 := s5.trans s57
  generalize (upd (upd H5 t1 _) t2 _) = H7 at s57 hE7 s47 ⊢
  refine ⟨_, rfl, _, rfl, iteF ?_⟩
  refine ⟨_, rfl, ea, CWt, true, rfl, hE7, Y.kS, _, rfl, iteF ?_⟩
  refine ⟨_, rfl, ea, _, true, rfl, hE7, Y.kV, _, rfl, iteF ?_⟩
  have sd : Same H4 (del H7 ea) := same_del ne s47
  have ls4 := (ls2.keep L.ne s3).keep L.ne s4
  refine ⟨_, rfl, l, dx, _, rfl, s47 _ _ (s04 _ _ hl), lp_no (by decide +kernel), hE7, l, p, ps, rfl, ls4.keep L.ne sd, Nat.le_of_lt hz, fun q3 H8 us3 s8 n3 hq3 pq3 h8e => ?_⟩
  have s48 : Same H4 H8 := sd.trans s8
  have s49 : Same H4 (upd H8 ea (ExcO ea CWt)) := same_back ne s48
  have q3ne : q3 ≠ ea := fun z => by rw [z, h8e] at hq3; cases hq3
  have s8n : Same H8 (upd H8 ea (ExcO ea CWt)) := same_new h8e
  have hq3' := s8n _ _ hq3
  have pq3' := pp pq3 fun a b (z : cPr.rp K H8 a b) => cPr.keep s8n.ts z
  have hE9 : (upd H8 ea (ExcO ea CWt)) ea = some (ExcO ea CWt) := upd_same
  generalize (upd H8 ea (ExcO ea CWt)) = H9 at s49 s8n hq3' pq3' hE9 ⊢
  have s19 := s2.trans (s24.trans s49)
  refine ⟨_, rfl, heldL ps, heldL ps, ⟨q3, us3, rfl, SqL.of hq3', pq3'⟩, ⟨q1, us1, rfl, SqL.of (s19 _ _ hq1), pp pq1 fun _ _ z => cPr.keep s19.ts z⟩, _, rfl, ite2 (fun _ => ?_) (fun c => absurd (decide_eq_true rfl) c)⟩
  refine ⟨_, rfl, l, dx, _, rfl, s49 _ _ (s04 _ _ hl), lp_no (by decide +kernel), hE9, l, p, ps, rfl, ls4.keep L.ne (same_del ne s49), Nat.le_of_lt hz, fun q4 H10 us4 s10 n4 hq4 pq4 h10e => ?_⟩
  have s4a : Same H4 H10 := (same_del ne s49).trans s10
  have s4b : Same H4 (upd H10 ea (ExcO ea CWt)) := same_back ne s4a
  have s10n : Same H10 (upd H10 ea (ExcO ea CWt)) := same_new h10e
  have s2b := s24.trans s4b
  refine ⟨_, rfl, waitL ps, waitL ps, ⟨q4, us4, rfl, SqL.of (s10n _ _ hq4), pp pq4 fun _ _ z => cPr.keep s10n.ts z⟩, ⟨q2, us2, rfl, SqL.of (s2b _ _ hq2), pp pq2 fun _ _ z => cPr.keep s2b.ts z⟩, ?_⟩
  have z := q _ (s04.trans s4b)
  rw [decide_eq_true rfl]
  exact z
theorem ok_asked (F : Fun K "_law_asked" "_law_asked" s__law_asked f fd) (B : TxB mg) (L : TxL K C CL) (GO : GF P w K mg base CX0 3 "lock_of" ["told"] (spLockOf C K)) (GW : GM P w K mg base CX0 5 CL "waiting" ["self"] (spTolds C CL K waitL))
    (GK : GM P w K mg base CX0 21 CL "ask" ["self", "p", "lock"] (spAsk C CL K)) (GR : GF P w K mg base CX0 23 "_law_refused" ["_law_locks", "_law_p", "_law_told_here"] (spRefused C CL K)) : FnOk P w K mg base CX0 24 f fd ["_law_locks", "_law_p", "_law_told_here"] (spAsked C CL K) := by
  refine F.ok sc__law_asked (fun vs H Q E h => ?_) (fun cdv A outer s H vs Q E hr h => ?_)
  · obtain ⟨l, p, ps, v, x, t, k, rfl, _⟩ := h
    rfl
  obtain ⟨l, p, ps, v, x, t, k, rfl, ls, hz, hx, ht, qw, qn⟩ := h
  have nd := sc__law_asked.nd
  refine ⟨_, pss_cons (ps_if (pt_cmpR (op_inC cPa (hun hr)) (pv 1) (pe_lcM sb__law_asked_0 (fun _ _ _ _ => pg_pairK K (hr.hd (by decide)) sb__law_asked_0.nd rfl rfl rfl rfl) rfl (pi_list (pm0 GW (pv 0) L.cl hr)) (fun _ _ _ _ => pts_nil) (fun _ _ _ _ => pv 0)) rfl)
      (pss_one (ps_ret (pc GR hr (pa_cons (pv 0) (pa_cons (pv 1) (pa_cons (pv 2) pa_nil)))))) pss_nil)
    (pss_cons (ps_set (i := 3) nd rfl (Or.inl rfl) (pm GK (pv 0) L.cl hr (pa_cons (pv 1) (pa_cons (pc GO hr (pa_cons (pv 2) pa_nil)) pa_nil))))
    (pss_cons (ps_set (i := 4) nd rfl (Or.inl rfl) (pm0 GW (pv 0) L.cl hr))
    (pss_cons (ps_if (pt_cmpR op_is_bl (pv 3) pe_bl (nomark _)) (pss_one (ps_ret (pe_cmpR (op_notinC cPa (hun hr)) (pv 1) (pe_lcM sb__law_asked_1 (fun _ _ _ _ => pg_pairK K (hr.hd (by decide)) sb__law_asked_1.nd rfl rfl rfl rfl) rfl (pi_list (pv 4)) (fun _ _ _ _ => pts_nil) (fun _ _ _ _ => pv 0)) rfl))) pss_nil)
    (pss_one (ps_ret (pe_and (pe_cmpR op_is_bl (pv 3) pe_bl (nomark _)) (pe_one (pe_cmpR (op_eqL cPr (hun hr)) (pe_slice sl_list (pv 4) (po_some (pe_un un_neg pe_int)) po_none) (pe_lst (pa_cons (pe_tup (pa_cons (pv 1) (pa_cons (pv 2) pa_nil))) pa_nil)) (nomark _)))))))))  , ?_⟩
  obtain ⟨dx, us, hl, hp, pr⟩ := id ls
  have hz1 : ps.length ≤ 1000 := by omega
  refine ⟨_, rfl, _, rfl, l, dx, _, rfl, hl, lp_no (by decide +kernel), l, p, ps, rfl, ls, hz1, fun q1 H1 us1 s1 n1 hq1 pq1 => ⟨q1, rfl, ⟨_, SqL.of hq1⟩, ?_⟩⟩
  refine lc_fm2 (c := cPa) (c2 := cLk) (d := cPa) pq1 (SqL.of hq1) (small (by rw [← pq1.len]; exact Nat.le_trans (waitL_len ps) hz1)) (fun _ => true) (fun y => y.1) (fun y u1 u2 H5 Q5 _ r1 r2 s5 hQ => hQ _ (Same.refl _)) (fun y u1 u2 H5 Q5 _ r1 r2 s5 hQ => ⟨_, rfl, hQ _ _ (Same.refl _) r1⟩) ?_
  intro zs H2 s2 pz wl hwl
  rw [filt_true] at pz
  have s3 := same_new (o := .lst zs) hwl
  have s03 := s1.trans (s2.trans s3)
  refine ⟨x, wl, zs, (waitL ps).map (·.1), cPa.keep s03.ts hx, rfl, .inl (SqL.of upd_same), pp pz (fun _ _ z => cPa.keep s3.ts z), _, rfl, ?_⟩
  generalize (upd H2 wl (HO.lst zs)) = H3 at s03 ⊢
  have ls3 := ls.keep L.ne s03
  refine ite2 (fun c => ?_) (fun c => ?_)
  · have hm : x ∈ (waitL ps).map (·.1) := by simpa only [decide_eq_true_eq] using c
    have hw : ∃ j, wplace ps x = some j := by
      cases e : wplace ps x with
      | none => exact absurd hm (wplace_iff.mp e)
      | some j => exact ⟨j, rfl⟩
    exact ⟨_, rfl, _, rfl, _, rfl, l, p, ps, v, x, t, k, rfl, ls3, by omega, cPa.keep s03.ts hx, cLk.keep s03.ts ht, hw, fun H4 s4 => qw hw H4 (s03.trans s4)⟩
  have hm : x ∉ (waitL ps).map (·.1) := by simpa only [decide_eq_true_eq] using c
  have hw := wplace_iff.mpr hm
  refine ⟨_, rfl, l, dx, _, rfl, s03 _ _ hl, lp_no (by decide +kernel), _, rfl, _, rfl, _, k, rfl, cLk.keep s03.ts ht, fun u H4 s4 lo => ?_⟩
  have s04 := s03.trans s4
  refine ⟨l, p, ps, v, x, u, k, rfl, ls3.keep L.ne s4, by omega, cPa.keep s04.ts hx, lo, hw, fun H5 ls5 kp5 => ?_⟩
  have kp05 : Kp p H H5 := (Kp.of s04).trans kp5
  have fs5 : FSame CL H H5 := kp05.fs hp
  have hz5 : (askPs ps x k).length ≤ 1000 := Nat.le_trans (askPs_len ps x k) (by omega)
  obtain ⟨dx5, us5, hl5, hp5, pr5⟩ := id ls5
  refine ⟨_, rfl, l, dx5, _, rfl, hl5, lp_no (by decide +kernel), l, p, _, rfl, ls5, hz5, fun q2 H6 us2 s6 n2 hq2 pq2 => ?_⟩
  have fs6 := fs5.trans (fs_same s6)
  have done : ∀ H', Same H6 H' → Q (.bl true) H' := fun H' s' => qn hw H' ((ls5.keep L.ne s6).keep L.ne s') (kp05.trans (Kp.of (s6.trans s')))
  cases er : askR ps x k with
  | true =>
    refine ⟨_, rfl, true, true, rfl, rfl, _, rfl, iteT ?_⟩
    refine ⟨_, rfl, _, rfl, q2, rfl, ⟨_, SqL.of hq2⟩, ?_⟩
    refine lc_fm2 (c := cPa) (c2 := cLk) (d := cPa) pq2 (SqL.of hq2) (small (by rw [← pq2.len]; exact Nat.le_trans (waitL_len _) hz5)) (fun _ => true) (fun y => y.1) (fun y u1 u2 H7 Q7 _ r1 r2 s7 hQ => hQ _ (Same.refl _)) (fun y u1 u2 H7 Q7 _ r1 r2 s7 hQ => ⟨_, rfl, hQ _ _ (Same.refl _) r1⟩) ?_
    intro zs7 H7 s7 pz7 w7 hw7
    rw [filt_true] at pz7
    have s8 := same_new (o := .lst zs7) hw7
    refine ⟨x, w7, zs7, (waitL (askPs ps x k)).map (·.1), cPa.keep (fs6.trans (fs_same (s7.trans s8))).ts hx, rfl, .inl (SqL.of upd_same), pp pz7 (fun _ _ z => cPa.keep s8.ts z), ?_⟩
    have z := done _ (s7.trans s8)
    have z' : ∀ b : Bool, b = true → Q (.bl b) _ := fun b e => e ▸ z
    exact z' _ (by simpa only [Bool.not_eq_true', decide_eq_false_iff_not] using ask_true hm er)
  | false =>
    refine ⟨_, rfl, false, true, rfl, rfl, _, rfl, iteF ?_⟩
    refine ⟨_, rfl, false, false, rfl, rfl, _, rfl, iteT ?_⟩
    have ew := ask_false er
    rw [ew] at pq2
    obtain ⟨ua, ub, uc, eu, pa, rb, pn⟩ := Paired.split pq2
    have en : uc = [] := by cases pn; rfl
    subst en
    refine ⟨_, rfl, _, rfl, _, rfl, q2, us2, rfl, SqL.of hq2, fun w7 hw7 => ?_⟩
    rw [eu, cut_last]
    have s7 := same_new (o := .lst [ub]) hw7
    refine ⟨_, rfl, _, rfl, (by show 2 ≤ sizeLine; decide), fun t8 ht8 => ⟨(by show 1 ≤ sizeLine; decide), fun w9 hw9 => ?_⟩⟩
    have s8 := same_new (o := .tup [v, t]) ht8
    have s9 := same_new (o := .lst [.ref t8]) hw9
    have s79 := s7.trans (s8.trans s9)
    have f8 := fs6.trans (fs_same (s7.trans s8))
    have rp : cPr.rp K (upd (upd H6 w7 (.lst [ub])) t8 (.tup [v, t])) (x, k) (.ref t8) := cPr_mk (k := (x, k)) upd_same (cPa.keep f8.ts hx) (cLk.keep f8.ts ht)
    refine ⟨[(x, k)], [(x, k)], ⟨w7, [ub], rfl, SqL.of (s9 _ _ (s8 _ _ upd_same)), .cons (cPr.keep s79.ts rb) .nil⟩, ⟨w9, _, rfl, SqL.of upd_same, .cons (cPr.keep s9.ts rp) .nil⟩, ?_⟩
    have z := done _ s79
    rw [decide_eq_true rfl]
    exact z
end
end K15

set_option maxHeartbeats 4000000
namespace K15
open PySem L2 Lo
section
variable {P : Program} {w : World} {K : PySem.W.Frag} {mg : Str → Option Value} {base : Heap} {f CL : Addr} {fd : FuncData} {C : Kd → Addr}
def S15 (C : Kd → Addr) (CL : Addr) (K : PySem.W.Frag) (l pl sl nl : Addr) (cells nus : List V) (names : List Pa) (ps : List Pr) (H : Hp) : Prop := HS C CL K l pl ps [(sl, cells), (nl, nus)] H ∧ Paired (cPa.rp K H) names nus
theorem S15.keep {l pl sl nl : Addr} {cells nus : List V} {names : List Pa} {ps : List Pr} {H H' : Hp} (hC : ∀ k, C k ≠ CL) (e : Same H H') (h : S15 C CL K l pl sl nl cells nus names ps H) : S15 C CL K l pl sl nl cells nus names ps H' :=
  ⟨h.1.keep hC e, pp h.2 fun _ _ z => cPa.keep e.ts z⟩
def v15 (C : Kd → Addr) (CL : Addr) (K : PySem.W.Frag) : TS := fun D σ H => ∃ a nl b l x4 x5 sl nus cells pl ps names, σ = [some (.ref a), some (.ref nl), some (.int b), some (.ref l), x4, x5] ∧
  S15 C CL K l pl sl nl cells nus names ps H ∧ ps.length ≤ 100 ∧ ((waitL ps).map (·.1)).Nodup ∧ ∀ H', S15 C CL K l pl sl nl cells nus names ps H' → D.nx [some (.ref a), some (.ref nl), some (.int b), some (.ref l), x4, x5] H'
theorem ok_law (F : Fun K "law" "law" s_law f fd) (B : TxB mg) (T : TxK K C) (L : TxL K C CL) {fLI : Addr} {dLI : FuncData} (ML : Mk K CL fLI) (mgL : mg "Locks" = some (.ref CL))
    (GLI : FnOk P w K mg base CX0 1 fLI dLI ["self"] (spLsInit CL)) (bLI : Binds K dLI ["self"] [])
    (GA : GF P w K mg base CX0 1 "_law_cell_at" ["_law_script", "_law_k"] (spCell K)) (GT : GF P w K mg base CX0 1 "_law_told" ["_law_cell", "_law_base"] (spLTold K)) (GN : GF P w K mg base CX0 1 "_law_names" ["_law_cell"] (spNames K))
    (GX : GF P w K mg base CX0 21 "_law_hindered" ["_law_held", "_law_waiting"] (spHindered K)) (GY : GF P w K mg base CX0 24 "_law_asked" ["_law_locks", "_law_p", "_law_told_here"] (spAsked C CL K))
    (GH : GM P w K mg base CX0 5 CL "held" ["self"] (spTolds C CL K heldL)) (GW : GM P w K mg base CX0 5 CL "waiting" ["self"] (spTolds C CL K waitL)) (GF' : GM P w K mg base CX0 5 CL "free" ["self", "p"] (spFree C CL K)) :
    FnOk P w K mg base CX0 25 f fd ["_law_script"] (spLaw K) := by
  refine F.ok sc_law (fun vs H Q E h => ?_) (fun cdv A outer s H vs Q E hr h => ?_)
  · obtain ⟨a, ns, rfl, _⟩ := h
    rfl
  obtain ⟨a, ns, rfl, hS, hl, q⟩ := h
  have nd := sc_law.nd
  have hr1 : Room (1 + 1) _ := hr.mono (by decide)
  refine ⟨_, pss_cons (ps_set (i := 1) nd rfl (Or.inl rfl) (pc GN hr (pa_cons (pc GA hr (pa_cons (pv 0) (pa_cons pe_int pa_nil))) pa_nil)))
    (pss_cons (ps_set (i := 2) nd rfl (Or.inl rfl) pe_int)
    (pss_cons (ps_if (pt_cmpR op_eq (pe_op op_mod (pc GA hr (pa_cons (pv 0) (pa_cons pe_int pa_nil))) pe_int) pe_int (nomark _)) (pss_one (ps_set (i := 2) nd rfl (Or.inl rfl) (pe_op op_mod (pe_op op_fdiv (pc GA hr (pa_cons (pv 0) (pa_cons pe_int pa_nil))) pe_int) (pe_op op_pow pe_int pe_int)))) pss_nil)
    (pss_weak (uN 3 K) (pss_cons (ps_set (i := 3) nd rfl (Or.inl rfl) (pe_make0 ML GLI hr1 rfl mgL bLI .nil pass0))
    (pss_cons (ps_for PassesOwn.never rfl (pi_list (pe_slice sl_list (pv 0) (po_some pe_int) (po_some pe_int))) (pg_name (i := 4) nd rfl (Or.inl rfl))
      (pss_cons (ps_set (i := 5) nd rfl (Or.inl rfl) (pe_ix (r := rIxL K) ix_list (pv 1) (pe_op op_mod (pv 4) pe_int) (fun _ _ => rfl)))
      (pss_cons (ps_if (pt_cmpR op_eq (pe_op op_mod (pe_op op_fdiv (pv 4) pe_int) pe_int) pe_int (nomark _))
        (pss_cons (ps_expr (pm GF' (pv 3) L.cl hr (pa_cons (pv 5) pa_nil)))
          (pss_one (ps_if (pt_cmpR (op_inC cPa (hun hr)) (pv 5) (pe_lcM sb_law_0 (fun _ _ _ _ => pg_pairK K (hr.hd (by decide)) sb_law_0.nd rfl rfl rfl rfl) rfl (pi_list (pe_op op_cat (pm0 GH (pv 3) L.cl hr) (pm0 GW (pv 3) L.cl hr))) (fun _ _ _ _ => pts_nil) (fun _ _ _ _ => pv 0)) rfl) pss_never pss_nil)))
        (pss_one (ps_if (pt_not (pt_val (pc GY hr (pa_cons (pv 3) (pa_cons (pv 5) (pa_cons (pc GT hr (pa_cons (pe_op op_fdiv (pv 4) pe_int) (pa_cons (pv 2) pa_nil))) pa_nil)))))) pss_never pss_nil)))
      (pss_weak (v15 C CL K) (pss_one (ps_if (pt_not (pt_val (pc GX hr (pa_cons (pm0 GH (pv 3) L.cl hr) (pa_cons (pm0 GW (pv 3) L.cl hr) pa_nil))))) pss_never pss_nil)) ?v))))
    (pss_one (ps_ret pe_bl)))) ?t))), ?_⟩
  case v =>
    rintro D σ H ⟨a, nl, b, l, x4, x5, sl, nus, cells, pl, ps, names, rfl, st, hz, ndw, nx⟩
    have hz1 : ps.length ≤ 1000 := by omega
    obtain ⟨dx, hl⟩ := st.1.1.ins
    refine ⟨_, rfl, l, dx, _, rfl, hl, lp_no (by decide +kernel), l, pl, _, rfl, st.1.1, hz1, fun q1 H1 us1 s1 n1 hq1 pq1 => ?_⟩
    have st1 := st.keep L.ne s1
    refine ⟨_, rfl, l, dx, _, rfl, s1 _ _ hl, lp_no (by decide +kernel), l, pl, _, rfl, st1.1.1, hz1, fun q2 H2 us2 s2 n2 hq2 pq2 => ?_⟩
    have st2 := st1.keep L.ne s2
    have hu1 : us1.length ≤ 400 := by rw [← pq1.len]; exact Nat.le_trans (heldL_len ps) (by omega)
    have hu2 : us2.length ≤ 400 := by rw [← pq2.len]; exact Nat.le_trans (waitL_len ps) (by omega)
    exact ⟨q1, q2, heldL ps, waitL ps, us1, us2, rfl, s2 _ _ hq1, hq2, pp pq1 (fun _ _ z => cPr.keep s2.ts z), pq2, hu1, hu2, ndw, fun A z B e => wait_hind e, fun H3 s3 => ⟨_, rfl, iteF (nx _ (st2.keep L.ne s3))⟩⟩
  case t =>
    rintro D σ H ⟨a, ns, nl, nus, names, b, rfl, hS, hlen, hnl, pnl, hn4, q⟩
    intro l dl nl0 ndl nel
    refine ⟨l, dl, rfl, upd_same, fun pl H1 npl hpl hl1 kp1 => ⟨rfl, ?_⟩⟩
    have s1 : Same H H1 := new_locks nl0 ndl kp1
    have hp0 : H pl = none := by
      cases e : H pl with
      | none => rfl
      | some o =>
        rw [upd_ne (ne_of_none e nl0), upd_ne (ne_of_none e ndl), e] at npl
        cases npl
    have hs0 : HS C CL K l pl [] [(nl, nus)] H1 := HS.old (own := []) (s1 _ _ hnl) (fun z => by rw [z, hp0] at hnl; cases hnl) (by simp) ⟨⟨dl, [], hl1, hpl, .nil⟩, (fun q hq => by cases hq), (fun q hq => by cases hq), List.nodup_nil⟩
    refine ⟨_, rfl, _, rfl, _, rfl, a, _, rfl, s1.seq hS, fun sl hsl => ⟨sl, rfl, ⟨_, SqL.of upd_same⟩, ?_⟩⟩
    obtain ⟨cs, ecs, lcs⟩ := cut_ints ns (some 2) (some 26)
    rw [ecs]
    have s3 := same_new (o := .lst (cs.map V.int)) hsl
    have s13 := s1.trans s3
    have hs1 : HS C CL K l pl [] [(sl, cs.map V.int), (nl, nus)] (upd H1 sl (.lst (cs.map V.int))) := HS.add (xs := cs.map V.int) L.ne hsl hs0
    refine for_list (xs := cs.map V.int) (fun i σ H' => ∃ x4 x5 pl ps, σ = [some (.ref a), some (.ref nl), some (.int b), some (.ref l), x4, x5] ∧ S15 C CL K l pl sl nl (cs.map V.int) nus names ps H' ∧ ps.length ≤ i ∧ ((waitL ps).map (·.1)).Nodup)
      ⟨none, none, pl, [], rfl, ⟨hs1, pp pnl fun _ _ z => cPa.keep s13.ts z⟩, Nat.le_refl _, List.nodup_nil⟩ (fun i σ H' _ z => ?_) ?_ ?_
    · obtain ⟨_, _, _, _, _, st, _⟩ := z
      exact SqL.of st.1.at0
    · rintro i x σ H3 hx ⟨x4, x5, pl, ps, rfl, st, hps, ndw⟩
      obtain ⟨c, rfl⟩ := int_at hx
      have hi : i < (cs.map V.int).length := (List.getElem?_eq_some_iff.mp hx).1
      rw [List.length_map] at hi
      have hz1 : ps.length ≤ 1000 := by omega
      obtain ⟨dx, hl⟩ := st.1.1.ins
      obtain ⟨p, vp, enp, evp, rvp⟩ := pair_at (i := c % 4) st.2 (Int.emod_nonneg _ (by decide)) (by rw [hn4]; exact Int.emod_lt_of_pos _ (by decide))
      refine ⟨_, rfl, _, rfl, _, _, rfl, rfl, (by show (0 : Int) < 4; decide), nl, _, _, _, rfl, rfl, SqL.of st.1.at1, evp, ?_⟩
      refine ⟨_, rfl, _, _, rfl, rfl, ⟨by decide, by decide⟩, _, _, rfl, rfl, (by show (0 : Int) < 5; decide), rfl, _, rfl, ?_⟩
      refine ite2 (fun _ => ?_) (fun _ => ?_)
      · -- free
        refine ⟨_, rfl, l, dx, _, rfl, hl, lp_no (by decide +kernel), _, rfl, l, pl, ps, vp, p, rfl, st.1.1, hz1, rvp, fun q1 pl' H4 us1 ls4 np4 kp4 nq1 hq1 pq1 => ?_⟩
        have fs4 := st.1.fsF kp4
        have st4 : S15 C CL K l pl' sl nl (cs.map V.int) nus names (freePs ps p) H4 := ⟨st.1.freed kp4 ls4 np4, pp st.2 fun _ _ z => cPa.keep fs4.ts z⟩
        have l1 := freePs_len ps p
        have hz4 : (freePs ps p).length ≤ 1000 := by omega
        obtain ⟨dx4, hl4⟩ := st4.1.1.ins
        refine ⟨_, rfl, _, rfl, l, dx4, _, rfl, hl4, lp_no (by decide +kernel), l, pl', _, rfl, st4.1.1, hz4, fun q2 H5 us2 s5 n2 hq2 pq2 => ?_⟩
        have st5 := st4.keep L.ne s5
        refine ⟨_, rfl, l, dx4, _, rfl, s5 _ _ hl4, lp_no (by decide +kernel), l, pl', _, rfl, st5.1.1, hz4, fun q3 H6 us3 s6 n3 hq3 pq3 => ?_⟩
        have st6 := st5.keep L.ne s6
        have hu2 : us2.length ≤ 1000 := by rw [← pq2.len]; exact Nat.le_trans (heldL_len _) hz4
        have hu3 : us3.length ≤ 1000 := by rw [← pq3.len]; exact Nat.le_trans (waitL_len _) hz4
        refine ⟨q2, q3, us2, us3, rfl, rfl, s6 _ _ hq2, hq3, Nat.le_trans (Nat.add_le_add hu2 hu3) (by decide), fun cc hcc => ⟨cc, rfl, ⟨_, SqL.of upd_same⟩, ?_⟩⟩
        have s7 := same_new (o := .lst (us2 ++ us3)) hcc
        have pc7 : Paired (cPr.rp K (upd H6 cc (.lst (us2 ++ us3)))) (heldL (freePs ps p) ++ waitL (freePs ps p)) (us2 ++ us3) := (pp pq2 fun _ _ z => cPr.keep (s6.trans s7).ts z).app (pp pq3 fun _ _ z => cPr.keep s7.ts z)
        refine lc_fm2 (c := cPa) (c2 := cLk) (d := cPa) pc7 (SqL.of upd_same) (by rw [List.length_append]; exact Nat.le_trans (Nat.add_le_add hu2 hu3) (by decide)) (fun _ => true) (fun y => y.1) (fun y u1 u2 H8 Q8 _ r1 r2 s8 hQ => hQ _ (Same.refl _)) (fun y u1 u2 H8 Q8 _ r1 r2 s8 hQ => ⟨_, rfl, hQ _ _ (Same.refl _) r1⟩) ?_
        intro zs H8 s8 pz w9 hw9
        rw [filt_true] at pz
        have s9 := same_new (o := .lst zs) hw9
        have s69 := s7.trans (s8.trans s9)
        have f9 := fs4.trans (fs_same (s5.trans (s6.trans s69)))
        refine ⟨p, w9, zs, _, cPa.keep f9.ts rvp, rfl, .inl (SqL.of upd_same), pp pz (fun _ _ z => cPa.keep s9.ts z), _, rfl, ite2 (fun c1 => ?_) (fun _ => ?_)⟩
        · exfalso
          have c2 : p ∈ (heldL (freePs ps p) ++ waitL (freePs ps p)).map (·.1) := by simpa only [decide_eq_true_eq] using c1
          obtain ⟨y, hy, e⟩ := List.mem_map.mp c2
          have hy' : y ∈ freePs ps p := (List.mem_append.mp hy).elim held_mem wait_mem
          exact (freePs_mem.mp hy').2 e
        · exact ⟨a, nl, b, l, _, _, sl, nus, _, pl', _, names, rfl, st6.keep L.ne s69, by omega, nodup_free ndw, fun H' st' => ⟨_, _, pl', _, rfl, st', by omega, nodup_free ndw⟩⟩
      · -- ask
        refine ⟨_, rfl, _, rfl, _, rfl, _, _, rfl, rfl, ⟨by decide, by decide⟩, _, rfl, _, _, rfl, fun vt H4 s4 rt => ?_⟩
        generalize toldL (c / 20) b = k at rt
        have st4 := st.keep L.ne s4
        have l1 := askPs_len ps p k
        refine ⟨l, pl, ps, vp, p, vt, k, rfl, st4.1.1, by omega, cPa.keep s4.ts rvp, rt, fun _ H5 s5 => ⟨_, rfl, iteF ?_⟩, fun hw H5 ls5 kp5 => ⟨_, rfl, iteF ?_⟩⟩
        · exact ⟨a, nl, b, l, _, _, sl, nus, _, pl, ps, names, rfl, st4.keep L.ne s5, by omega, ndw, fun H' st' => ⟨_, _, pl, ps, rfl, st', by omega, ndw⟩⟩
        · have fs5 := st4.1.fsA kp5
          have nd5 := nodup_ask (k := k) ndw (wplace_iff.mp hw)
          exact ⟨a, nl, b, l, _, _, sl, nus, _, pl, _, names, rfl, ⟨st4.1.asked kp5 ls5, pp st4.2 fun _ _ z => cPa.keep fs5.ts z⟩, by omega, nd5, fun H' st' => ⟨_, _, pl, _, rfl, st', by omega, nd5⟩⟩
    · rintro σ H3 ⟨x4, x5, pl, ps, rfl, st, _⟩
      exact q _
  refine ⟨_, rfl, a, ns, 0, rfl, hS, _, rfl, fun nl H1 nus s1 n1 hnl pnl => ?_⟩
  have hS1 := s1.seq hS
  refine ⟨_, rfl, a, ns, 1, rfl, hS1, _, _, rfl, rfl, (by show (0 : Int) < 3; decide), rfl, _, rfl, ?_⟩
  have fin : ∀ b : Int, uN 3 K { nx := fun _ H' => Q .non H', rt := Q } ([some (.ref a), some (.ref nl), some (.int b)] ++ List.replicate 3 none) H1 := fun b =>
    ⟨a, ns, nl, nus, namesL (cellAt ns 0), b, rfl, hS1, hl, hnl, pnl, rfl, q⟩
  refine ite2 (fun _ => ?_) (fun _ => fin 0)
  exact ⟨_, rfl, a, ns, 1, rfl, hS1, _, _, rfl, rfl, ⟨by decide, by decide⟩, _, _, rfl, rfl, ⟨by decide, by decide, by decide⟩, _, _, rfl, rfl, (by show (0 : Int) < 10 ^ 40; decide +kernel), fin _⟩

end
end K15

set_option maxHeartbeats 4000000
namespace K15
open PySem L2 Lo
section
variable {P : Program} {w : World} {K : PySem.W.Frag} {mg : Str → Option Value} {base : Heap} {f CL : Addr} {fd : FuncData} {C : Kd → Addr}
/-- held and waiting, whatever else stands in the heap -/
theorem soft {fkR fkM fkC ft fb fh fp fw fH fW : Addr} {dkR dkM dkC dt db dh dp dw dH dW : FuncData} (B : TxB mg) (T : TxK K C) (L : TxL K C CL) (S : TxS K mg)
    (FkR : Fun K "kind" "Read.kind" m_Read_kind fkR dkR) (bkR : Binds K dkR ["self"] []) (mkR : Meth K (C .read) "kind" fkR) (FkM : Fun K "kind" "Mean.kind" m_Mean_kind fkM dkM) (bkM : Binds K dkM ["self"] []) (mkM : Meth K (C .mean) "kind" fkM)
    (FkC : Fun K "kind" "Change.kind" m_Change_kind fkC dkC) (bkC : Binds K dkC ["self"] []) (mkC : Meth K (C .change) "kind" fkC) (Ft : Fun K "told" "Lock.told" m_Lock_told ft dt) (bt : Binds K dt ["self"] []) (mt : ∀ k, Meth K (C k) "told" ft)
    (Fb : Fun K "beside" "Lock.beside" m_Lock_beside fb db) (bb : Binds K db ["self", "other"] []) (mb : ∀ k, Meth K (C k) "beside" fb) (Fh : Fun K "hinderer" "Locks.hinderer" m_Locks_hinderer fh dh) (bh : Binds K dh ["self", "place"] []) (mh : Meth K CL "hinderer" fh)
    (Fp : Fun K "held_pairs" "Locks.held_pairs" m_Locks_held_pairs fp dp) (bp : Binds K dp ["self"] []) (mp : Meth K CL "held_pairs" fp) (Fw : Fun K "waiting_pairs" "Locks.waiting_pairs" m_Locks_waiting_pairs fw dw) (bw : Binds K dw ["self"] []) (mw : Meth K CL "waiting_pairs" fw)
    (FH : Fun K "held" "Locks.held" m_Locks_held fH dH) (FW : Fun K "waiting" "Locks.waiting" m_Locks_waiting fW dW) :
    FnOk P w K mg base CX0 5 fH dH ["self"] (spTolds C CL K heldL) ∧ FnOk P w K mg base CX0 5 fW dW ["self"] (spTolds C CL K waitL) := by
  have GK : ∀ k, GM P w K mg base CX0 1 (C k) "kind" ["self"] (spKind k) := fun k => match k with | .read => ⟨fkR, _, ok_rk FkR, bkR, mkR⟩ | .mean => ⟨fkM, _, ok_mk FkM, bkM, mkM⟩ | .change => ⟨fkC, _, ok_ck FkC, bkC, mkC⟩
  have Gt : ∀ k, GM P w K mg base CX0 2 (C k) "told" ["self"] (spTold C) := fun k => ⟨ft, _, ok_told Ft T GK, bt, mt k⟩
  have Gb : ∀ k, GM P w K mg base CX0 2 (C k) "beside" ["self", "other"] (spBeside C) := fun k => ⟨fb, _, ok_beside Fb T S GK, bb, mb k⟩
  have Gh : GM P w K mg base CX0 3 CL "hinderer" ["self", "place"] (spHind C CL K) := ⟨fh, _, ok_hind Fh B T L Gb, bh, mh⟩
  have Gp : GM P w K mg base CX0 4 CL "held_pairs" ["self"] (spPairs C CL K heldL) := ⟨fp, _, ok_heldp Fp B L Gh, bp, mp⟩
  have Gw : GM P w K mg base CX0 4 CL "waiting_pairs" ["self"] (spPairs C CL K waitL) := ⟨fw, _, ok_waitp Fw B L Gh, bw, mw⟩
  exact ⟨ok_held FH T L Gp Gt, ok_waiting FW T L Gw Gt⟩
end
end K15

section
set_option maxHeartbeats 0
open PySem PySem.W PyProof.Rows
lay_quick PySem.Challenge.pw_pactroom_k15_who_waits_is_hindered
namespace Q
noncomputable section
noncomputable abbrev vT : Value := Value.bool true
noncomputable abbrev vF : Value := Value.bool false
noncomputable abbrev A {α : Type} (l : List α) : Array α := Array.mk l
noncomputable abbrev E {α : Type} : Array α := Array.mk []
noncomputable abbrev vn : Value := Value.none
noncomputable abbrev vr (n : Nat) : Value := Value.ref n
noncomputable abbrev sr (n : Nat) : Option Value := some (Value.ref n)
noncomputable abbrev vi (a : Int) (n : Nat) : Value := Value.int a n
noncomputable abbrev vs (q : Str) (n : Nat) : Value := Value.str q n
noncomputable abbrev de (P : Params) (q : Str) (n : Nat) (v : Value) : DictEntry := DictEntry.mk (PyData.keyHash P q) (Value.str q n) v
noncomputable abbrev nd (o : Obj) (a b : BT) : BT := .node o a b
noncomputable abbrev l1 (o : Obj) : BT := .node o .nil .nil
noncomputable abbrev q0 : Str := (@Str.mk (Array.mk [60, 109, 111, 100, 117, 108, 101, 62]))
noncomputable abbrev q1 : Str := (@Str.mk (Array.mk [47, 99, 108, 97, 105, 109, 47, 99, 117, 116, 46, 112, 121]))
noncomputable abbrev q2 : Str := (@Str.mk (Array.mk [95, 95, 109, 97, 105, 110, 95, 95]))
noncomputable abbrev q3 : Str := (@Str.mk (Array.mk [95, 95, 110, 97, 109, 101, 95, 95]))
noncomputable abbrev q4 : Str := (@Str.mk (Array.mk [112, 97, 99, 116, 114, 111, 111, 109, 46, 101, 114, 114, 111, 114, 115]))
noncomputable abbrev q5 : Str := (@Str.mk (Array.mk [95, 95, 100, 111, 99, 95, 95]))
noncomputable abbrev q6 : Str := (@Str.mk (Array.mk [95, 95, 112, 97, 99, 107, 97, 103, 101, 95, 95]))
noncomputable abbrev q7 : Str := (@Str.mk (Array.mk [95, 95, 108, 111, 97, 100, 101, 114, 95, 95]))
noncomputable abbrev q8 : Str := (@Str.mk (Array.mk [95, 95, 115, 112, 101, 99, 95, 95]))
noncomputable abbrev q9 : Str := (@Str.mk (Array.mk [95, 95, 97, 110, 110, 111, 116, 97, 116, 105, 111, 110, 115, 95, 95]))
noncomputable abbrev q10 : Str := (@Str.mk (Array.mk [95, 95, 98, 117, 105, 108, 116, 105, 110, 115, 95, 95]))
noncomputable abbrev q11 : Str := (@Str.mk (Array.mk [95, 95, 102, 105, 108, 101, 95, 95]))
noncomputable abbrev q12 : Str := (@Str.mk (Array.mk [95, 95, 99, 97, 99, 104, 101, 100, 95, 95]))
noncomputable abbrev q13 : Str := (@Str.mk (Array.mk [95, 119, 97, 108, 108]))
noncomputable abbrev q14 : Str := (@Str.mk (Array.mk [80, 97, 99, 116, 69, 114, 114, 111, 114]))
noncomputable abbrev q15 : Str := (@Str.mk (Array.mk [78, 111, 84, 104, 105, 110, 103]))
noncomputable abbrev q16 : Str := (@Str.mk (Array.mk [107]))
noncomputable abbrev q17 : Str := (@Str.mk (Array.mk [95, 95, 109, 111, 100, 117, 108, 101, 95, 95]))
noncomputable abbrev q18 : Str := (@Str.mk (Array.mk [95, 95, 113, 117, 97, 108, 110, 97, 109, 101, 95, 95]))
noncomputable abbrev q19 : Str := (@Str.mk (Array.mk [95, 95, 102, 105, 114, 115, 116, 108, 105, 110, 101, 110, 111, 95, 95]))
noncomputable abbrev q20 : Str := (@Str.mk (Array.mk [95, 95, 115, 116, 97, 116, 105, 99, 95, 97, 116, 116, 114, 105, 98, 117, 116, 101, 115, 95, 95]))
noncomputable abbrev q21 : Str := (@Str.mk (Array.mk [95, 95, 119, 101, 97, 107, 114, 101, 102, 95, 95]))
noncomputable abbrev q22 : Str := (@Str.mk (Array.mk [78, 111, 78, 101, 101, 100]))
noncomputable abbrev q23 : Str := (@Str.mk (Array.mk [87, 97, 105, 116, 105, 110, 103]))
noncomputable abbrev q24 : Str := (@Str.mk (Array.mk [78, 111, 72, 111, 117, 115, 101]))
noncomputable abbrev q25 : Str := (@Str.mk (Array.mk [70, 97, 108, 108, 101, 110]))
noncomputable abbrev q26 : Str := (@Str.mk (Array.mk [83, 116, 97, 110, 100, 105, 110, 103]))
noncomputable abbrev q27 : Str := (@Str.mk (Array.mk [78, 111, 76, 101, 116, 116, 101, 114]))
noncomputable abbrev q28 : Str := (@Str.mk (Array.mk [78, 111, 116, 66, 111, 117, 110, 100]))
noncomputable abbrev q29 : Str := (@Str.mk (Array.mk [78, 111, 84, 101, 120, 116]))
noncomputable abbrev q30 : Str := (@Str.mk (Array.mk [95, 95, 105, 110, 105, 116, 95, 95]))
noncomputable abbrev q31 : Str := (@Str.mk (Array.mk [115, 101, 108, 102]))
noncomputable abbrev q32 : Str := (@Str.mk (Array.mk [97, 116]))
noncomputable abbrev q33 : Str := (@Str.mk (Array.mk [78, 111, 84, 101, 120, 116, 46, 95, 95, 105, 110, 105, 116, 95, 95]))
noncomputable abbrev q34 : Str := (@Str.mk (Array.mk [78, 111, 80, 108, 97, 99, 101]))
noncomputable abbrev q35 : Str := (@Str.mk (Array.mk [78, 111, 87, 97, 121, 66, 97, 99, 107]))
noncomputable abbrev q36 : Str := (@Str.mk (Array.mk [78, 111, 80, 108, 97, 99, 101, 46, 95, 95, 105, 110, 105, 116, 95, 95]))
noncomputable abbrev q37 : Str := (@Str.mk (Array.mk [78, 111, 87, 97, 121, 66, 97, 99, 107, 46, 95, 95, 105, 110, 105, 116, 95, 95]))
noncomputable abbrev q38 : Str := (@Str.mk (Array.mk [112, 97, 99, 116, 114, 111, 111, 109, 46, 108, 111, 99, 107, 115]))
noncomputable abbrev q39 : Str := (@Str.mk (Array.mk [78, 111, 70, 105, 116]))
noncomputable abbrev q40 : Str := (@Str.mk (Array.mk [78, 111, 70, 105, 116, 46, 95, 95, 105, 110, 105, 116, 95, 95]))
noncomputable abbrev q41 : Str := (@Str.mk (Array.mk [112, 97, 99, 116, 114, 111, 111, 109, 46, 107, 105, 110, 100, 115]))
noncomputable abbrev q42 : Str := (@Str.mk (Array.mk [76, 111, 99, 107, 115]))
noncomputable abbrev q43 : Str := (@Str.mk (Array.mk [97, 115, 107]))
noncomputable abbrev q44 : Str := (@Str.mk (Array.mk [102, 114, 101, 101]))
noncomputable abbrev q45 : Str := (@Str.mk (Array.mk [115, 116, 97, 110, 100, 115]))
noncomputable abbrev q46 : Str := (@Str.mk (Array.mk [98, 101, 104, 105, 110, 100]))
noncomputable abbrev q47 : Str := (@Str.mk (Array.mk [104, 101, 108, 100]))
noncomputable abbrev q48 : Str := (@Str.mk (Array.mk [119, 97, 105, 116, 105, 110, 103]))
noncomputable abbrev q49 : Str := (@Str.mk (Array.mk [104, 105, 110, 100, 101, 114, 101, 114]))
noncomputable abbrev q50 : Str := (@Str.mk (Array.mk [104, 101, 108, 100, 95, 112, 97, 105, 114, 115]))
noncomputable abbrev q51 : Str := (@Str.mk (Array.mk [119, 97, 105, 116, 105, 110, 103, 95, 112, 97, 105, 114, 115]))
noncomputable abbrev q52 : Str := (@Str.mk (Array.mk [119, 97, 105, 116, 105, 110, 103, 95, 112, 108, 97, 99, 101]))
noncomputable abbrev q53 : Str := (@Str.mk (Array.mk [76, 111, 99, 107, 115, 46, 95, 95, 105, 110, 105, 116, 95, 95]))
noncomputable abbrev q54 : Str := (@Str.mk (Array.mk [76, 111, 99, 107, 115, 46, 97, 115, 107]))
noncomputable abbrev q55 : Str := (@Str.mk (Array.mk [76, 111, 99, 107, 115, 46, 102, 114, 101, 101]))
noncomputable abbrev q56 : Str := (@Str.mk (Array.mk [112]))
noncomputable abbrev q57 : Str := (@Str.mk (Array.mk [108, 111, 99, 107]))
noncomputable abbrev q58 : Str := (@Str.mk (Array.mk [76, 111, 99, 107, 115, 46, 115, 116, 97, 110, 100, 115]))
noncomputable abbrev q59 : Str := (@Str.mk (Array.mk [76, 111, 99, 107, 115, 46, 98, 101, 104, 105, 110, 100]))
noncomputable abbrev q60 : Str := (@Str.mk (Array.mk [76, 111, 99, 107, 115, 46, 104, 101, 108, 100]))
noncomputable abbrev q61 : Str := (@Str.mk (Array.mk [76, 111, 99, 107, 115, 46, 119, 97, 105, 116, 105, 110, 103]))
noncomputable abbrev q62 : Str := (@Str.mk (Array.mk [112, 108, 97, 99, 101]))
noncomputable abbrev q63 : Str := (@Str.mk (Array.mk [112, 97, 105, 114]))
noncomputable abbrev q64 : Str := (@Str.mk (Array.mk [97, 104, 101, 97, 100]))
noncomputable abbrev q65 : Str := (@Str.mk (Array.mk [76, 111, 99, 107, 115, 46, 104, 105, 110, 100, 101, 114, 101, 114]))
noncomputable abbrev q66 : Str := (@Str.mk (Array.mk [76, 111, 99, 107, 115, 46, 104, 101, 108, 100, 95, 112, 97, 105, 114, 115]))
noncomputable abbrev q67 : Str := (@Str.mk (Array.mk [76, 111, 99, 107, 115, 46, 119, 97, 105, 116, 105, 110, 103, 95, 112, 97, 105, 114, 115]))
noncomputable abbrev q68 : Str := (@Str.mk (Array.mk [76, 111, 99, 107, 115, 46, 119, 97, 105, 116, 105, 110, 103, 95, 112, 108, 97, 99, 101]))
noncomputable abbrev q69 : Str := (@Str.mk (Array.mk [112, 97, 105, 114, 115]))
noncomputable abbrev q70 : Str := (@Str.mk (Array.mk [95, 95, 100, 105, 99, 116, 95, 95]))
noncomputable abbrev q71 : Str := (@Str.mk (Array.mk [82, 65, 78, 75, 83]))
noncomputable abbrev q72 : Str := (@Str.mk (Array.mk [83, 72, 65, 82, 73, 78, 71]))
noncomputable abbrev q73 : Str := (@Str.mk (Array.mk [76, 111, 99, 107]))
noncomputable abbrev q74 : Str := (@Str.mk (Array.mk [114, 101, 97, 100]))
noncomputable abbrev q75 : Str := (@Str.mk (Array.mk [109, 101, 97, 110]))
noncomputable abbrev q76 : Str := (@Str.mk (Array.mk [99, 104, 97, 110, 103, 101]))
noncomputable abbrev q77 : Str := (@Str.mk (Array.mk [107, 105, 110, 100]))
noncomputable abbrev q78 : Str := (@Str.mk (Array.mk [98, 101, 115, 105, 100, 101]))
noncomputable abbrev q79 : Str := (@Str.mk (Array.mk [99, 111, 118, 101, 114, 115]))
noncomputable abbrev q80 : Str := (@Str.mk (Array.mk [116, 111, 108, 100]))
noncomputable abbrev q81 : Str := (@Str.mk (Array.mk [102, 105, 114, 115, 116]))
noncomputable abbrev q82 : Str := (@Str.mk (Array.mk [108, 97, 115, 116]))
noncomputable abbrev q83 : Str := (@Str.mk (Array.mk [76, 111, 99, 107, 46, 95, 95, 105, 110, 105, 116, 95, 95]))
noncomputable abbrev q84 : Str := (@Str.mk (Array.mk [76, 111, 99, 107, 46, 107, 105, 110, 100]))
noncomputable abbrev q85 : Str := (@Str.mk (Array.mk [111, 116, 104, 101, 114]))
noncomputable abbrev q86 : Str := (@Str.mk (Array.mk [97, 112, 97, 114, 116]))
noncomputable abbrev q87 : Str := (@Str.mk (Array.mk [76, 111, 99, 107, 46, 98, 101, 115, 105, 100, 101]))
noncomputable abbrev q88 : Str := (@Str.mk (Array.mk [119, 105, 116, 104, 105, 110]))
noncomputable abbrev q89 : Str := (@Str.mk (Array.mk [76, 111, 99, 107, 46, 99, 111, 118, 101, 114, 115]))
noncomputable abbrev q90 : Str := (@Str.mk (Array.mk [76, 111, 99, 107, 46, 116, 111, 108, 100]))
noncomputable abbrev q91 : Str := (@Str.mk (Array.mk [82, 101, 97, 100]))
noncomputable abbrev q92 : Str := (@Str.mk (Array.mk [77, 101, 97, 110]))
noncomputable abbrev q93 : Str := (@Str.mk (Array.mk [82, 101, 97, 100, 46, 107, 105, 110, 100]))
noncomputable abbrev q94 : Str := (@Str.mk (Array.mk [77, 101, 97, 110, 46, 107, 105, 110, 100]))
noncomputable abbrev q95 : Str := (@Str.mk (Array.mk [108, 97, 119, 95, 112, 97, 99, 116, 114, 111, 111, 109, 95, 107, 49, 53, 95, 119, 104, 111, 95, 119, 97, 105, 116, 115, 95, 105, 115, 95, 104, 105, 110, 100, 101, 114, 101, 100]))
noncomputable abbrev q96 : Str := (@Str.mk (Array.mk [67, 104, 97, 110, 103, 101]))
noncomputable abbrev q97 : Str := (@Str.mk (Array.mk [108, 111, 99, 107, 95, 111, 102]))
noncomputable abbrev q98 : Str := (@Str.mk (Array.mk [95, 108, 97, 119, 95, 99, 101, 108, 108, 95, 97, 116]))
noncomputable abbrev q99 : Str := (@Str.mk (Array.mk [95, 108, 97, 119, 95, 110, 97, 109, 101, 115]))
noncomputable abbrev q100 : Str := (@Str.mk (Array.mk [95, 108, 97, 119, 95, 116, 111, 108, 100]))
noncomputable abbrev q101 : Str := (@Str.mk (Array.mk [95, 108, 97, 119, 95, 98, 101, 115, 105, 100, 101]))
noncomputable abbrev q102 : Str := (@Str.mk (Array.mk [95, 108, 97, 119, 95, 104, 105, 110, 100, 101, 114, 101, 100]))
noncomputable abbrev q103 : Str := (@Str.mk (Array.mk [95, 108, 97, 119, 95, 114, 101, 102, 117, 115, 101, 100]))
noncomputable abbrev q104 : Str := (@Str.mk (Array.mk [95, 108, 97, 119, 95, 97, 115, 107, 101, 100]))
noncomputable abbrev q105 : Str := (@Str.mk (Array.mk [108, 97, 119]))
noncomputable abbrev q106 : Str := (@Str.mk (Array.mk [67, 104, 97, 110, 103, 101, 46, 107, 105, 110, 100]))
noncomputable abbrev q107 : Str := (@Str.mk (Array.mk [95, 108, 97, 119, 95, 115, 99, 114, 105, 112, 116]))
noncomputable abbrev q108 : Str := (@Str.mk (Array.mk [95, 108, 97, 119, 95, 107]))
noncomputable abbrev q109 : Str := (@Str.mk (Array.mk [95, 108, 97, 119, 95, 99, 101, 108, 108]))
noncomputable abbrev q110 : Str := (@Str.mk (Array.mk [95, 108, 97, 119, 95, 104, 111, 109, 101]))
noncomputable abbrev q111 : Str := (@Str.mk (Array.mk [95, 108, 97, 119, 95, 98, 97, 115, 101]))
noncomputable abbrev q112 : Str := (@Str.mk (Array.mk [95, 108, 97, 119, 95, 102, 105, 114, 115, 116]))
noncomputable abbrev q113 : Str := (@Str.mk (Array.mk [95, 108, 97, 119, 95, 111, 110, 101]))
noncomputable abbrev q114 : Str := (@Str.mk (Array.mk [95, 108, 97, 119, 95, 111, 116, 104, 101, 114]))
noncomputable abbrev q115 : Str := (@Str.mk (Array.mk [95, 108, 97, 119, 95, 107, 105, 110, 100, 115]))
noncomputable abbrev q116 : Str := (@Str.mk (Array.mk [95, 108, 97, 119, 95, 108, 111, 99, 107, 115]))
noncomputable abbrev q117 : Str := (@Str.mk (Array.mk [95, 108, 97, 119, 95, 112]))
noncomputable abbrev q118 : Str := (@Str.mk (Array.mk [95, 108, 97, 119, 95, 116, 111, 108, 100, 95, 104, 101, 114, 101]))
noncomputable abbrev q119 : Str := (@Str.mk (Array.mk [95, 108, 97, 119, 95, 104, 101, 108, 100]))
noncomputable abbrev q120 : Str := (@Str.mk (Array.mk [95, 108, 97, 119, 95, 119, 97, 105, 116, 105, 110, 103]))
noncomputable abbrev q121 : Str := (@Str.mk (Array.mk [101]))
noncomputable abbrev q122 : Str := (@Str.mk (Array.mk [95, 108, 97, 119, 95, 111, 116, 104, 101, 114, 115]))
noncomputable abbrev y0 : Value := (@Value.type SL.s2766695959194262286x5)
noncomputable abbrev y1 : Value := (@Value.type SL.s5856160107412720595x4)
noncomputable abbrev y2 : Value := (@Value.type SL.s658472552662922059x5)
noncomputable abbrev y3 : Value := (@Value.type SL.s14018661285674007319x4)
noncomputable abbrev y4 : Value := (@Value.builtin SL.s7097527257260152453x26)
noncomputable abbrev y5 : Value := (@Value.type SL.s7174869446012820540x8)
noncomputable abbrev y6 : Value := (@Value.type SL.s6070975301684473832x10)
noncomputable abbrev y7 : Value := (@Value.type SL.s11030030927630378310x26)
noncomputable abbrev y8 : Value := (@Value.builtin SL.s10062305145149207511x16)
noncomputable abbrev y9 : Value := (@Value.type SL.s17162191345867700912x4)
noncomputable abbrev y10 : Value := (@Value.type SL.s5946037652744460706x9)
noncomputable abbrev y11 : Value := (@Value.type SL.s4278001404047624695x13)
noncomputable abbrev y12 : Value := (@Value.type SL.s2742458400755230247x6)
noncomputable abbrev y13 : Value := (@Value.builtin SL.s4209523147560561109x18)
noncomputable abbrev y14 : Value := (@Value.type SL.s14755015743595814543x17)
noncomputable abbrev y15 : Value := (@Value.builtin SL.s10220274742760427390x26)
noncomputable abbrev y16 : Value := (@Value.type SL.s4290257624100764138x5)
noncomputable abbrev y17 : Value := (@Value.builtin SL.s4860613602091757760x24)
noncomputable abbrev y18 : Value := (@Value.builtin SL.s11443829558043349243x14)
noncomputable abbrev y19 : Value := (@Value.builtin SL.s6511155373996960695x17)
noncomputable abbrev y20 : Value := (@Value.builtin SL.s12411053484034534018x21)
noncomputable abbrev p0 : Program := PySem.Challenge.pw_pactroom_k15_who_waits_is_hindered
noncomputable abbrev pq : Program := PySem.W.Fast.tw17521520086216585950
theorem pe : p0 = pq := PySem.W.Fast.te17521520086216585950
noncomputable def B (i : Nat) : Stmt := pq.main.body.getD i (.Pass ⟨0, 0, 0, 0⟩)
noncomputable def T (i : Nat) : Stmt := p0.main.body.getD i (.Pass ⟨0, 0, 0, 0⟩)
noncomputable def fa__wall : Arguments := L2.defArgs (B 0)
noncomputable def fb__wall : FuncBody := .stmts (L2.defBody (B 0))
noncomputable def fs__wall : Scope := L2.defScope (B 0)
noncomputable abbrev ga__wall : Arguments := L2.defArgs (T 0)
noncomputable abbrev gb__wall : FuncBody := .stmts (L2.defBody (T 0))
noncomputable abbrev gs__wall : Scope := L2.defScope (T 0)
noncomputable def fa_NoText___init__ : Arguments := L2.defArgs (L2.inClass (B 11) 0)
noncomputable def fb_NoText___init__ : FuncBody := .stmts (L2.defBody (L2.inClass (B 11) 0))
noncomputable def fs_NoText___init__ : Scope := L2.defScope (L2.inClass (B 11) 0)
noncomputable abbrev ga_NoText___init__ : Arguments := L2.defArgs (L2.inClass (T 11) 0)
noncomputable abbrev gb_NoText___init__ : FuncBody := .stmts (L2.defBody (L2.inClass (T 11) 0))
noncomputable abbrev gs_NoText___init__ : Scope := L2.defScope (L2.inClass (T 11) 0)
noncomputable def fa_NoPlace___init__ : Arguments := L2.defArgs (L2.inClass (B 12) 0)
noncomputable def fb_NoPlace___init__ : FuncBody := .stmts (L2.defBody (L2.inClass (B 12) 0))
noncomputable def fs_NoPlace___init__ : Scope := L2.defScope (L2.inClass (B 12) 0)
noncomputable abbrev ga_NoPlace___init__ : Arguments := L2.defArgs (L2.inClass (T 12) 0)
noncomputable abbrev gb_NoPlace___init__ : FuncBody := .stmts (L2.defBody (L2.inClass (T 12) 0))
noncomputable abbrev gs_NoPlace___init__ : Scope := L2.defScope (L2.inClass (T 12) 0)
noncomputable def fa_NoWayBack___init__ : Arguments := L2.defArgs (L2.inClass (B 13) 0)
noncomputable def fb_NoWayBack___init__ : FuncBody := .stmts (L2.defBody (L2.inClass (B 13) 0))
noncomputable def fs_NoWayBack___init__ : Scope := L2.defScope (L2.inClass (B 13) 0)
noncomputable abbrev ga_NoWayBack___init__ : Arguments := L2.defArgs (L2.inClass (T 13) 0)
noncomputable abbrev gb_NoWayBack___init__ : FuncBody := .stmts (L2.defBody (L2.inClass (T 13) 0))
noncomputable abbrev gs_NoWayBack___init__ : Scope := L2.defScope (L2.inClass (T 13) 0)
noncomputable def fa_NoFit___init__ : Arguments := L2.defArgs (L2.inClass (B 14) 0)
noncomputable def fb_NoFit___init__ : FuncBody := .stmts (L2.defBody (L2.inClass (B 14) 0))
noncomputable def fs_NoFit___init__ : Scope := L2.defScope (L2.inClass (B 14) 0)
noncomputable abbrev ga_NoFit___init__ : Arguments := L2.defArgs (L2.inClass (T 14) 0)
noncomputable abbrev gb_NoFit___init__ : FuncBody := .stmts (L2.defBody (L2.inClass (T 14) 0))
noncomputable abbrev gs_NoFit___init__ : Scope := L2.defScope (L2.inClass (T 14) 0)
noncomputable def fa_Locks___init__ : Arguments := L2.defArgs (L2.inClass (B 16) 0)
noncomputable def fb_Locks___init__ : FuncBody := .stmts (L2.defBody (L2.inClass (B 16) 0))
noncomputable def fs_Locks___init__ : Scope := L2.defScope (L2.inClass (B 16) 0)
noncomputable abbrev ga_Locks___init__ : Arguments := L2.defArgs (L2.inClass (T 16) 0)
noncomputable abbrev gb_Locks___init__ : FuncBody := .stmts (L2.defBody (L2.inClass (T 16) 0))
noncomputable abbrev gs_Locks___init__ : Scope := L2.defScope (L2.inClass (T 16) 0)
noncomputable def fa_Locks_ask : Arguments := L2.defArgs (L2.inClass (B 16) 1)
noncomputable def fb_Locks_ask : FuncBody := .stmts (L2.defBody (L2.inClass (B 16) 1))
noncomputable def fs_Locks_ask : Scope := L2.defScope (L2.inClass (B 16) 1)
noncomputable abbrev ga_Locks_ask : Arguments := L2.defArgs (L2.inClass (T 16) 1)
noncomputable abbrev gb_Locks_ask : FuncBody := .stmts (L2.defBody (L2.inClass (T 16) 1))
noncomputable abbrev gs_Locks_ask : Scope := L2.defScope (L2.inClass (T 16) 1)
noncomputable def fa_Locks_free : Arguments := L2.defArgs (L2.inClass (B 16) 2)
noncomputable def fb_Locks_free : FuncBody := .stmts (L2.defBody (L2.inClass (B 16) 2))
noncomputable def fs_Locks_free : Scope := L2.defScope (L2.inClass (B 16) 2)
noncomputable abbrev ga_Locks_free : Arguments := L2.defArgs (L2.inClass (T 16) 2)
noncomputable abbrev gb_Locks_free : FuncBody := .stmts (L2.defBody (L2.inClass (T 16) 2))
noncomputable abbrev gs_Locks_free : Scope := L2.defScope (L2.inClass (T 16) 2)
noncomputable def fa_Locks_stands : Arguments := L2.defArgs (L2.inClass (B 16) 3)
noncomputable def fb_Locks_stands : FuncBody := .stmts (L2.defBody (L2.inClass (B 16) 3))
noncomputable def fs_Locks_stands : Scope := L2.defScope (L2.inClass (B 16) 3)
noncomputable abbrev ga_Locks_stands : Arguments := L2.defArgs (L2.inClass (T 16) 3)
noncomputable abbrev gb_Locks_stands : FuncBody := .stmts (L2.defBody (L2.inClass (T 16) 3))
noncomputable abbrev gs_Locks_stands : Scope := L2.defScope (L2.inClass (T 16) 3)
noncomputable def fa_Locks_behind : Arguments := L2.defArgs (L2.inClass (B 16) 4)
noncomputable def fb_Locks_behind : FuncBody := .stmts (L2.defBody (L2.inClass (B 16) 4))
noncomputable def fs_Locks_behind : Scope := L2.defScope (L2.inClass (B 16) 4)
noncomputable abbrev ga_Locks_behind : Arguments := L2.defArgs (L2.inClass (T 16) 4)
noncomputable abbrev gb_Locks_behind : FuncBody := .stmts (L2.defBody (L2.inClass (T 16) 4))
noncomputable abbrev gs_Locks_behind : Scope := L2.defScope (L2.inClass (T 16) 4)
noncomputable def fa_Locks_held : Arguments := L2.defArgs (L2.inClass (B 16) 5)
noncomputable def fb_Locks_held : FuncBody := .stmts (L2.defBody (L2.inClass (B 16) 5))
noncomputable def fs_Locks_held : Scope := L2.defScope (L2.inClass (B 16) 5)
noncomputable abbrev ga_Locks_held : Arguments := L2.defArgs (L2.inClass (T 16) 5)
noncomputable abbrev gb_Locks_held : FuncBody := .stmts (L2.defBody (L2.inClass (T 16) 5))
noncomputable abbrev gs_Locks_held : Scope := L2.defScope (L2.inClass (T 16) 5)
noncomputable def fa_Locks_waiting : Arguments := L2.defArgs (L2.inClass (B 16) 6)
noncomputable def fb_Locks_waiting : FuncBody := .stmts (L2.defBody (L2.inClass (B 16) 6))
noncomputable def fs_Locks_waiting : Scope := L2.defScope (L2.inClass (B 16) 6)
noncomputable abbrev ga_Locks_waiting : Arguments := L2.defArgs (L2.inClass (T 16) 6)
noncomputable abbrev gb_Locks_waiting : FuncBody := .stmts (L2.defBody (L2.inClass (T 16) 6))
noncomputable abbrev gs_Locks_waiting : Scope := L2.defScope (L2.inClass (T 16) 6)
noncomputable def fa_Locks_hinderer : Arguments := L2.defArgs (L2.inClass (B 16) 7)
noncomputable def fb_Locks_hinderer : FuncBody := .stmts (L2.defBody (L2.inClass (B 16) 7))
noncomputable def fs_Locks_hinderer : Scope := L2.defScope (L2.inClass (B 16) 7)
noncomputable abbrev ga_Locks_hinderer : Arguments := L2.defArgs (L2.inClass (T 16) 7)
noncomputable abbrev gb_Locks_hinderer : FuncBody := .stmts (L2.defBody (L2.inClass (T 16) 7))
noncomputable abbrev gs_Locks_hinderer : Scope := L2.defScope (L2.inClass (T 16) 7)
noncomputable def fa_Locks_held_pairs : Arguments := L2.defArgs (L2.inClass (B 16) 8)
noncomputable def fb_Locks_held_pairs : FuncBody := .stmts (L2.defBody (L2.inClass (B 16) 8))
noncomputable def fs_Locks_held_pairs : Scope := L2.defScope (L2.inClass (B 16) 8)
noncomputable abbrev ga_Locks_held_pairs : Arguments := L2.defArgs (L2.inClass (T 16) 8)
noncomputable abbrev gb_Locks_held_pairs : FuncBody := .stmts (L2.defBody (L2.inClass (T 16) 8))
noncomputable abbrev gs_Locks_held_pairs : Scope := L2.defScope (L2.inClass (T 16) 8)
noncomputable def fa_Locks_waiting_pairs : Arguments := L2.defArgs (L2.inClass (B 16) 9)
noncomputable def fb_Locks_waiting_pairs : FuncBody := .stmts (L2.defBody (L2.inClass (B 16) 9))
noncomputable def fs_Locks_waiting_pairs : Scope := L2.defScope (L2.inClass (B 16) 9)
noncomputable abbrev ga_Locks_waiting_pairs : Arguments := L2.defArgs (L2.inClass (T 16) 9)
noncomputable abbrev gb_Locks_waiting_pairs : FuncBody := .stmts (L2.defBody (L2.inClass (T 16) 9))
noncomputable abbrev gs_Locks_waiting_pairs : Scope := L2.defScope (L2.inClass (T 16) 9)
noncomputable def fa_Locks_waiting_place : Arguments := L2.defArgs (L2.inClass (B 16) 10)
noncomputable def fb_Locks_waiting_place : FuncBody := .stmts (L2.defBody (L2.inClass (B 16) 10))
noncomputable def fs_Locks_waiting_place : Scope := L2.defScope (L2.inClass (B 16) 10)
noncomputable abbrev ga_Locks_waiting_place : Arguments := L2.defArgs (L2.inClass (T 16) 10)
noncomputable abbrev gb_Locks_waiting_place : FuncBody := .stmts (L2.defBody (L2.inClass (T 16) 10))
noncomputable abbrev gs_Locks_waiting_place : Scope := L2.defScope (L2.inClass (T 16) 10)
noncomputable def fa_Lock___init__ : Arguments := L2.defArgs (L2.inClass (B 20) 0)
noncomputable def fb_Lock___init__ : FuncBody := .stmts (L2.defBody (L2.inClass (B 20) 0))
noncomputable def fs_Lock___init__ : Scope := L2.defScope (L2.inClass (B 20) 0)
noncomputable abbrev ga_Lock___init__ : Arguments := L2.defArgs (L2.inClass (T 20) 0)
noncomputable abbrev gb_Lock___init__ : FuncBody := .stmts (L2.defBody (L2.inClass (T 20) 0))
noncomputable abbrev gs_Lock___init__ : Scope := L2.defScope (L2.inClass (T 20) 0)
noncomputable def fa_Lock_kind : Arguments := L2.defArgs (L2.inClass (B 20) 1)
noncomputable def fb_Lock_kind : FuncBody := .stmts (L2.defBody (L2.inClass (B 20) 1))
noncomputable def fs_Lock_kind : Scope := L2.defScope (L2.inClass (B 20) 1)
noncomputable abbrev ga_Lock_kind : Arguments := L2.defArgs (L2.inClass (T 20) 1)
noncomputable abbrev gb_Lock_kind : FuncBody := .stmts (L2.defBody (L2.inClass (T 20) 1))
noncomputable abbrev gs_Lock_kind : Scope := L2.defScope (L2.inClass (T 20) 1)
noncomputable def fa_Lock_beside : Arguments := L2.defArgs (L2.inClass (B 20) 2)
noncomputable def fb_Lock_beside : FuncBody := .stmts (L2.defBody (L2.inClass (B 20) 2))
noncomputable def fs_Lock_beside : Scope := L2.defScope (L2.inClass (B 20) 2)
noncomputable abbrev ga_Lock_beside : Arguments := L2.defArgs (L2.inClass (T 20) 2)
noncomputable abbrev gb_Lock_beside : FuncBody := .stmts (L2.defBody (L2.inClass (T 20) 2))
noncomputable abbrev gs_Lock_beside : Scope := L2.defScope (L2.inClass (T 20) 2)
noncomputable def fa_Lock_covers : Arguments := L2.defArgs (L2.inClass (B 20) 3)
noncomputable def fb_Lock_covers : FuncBody := .stmts (L2.defBody (L2.inClass (B 20) 3))
noncomputable def fs_Lock_covers : Scope := L2.defScope (L2.inClass (B 20) 3)
noncomputable abbrev ga_Lock_covers : Arguments := L2.defArgs (L2.inClass (T 20) 3)
noncomputable abbrev gb_Lock_covers : FuncBody := .stmts (L2.defBody (L2.inClass (T 20) 3))
noncomputable abbrev gs_Lock_covers : Scope := L2.defScope (L2.inClass (T 20) 3)
noncomputable def fa_Lock_told : Arguments := L2.defArgs (L2.inClass (B 20) 4)
noncomputable def fb_Lock_told : FuncBody := .stmts (L2.defBody (L2.inClass (B 20) 4))
noncomputable def fs_Lock_told : Scope := L2.defScope (L2.inClass (B 20) 4)
noncomputable abbrev ga_Lock_told : Arguments := L2.defArgs (L2.inClass (T 20) 4)
noncomputable abbrev gb_Lock_told : FuncBody := .stmts (L2.defBody (L2.inClass (T 20) 4))
noncomputable abbrev gs_Lock_told : Scope := L2.defScope (L2.inClass (T 20) 4)
noncomputable def fa_Read_kind : Arguments := L2.defArgs (L2.inClass (B 21) 0)
noncomputable def fb_Read_kind : FuncBody := .stmts (L2.defBody (L2.inClass (B 21) 0))
noncomputable def fs_Read_kind : Scope := L2.defScope (L2.inClass (B 21) 0)
noncomputable abbrev ga_Read_kind : Arguments := L2.defArgs (L2.inClass (T 21) 0)
noncomputable abbrev gb_Read_kind : FuncBody := .stmts (L2.defBody (L2.inClass (T 21) 0))
noncomputable abbrev gs_Read_kind : Scope := L2.defScope (L2.inClass (T 21) 0)
noncomputable def fa_Mean_kind : Arguments := L2.defArgs (L2.inClass (B 22) 0)
noncomputable def fb_Mean_kind : FuncBody := .stmts (L2.defBody (L2.inClass (B 22) 0))
noncomputable def fs_Mean_kind : Scope := L2.defScope (L2.inClass (B 22) 0)
noncomputable abbrev ga_Mean_kind : Arguments := L2.defArgs (L2.inClass (T 22) 0)
noncomputable abbrev gb_Mean_kind : FuncBody := .stmts (L2.defBody (L2.inClass (T 22) 0))
noncomputable abbrev gs_Mean_kind : Scope := L2.defScope (L2.inClass (T 22) 0)
noncomputable def fa_Change_kind : Arguments := L2.defArgs (L2.inClass (B 23) 0)
noncomputable def fb_Change_kind : FuncBody := .stmts (L2.defBody (L2.inClass (B 23) 0))
noncomputable def fs_Change_kind : Scope := L2.defScope (L2.inClass (B 23) 0)
noncomputable abbrev ga_Change_kind : Arguments := L2.defArgs (L2.inClass (T 23) 0)
noncomputable abbrev gb_Change_kind : FuncBody := .stmts (L2.defBody (L2.inClass (T 23) 0))
noncomputable abbrev gs_Change_kind : Scope := L2.defScope (L2.inClass (T 23) 0)
noncomputable def fa_lock_of : Arguments := L2.defArgs (B 24)
noncomputable def fb_lock_of : FuncBody := .stmts (L2.defBody (B 24))
noncomputable def fs_lock_of : Scope := L2.defScope (B 24)
noncomputable abbrev ga_lock_of : Arguments := L2.defArgs (T 24)
noncomputable abbrev gb_lock_of : FuncBody := .stmts (L2.defBody (T 24))
noncomputable abbrev gs_lock_of : Scope := L2.defScope (T 24)
noncomputable def fa__law_cell_at : Arguments := L2.defArgs (B 26)
noncomputable def fb__law_cell_at : FuncBody := .stmts (L2.defBody (B 26))
noncomputable def fs__law_cell_at : Scope := L2.defScope (B 26)
noncomputable abbrev ga__law_cell_at : Arguments := L2.defArgs (T 26)
noncomputable abbrev gb__law_cell_at : FuncBody := .stmts (L2.defBody (T 26))
noncomputable abbrev gs__law_cell_at : Scope := L2.defScope (T 26)
noncomputable def fa__law_names : Arguments := L2.defArgs (B 27)
noncomputable def fb__law_names : FuncBody := .stmts (L2.defBody (B 27))
noncomputable def fs__law_names : Scope := L2.defScope (B 27)
noncomputable abbrev ga__law_names : Arguments := L2.defArgs (T 27)
noncomputable abbrev gb__law_names : FuncBody := .stmts (L2.defBody (T 27))
noncomputable abbrev gs__law_names : Scope := L2.defScope (T 27)
noncomputable def fa__law_told : Arguments := L2.defArgs (B 28)
noncomputable def fb__law_told : FuncBody := .stmts (L2.defBody (B 28))
noncomputable def fs__law_told : Scope := L2.defScope (B 28)
noncomputable abbrev ga__law_told : Arguments := L2.defArgs (T 28)
noncomputable abbrev gb__law_told : FuncBody := .stmts (L2.defBody (T 28))
noncomputable abbrev gs__law_told : Scope := L2.defScope (T 28)
noncomputable def fa__law_beside : Arguments := L2.defArgs (B 29)
noncomputable def fb__law_beside : FuncBody := .stmts (L2.defBody (B 29))
noncomputable def fs__law_beside : Scope := L2.defScope (B 29)
noncomputable abbrev ga__law_beside : Arguments := L2.defArgs (T 29)
noncomputable abbrev gb__law_beside : FuncBody := .stmts (L2.defBody (T 29))
noncomputable abbrev gs__law_beside : Scope := L2.defScope (T 29)
noncomputable def fa__law_hindered : Arguments := L2.defArgs (B 30)
noncomputable def fb__law_hindered : FuncBody := .stmts (L2.defBody (B 30))
noncomputable def fs__law_hindered : Scope := L2.defScope (B 30)
noncomputable abbrev ga__law_hindered : Arguments := L2.defArgs (T 30)
noncomputable abbrev gb__law_hindered : FuncBody := .stmts (L2.defBody (T 30))
noncomputable abbrev gs__law_hindered : Scope := L2.defScope (T 30)
noncomputable def fa__law_refused : Arguments := L2.defArgs (B 31)
noncomputable def fb__law_refused : FuncBody := .stmts (L2.defBody (B 31))
noncomputable def fs__law_refused : Scope := L2.defScope (B 31)
noncomputable abbrev ga__law_refused : Arguments := L2.defArgs (T 31)
noncomputable abbrev gb__law_refused : FuncBody := .stmts (L2.defBody (T 31))
noncomputable abbrev gs__law_refused : Scope := L2.defScope (T 31)
noncomputable def fa__law_asked : Arguments := L2.defArgs (B 32)
noncomputable def fb__law_asked : FuncBody := .stmts (L2.defBody (B 32))
noncomputable def fs__law_asked : Scope := L2.defScope (B 32)
noncomputable abbrev ga__law_asked : Arguments := L2.defArgs (T 32)
noncomputable abbrev gb__law_asked : FuncBody := .stmts (L2.defBody (T 32))
noncomputable abbrev gs__law_asked : Scope := L2.defScope (T 32)
noncomputable def fa_law : Arguments := L2.defArgs (B 33)
noncomputable def fb_law : FuncBody := .stmts (L2.defBody (B 33))
noncomputable def fs_law : Scope := L2.defScope (B 33)
noncomputable abbrev ga_law : Arguments := L2.defArgs (T 33)
noncomputable abbrev gb_law : FuncBody := .stmts (L2.defBody (T 33))
noncomputable abbrev gs_law : Scope := L2.defScope (T 33)
noncomputable def a11 (P : Params) : Obj := (Obj.mk y0 none (Data.seq E 0) E)
noncomputable def a12 (P : Params) : Obj := (Obj.mk vn none (Data.fields E) E)
noncomputable def a13 (P : Params) : Obj := (Obj.mk y1 none (Data.fields (A [(vs q0 182), (vs q0 183), (vs q1 184), (vi 1 0), (vi 0 0), (vi 0 0), (vi 0 0), (vi 0 0), (vr 11), vF, (vi 181 0), (vr 12), vn, vn, vn, vn, (vi 185 0), (vi 1 0), (vs q1 186)])) E)
noncomputable def a14 (P : Params) : Obj := (Obj.mk y2 none Data.plain (A [(sr 13), (sr 3), (sr 3), none, (some (vs q2 164)), none, (sr 0)]))
noncomputable def ta (P : Params) : BT := (nd (boot_o_0 P) (nd (boot_o_1 P) (nd (boot_o_3 P) (l1 (boot_o_7 P)) (l1 (a11 P))) (nd (boot_o_5 P) (l1 (boot_o_9 P)) (l1 (a13 P)))) (nd (boot_o_2 P) (nd (boot_o_4 P) (l1 (boot_o_8 P)) (l1 (a12 P))) (nd (boot_o_6 P) (l1 (boot_o_10 P)) (l1 (a14 P)))))
noncomputable def sa (w : World) (os : OsState) : SharedT := SharedT.mk (ta w.params) 15 (@Life.mk [] [] [] 0 [] [] Bool.false E [] 0 Bool.false Bool.false Bool.false 0 [2000, 10, 10] Bool.false 0 Bool.true [] [] 0 Bool.false) E (@Drawn.mk 0 0 0 0) 187 os
noncomputable def tb (P : Params) : BT := (nd (boot_o_0 P) (nd (boot_o_1 P) (nd (boot_o_3 P) (l1 (boot_o_7 P)) (l1 (a11 P))) (nd (boot_o_5 P) (l1 (boot_o_9 P)) (l1 (a13 P)))) (nd (boot_o_2 P) (nd (boot_o_4 P) (l1 (boot_o_8 P)) (l1 (a12 P))) (nd (boot_o_6 P) (l1 (boot_o_10 P)) (l1 (a14 P)))))
noncomputable def sb (w : World) (os : OsState) : SharedT := SharedT.mk (tb w.params) 15 (@Life.mk [] [] [] 0 [] [] Bool.false E [] 0 Bool.false Bool.false Bool.false 0 [2000, 10, 10] Bool.false 0 Bool.true [] [] 0 Bool.false) E (@Drawn.mk 0 0 0 0) 187 os
noncomputable def c0_3 (P : Params) : Obj := (Obj.mk y3 none (Data.dict (A [(de P q3 165 (vs q4 194)), (de P q5 166 vn), (de P q6 167 vn), (de P q7 168 y4), (de P q8 169 vn), (de P q9 170 (vr 6)), (de P q10 171 (vr 4)), (de P q11 173 (vs q1 172)), (de P q12 174 vn), (de P q13 193 (vr 21)), (de P q14 213 (vr 31)), (de P q15 229 (vr 44))]) 12) E)
noncomputable def c0_12 (P : Params) : Obj := (Obj.mk vn none (Data.fields (A [(vi 1 0), (vi 0 0), (vr 20), (vi 5 0), (vi 0 0), (vr 27), (vi 7 0), (vi 0 0), (vr 40)])) E)
noncomputable def c0_17 (P : Params) : Obj := (Obj.mk y0 none (Data.seq (A [(vs q16 190)]) 0) E)
noncomputable def c0_19 (P : Params) : Obj := (Obj.mk vn none (Data.func (FuncData.mk q13 q13 fa__wall fb__wall fs__wall 0 [] vn vn vn vn none vn vn 0)) E)
noncomputable def c0_20 (P : Params) : Obj := (Obj.mk y1 none (Data.fields (A [(vs q13 187), (vs q13 188), (vs q1 189), (vi 1 0), (vi 1 0), (vi 0 0), (vi 0 0), (vi 3 0), (vr 15), vT, (vi 181 0), (vr 16), vn, (vr 17), (vr 18), (vr 19), (vi 191 0), (vi 1 0), (vs q1 192)])) E)
noncomputable def c0_21 (P : Params) : Obj := (Obj.mk y5 none (Data.func (FuncData.mk q13 q13 fa__wall fb__wall fs__wall 3 [] vn vn vn (vs q2 164) none (vr 20) vn 0)) E)
noncomputable def c0_22 (P : Params) : Obj := (Obj.mk y0 none (Data.seq (A [y6]) 0) E)
noncomputable def c0_23 (P : Params) : Obj := (Obj.mk y7 none (Data.fields (A [y8, y9])) E)
noncomputable def c0_24 (P : Params) : Obj := (Obj.mk y3 none (Data.dict (A [(de P q17 203 (vs q4 194)), (de P q18 205 (vs q14 204)), (de P q19 207 (vi 5 206)), (de P q20 208 (vr 29))]) 4) E)
noncomputable def c0_27 (P : Params) : Obj := (Obj.mk y1 none (Data.fields (A [(vs q14 198), (vs q14 199), (vs q1 200), (vi 5 0), (vi 0 0), (vi 0 0), (vi 0 0), (vi 0 0), (vr 25), vF, (vi 181 0), (vr 26), vn, vn, vn, vn, (vi 201 0), (vi 5 0), (vs q1 202)])) E)
noncomputable def c0_28 (P : Params) : Obj := (Obj.mk y2 none Data.plain (A [(sr 27), (sr 3), (sr 24), none, (some (vs q4 194)), none, (sr 0)]))
noncomputable def c0_30 (P : Params) : Obj := (Obj.mk y3 none (Data.dict (A [(de P q17 203 (vs q4 194)), (de P q19 207 (vi 5 206)), (de P q20 208 (vr 29)), (de P q21 210 (vr 32)), (de P q5 211 vn)]) 3) E)
noncomputable def c0_31 (P : Params) : Obj := (Obj.mk y9 none (Data.cls (ClassData.mk q14 [y6] [(vr 31), y6, y10, y11, y12] 30 q14 Bool.true [] [(vr 44)] Bool.false none Bool.false)) (A [(sr 22), none, (some (vs q14 196)), (some (vs q14 204)), (some y13), (some vT)]))
noncomputable def c0_32 (P : Params) : Obj := (Obj.mk y14 none (Data.fields (A [(vs q21 209), (vr 31), y15, vn])) E)
noncomputable def c0_33 (P : Params) : Obj := (Obj.mk y16 none (Data.fields (A [(vr 31), (vr 31), (vr 31)])) E)
noncomputable def c0_34 (P : Params) : Obj := (Obj.mk y7 none (Data.fields (A [y17, (vr 31)])) E)
noncomputable def c0_35 (P : Params) : Obj := (Obj.mk y0 none (Data.seq (A [(vr 31)]) 0) E)
noncomputable def c0_37 (P : Params) : Obj := (Obj.mk y3 none (Data.dict (A [(de P q17 221 (vs q4 194)), (de P q18 223 (vs q15 222)), (de P q19 225 (vi 7 224)), (de P q20 226 (vr 42))]) 4) E)
noncomputable def c0_40 (P : Params) : Obj := (Obj.mk y1 none (Data.fields (A [(vs q15 216), (vs q15 217), (vs q1 218), (vi 7 0), (vi 0 0), (vi 0 0), (vi 0 0), (vi 0 0), (vr 38), vF, (vi 181 0), (vr 39), vn, vn, vn, vn, (vi 219 0), (vi 7 0), (vs q1 220)])) E)
noncomputable def c0_41 (P : Params) : Obj := (Obj.mk y2 none Data.plain (A [(sr 40), (sr 3), (sr 37), none, (some (vs q4 194)), none, (sr 0)]))
noncomputable def c0_43 (P : Params) : Obj := (Obj.mk y3 none (Data.dict (A [(de P q17 221 (vs q4 194)), (de P q19 225 (vi 7 224)), (de P q20 226 (vr 42)), (de P q5 227 vn)]) 2) E)
noncomputable def c0_44 (P : Params) : Obj := (Obj.mk y9 none (Data.cls (ClassData.mk q15 [(vr 31)] [(vr 44), (vr 31), y6, y10, y11, y12] 43 q15 Bool.true [] [] Bool.false none Bool.false)) (A [(sr 35), none, (some (vs q15 214)), (some (vs q15 222)), (some y13), (some vT)]))
noncomputable def c0_45 (P : Params) : Obj := (Obj.mk y16 none (Data.fields (A [(vr 44), (vr 44), (vr 44)])) E)
noncomputable def c0_46 (P : Params) : Obj := (Obj.mk y7 none (Data.fields (A [y17, (vr 44)])) E)
noncomputable def tc0_ (P : Params) : BT := (nd (boot_o_0 P) (nd (boot_o_1 P) (nd (c0_3 P) (nd (boot_o_7 P) (nd (a11 P) (l1 (c0_31 P)) .nil) (nd (c0_23 P) (l1 (a12 P)) .nil)) (nd (a11 P) (nd (c0_19 P) (l1 (c0_35 P)) .nil) (nd (c0_27 P) (l1 (c0_43 P)) .nil))) (nd (boot_o_5 P) (nd (boot_o_9 P) (nd (c0_17 P) (l1 (c0_33 P)) .nil) (nd (a11 P) (l1 (c0_41 P)) .nil)) (nd (a13 P) (nd (c0_21 P) (l1 (c0_37 P)) .nil) (nd (a11 P) (l1 (c0_45 P)) .nil)))) (nd (boot_o_2 P) (nd (boot_o_4 P) (nd (boot_o_8 P) (nd (a12 P) (l1 (c0_32 P)) .nil) (nd (c0_24 P) (l1 (c0_40 P)) .nil)) (nd (c0_12 P) (nd (c0_20 P) (l1 (c0_23 P)) .nil) (nd (c0_28 P) (l1 (c0_44 P)) .nil))) (nd (boot_o_6 P) (nd (boot_o_10 P) (nd (a11 P) (l1 (c0_34 P)) .nil) (nd (a12 P) (l1 (a11 P)) .nil)) (nd (a14 P) (nd (c0_22 P) (l1 (a11 P)) .nil) (nd (c0_30 P) (l1 (c0_46 P)) .nil)))))
noncomputable def sc0_ (w : World) (os : OsState) : SharedT := SharedT.mk (tc0_ w.params) 47 (@Life.mk [] [] [] 0 [] [] Bool.false E [] 0 Bool.false Bool.false Bool.false 0 [2000, 10, 10] Bool.false 0 Bool.true [] [] 0 Bool.false) E (@Drawn.mk 0 0 0 0) 230 os
noncomputable def c1_3 (P : Params) : Obj := (Obj.mk y3 none (Data.dict (A [(de P q3 165 (vs q4 194)), (de P q5 166 vn), (de P q6 167 vn), (de P q7 168 y4), (de P q8 169 vn), (de P q9 170 (vr 6)), (de P q10 171 (vr 4)), (de P q11 173 (vs q1 172)), (de P q12 174 vn), (de P q13 193 (vr 21)), (de P q14 213 (vr 31)), (de P q15 229 (vr 44)), (de P q22 245 (vr 56)), (de P q23 261 (vr 68))]) 14) E)
noncomputable def c1_12 (P : Params) : Obj := (Obj.mk vn none (Data.fields (A [(vi 1 0), (vi 0 0), (vr 20), (vi 5 0), (vi 0 0), (vr 27), (vi 7 0), (vi 0 0), (vr 40), (vi 9 0), (vi 0 0), (vr 52), (vi 11 0), (vi 0 0), (vr 64)])) E)
noncomputable def c1_31 (P : Params) : Obj := (Obj.mk y9 none (Data.cls (ClassData.mk q14 [y6] [(vr 31), y6, y10, y11, y12] 30 q14 Bool.true [] [(vr 44), (vr 56), (vr 68)] Bool.false none Bool.false)) (A [(sr 22), none, (some (vs q14 196)), (some (vs q14 204)), (some y13), (some vT)]))
noncomputable def c1_49 (P : Params) : Obj := (Obj.mk y3 none (Data.dict (A [(de P q17 237 (vs q4 194)), (de P q18 239 (vs q22 238)), (de P q19 241 (vi 9 240)), (de P q20 242 (vr 54))]) 4) E)
noncomputable def c1_52 (P : Params) : Obj := (Obj.mk y1 none (Data.fields (A [(vs q22 232), (vs q22 233), (vs q1 234), (vi 9 0), (vi 0 0), (vi 0 0), (vi 0 0), (vi 0 0), (vr 50), vF, (vi 181 0), (vr 51), vn, vn, vn, vn, (vi 235 0), (vi 9 0), (vs q1 236)])) E)
noncomputable def c1_53 (P : Params) : Obj := (Obj.mk y2 none Data.plain (A [(sr 52), (sr 3), (sr 49), none, (some (vs q4 194)), none, (sr 0)]))
noncomputable def c1_55 (P : Params) : Obj := (Obj.mk y3 none (Data.dict (A [(de P q17 237 (vs q4 194)), (de P q19 241 (vi 9 240)), (de P q20 242 (vr 54)), (de P q5 243 vn)]) 2) E)
noncomputable def c1_56 (P : Params) : Obj := (Obj.mk y9 none (Data.cls (ClassData.mk q22 [(vr 31)] [(vr 56), (vr 31), y6, y10, y11, y12] 55 q22 Bool.true [] [] Bool.false none Bool.false)) (A [(sr 47), none, (some (vs q22 230)), (some (vs q22 238)), (some y13), (some vT)]))
noncomputable def c1_57 (P : Params) : Obj := (Obj.mk y16 none (Data.fields (A [(vr 56), (vr 56), (vr 56)])) E)
noncomputable def c1_58 (P : Params) : Obj := (Obj.mk y7 none (Data.fields (A [y17, (vr 56)])) E)
noncomputable def c1_61 (P : Params) : Obj := (Obj.mk y3 none (Data.dict (A [(de P q17 253 (vs q4 194)), (de P q18 255 (vs q23 254)), (de P q19 257 (vi 11 256)), (de P q20 258 (vr 66))]) 4) E)
noncomputable def c1_64 (P : Params) : Obj := (Obj.mk y1 none (Data.fields (A [(vs q23 248), (vs q23 249), (vs q1 250), (vi 11 0), (vi 0 0), (vi 0 0), (vi 0 0), (vi 0 0), (vr 62), vF, (vi 181 0), (vr 63), vn, vn, vn, vn, (vi 251 0), (vi 11 0), (vs q1 252)])) E)
noncomputable def c1_65 (P : Params) : Obj := (Obj.mk y2 none Data.plain (A [(sr 64), (sr 3), (sr 61), none, (some (vs q4 194)), none, (sr 0)]))
noncomputable def c1_67 (P : Params) : Obj := (Obj.mk y3 none (Data.dict (A [(de P q17 253 (vs q4 194)), (de P q19 257 (vi 11 256)), (de P q20 258 (vr 66)), (de P q5 259 vn)]) 2) E)
noncomputable def c1_68 (P : Params) : Obj := (Obj.mk y9 none (Data.cls (ClassData.mk q23 [(vr 31)] [(vr 68), (vr 31), y6, y10, y11, y12] 67 q23 Bool.true [] [] Bool.false none Bool.false)) (A [(sr 59), none, (some (vs q23 246)), (some (vs q23 254)), (some y13), (some vT)]))
noncomputable def c1_69 (P : Params) : Obj := (Obj.mk y16 none (Data.fields (A [(vr 68), (vr 68), (vr 68)])) E)
noncomputable def c1_70 (P : Params) : Obj := (Obj.mk y7 none (Data.fields (A [y17, (vr 68)])) E)
noncomputable def tc1_ (P : Params) : BT := (nd (boot_o_0 P) (nd (boot_o_1 P) (nd (c1_3 P) (nd (boot_o_7 P) (nd (a11 P) (nd (c1_31 P) (l1 (a12 P)) .nil) (l1 (c0_35 P))) (nd (c0_23 P) (l1 (a12 P)) (l1 (c1_55 P)))) (nd (a11 P) (nd (c0_19 P) (nd (c0_35 P) (l1 (c1_67 P)) .nil) (l1 (a12 P))) (nd (c0_27 P) (l1 (c0_43 P)) (l1 (c0_35 P))))) (nd (boot_o_5 P) (nd (boot_o_9 P) (nd (c0_17 P) (nd (c0_33 P) (l1 (c1_65 P)) .nil) (l1 (c1_49 P))) (nd (a11 P) (l1 (c0_41 P)) (l1 (c1_57 P)))) (nd (a13 P) (nd (c0_21 P) (nd (c0_37 P) (l1 (c1_69 P)) .nil) (l1 (c1_53 P))) (nd (a11 P) (l1 (c0_45 P)) (l1 (c1_61 P)))))) (nd (boot_o_2 P) (nd (boot_o_4 P) (nd (boot_o_8 P) (nd (a12 P) (nd (c0_32 P) (l1 (c1_64 P)) .nil) (l1 (c0_23 P))) (nd (c0_24 P) (l1 (c0_40 P)) (l1 (c1_56 P)))) (nd (c1_12 P) (nd (c0_20 P) (nd (c0_23 P) (l1 (c1_68 P)) .nil) (l1 (c1_52 P))) (nd (c0_28 P) (l1 (c0_44 P)) (l1 (c0_23 P))))) (nd (boot_o_6 P) (nd (boot_o_10 P) (nd (a11 P) (nd (c0_34 P) (l1 (a11 P)) .nil) (l1 (a11 P))) (nd (a12 P) (l1 (a11 P)) (l1 (c1_58 P)))) (nd (a14 P) (nd (c0_22 P) (nd (a11 P) (l1 (c1_70 P)) .nil) (l1 (a11 P))) (nd (c0_30 P) (l1 (c0_46 P)) (l1 (a11 P)))))))
noncomputable def sc1_ (w : World) (os : OsState) : SharedT := SharedT.mk (tc1_ w.params) 71 (@Life.mk [] [] [] 0 [] [] Bool.false E [] 0 Bool.false Bool.false Bool.false 0 [2000, 10, 10] Bool.false 0 Bool.true [] [] 0 Bool.false) E (@Drawn.mk 0 0 0 0) 262 os
noncomputable def c2_3 (P : Params) : Obj := (Obj.mk y3 none (Data.dict (A [(de P q3 165 (vs q4 194)), (de P q5 166 vn), (de P q6 167 vn), (de P q7 168 y4), (de P q8 169 vn), (de P q9 170 (vr 6)), (de P q10 171 (vr 4)), (de P q11 173 (vs q1 172)), (de P q12 174 vn), (de P q13 193 (vr 21)), (de P q14 213 (vr 31)), (de P q15 229 (vr 44)), (de P q22 245 (vr 56)), (de P q23 261 (vr 68)), (de P q24 277 (vr 80)), (de P q25 293 (vr 92))]) 16) E)
noncomputable def c2_12 (P : Params) : Obj := (Obj.mk vn none (Data.fields (A [(vi 1 0), (vi 0 0), (vr 20), (vi 5 0), (vi 0 0), (vr 27), (vi 7 0), (vi 0 0), (vr 40), (vi 9 0), (vi 0 0), (vr 52), (vi 11 0), (vi 0 0), (vr 64), (vi 13 0), (vi 0 0), (vr 76), (vi 15 0), (vi 0 0), (vr 88)])) E)
noncomputable def c2_31 (P : Params) : Obj := (Obj.mk y9 none (Data.cls (ClassData.mk q14 [y6] [(vr 31), y6, y10, y11, y12] 30 q14 Bool.true [] [(vr 44), (vr 56), (vr 68), (vr 80), (vr 92)] Bool.false none Bool.false)) (A [(sr 22), none, (some (vs q14 196)), (some (vs q14 204)), (some y13), (some vT)]))
noncomputable def c2_73 (P : Params) : Obj := (Obj.mk y3 none (Data.dict (A [(de P q17 269 (vs q4 194)), (de P q18 271 (vs q24 270)), (de P q19 273 (vi 13 272)), (de P q20 274 (vr 78))]) 4) E)
noncomputable def c2_76 (P : Params) : Obj := (Obj.mk y1 none (Data.fields (A [(vs q24 264), (vs q24 265), (vs q1 266), (vi 13 0), (vi 0 0), (vi 0 0), (vi 0 0), (vi 0 0), (vr 74), vF, (vi 181 0), (vr 75), vn, vn, vn, vn, (vi 267 0), (vi 13 0), (vs q1 268)])) E)
noncomputable def c2_77 (P : Params) : Obj := (Obj.mk y2 none Data.plain (A [(sr 76), (sr 3), (sr 73), none, (some (vs q4 194)), none, (sr 0)]))
noncomputable def c2_79 (P : Params) : Obj := (Obj.mk y3 none (Data.dict (A [(de P q17 269 (vs q4 194)), (de P q19 273 (vi 13 272)), (de P q20 274 (vr 78)), (de P q5 275 vn)]) 2) E)
noncomputable def c2_80 (P : Params) : Obj := (Obj.mk y9 none (Data.cls (ClassData.mk q24 [(vr 31)] [(vr 80), (vr 31), y6, y10, y11, y12] 79 q24 Bool.true [] [] Bool.false none Bool.false)) (A [(sr 71), none, (some (vs q24 262)), (some (vs q24 270)), (some y13), (some vT)]))
noncomputable def c2_81 (P : Params) : Obj := (Obj.mk y16 none (Data.fields (A [(vr 80), (vr 80), (vr 80)])) E)
noncomputable def c2_82 (P : Params) : Obj := (Obj.mk y7 none (Data.fields (A [y17, (vr 80)])) E)
noncomputable def c2_85 (P : Params) : Obj := (Obj.mk y3 none (Data.dict (A [(de P q17 285 (vs q4 194)), (de P q18 287 (vs q25 286)), (de P q19 289 (vi 15 288)), (de P q20 290 (vr 90))]) 4) E)
noncomputable def c2_88 (P : Params) : Obj := (Obj.mk y1 none (Data.fields (A [(vs q25 280), (vs q25 281), (vs q1 282), (vi 15 0), (vi 0 0), (vi 0 0), (vi 0 0), (vi 0 0), (vr 86), vF, (vi 181 0), (vr 87), vn, vn, vn, vn, (vi 283 0), (vi 15 0), (vs q1 284)])) E)
noncomputable def c2_89 (P : Params) : Obj := (Obj.mk y2 none Data.plain (A [(sr 88), (sr 3), (sr 85), none, (some (vs q4 194)), none, (sr 0)]))
noncomputable def c2_91 (P : Params) : Obj := (Obj.mk y3 none (Data.dict (A [(de P q17 285 (vs q4 194)), (de P q19 289 (vi 15 288)), (de P q20 290 (vr 90)), (de P q5 291 vn)]) 2) E)
noncomputable def c2_92 (P : Params) : Obj := (Obj.mk y9 none (Data.cls (ClassData.mk q25 [(vr 31)] [(vr 92), (vr 31), y6, y10, y11, y12] 91 q25 Bool.true [] [] Bool.false none Bool.false)) (A [(sr 83), none, (some (vs q25 278)), (some (vs q25 286)), (some y13), (some vT)]))
noncomputable def c2_93 (P : Params) : Obj := (Obj.mk y16 none (Data.fields (A [(vr 92), (vr 92), (vr 92)])) E)
noncomputable def c2_94 (P : Params) : Obj := (Obj.mk y7 none (Data.fields (A [y17, (vr 92)])) E)
noncomputable def tc2_ (P : Params) : BT := (nd (boot_o_0 P) (nd (boot_o_1 P) (nd (c2_3 P) (nd (boot_o_7 P) (nd (a11 P) (nd (c2_31 P) (l1 (a12 P)) .nil) (nd (c0_35 P) (l1 (c2_79 P)) .nil)) (nd (c0_23 P) (nd (a12 P) (l1 (c0_35 P)) .nil) (nd (c1_55 P) (l1 (a12 P)) .nil))) (nd (a11 P) (nd (c0_19 P) (nd (c0_35 P) (l1 (c1_67 P)) .nil) (nd (a12 P) (l1 (c0_35 P)) .nil)) (nd (c0_27 P) (nd (c0_43 P) (l1 (a12 P)) .nil) (nd (c0_35 P) (l1 (c2_91 P)) .nil)))) (nd (boot_o_5 P) (nd (boot_o_9 P) (nd (c0_17 P) (nd (c0_33 P) (l1 (c1_65 P)) .nil) (nd (c1_49 P) (l1 (c2_81 P)) .nil)) (nd (a11 P) (nd (c0_41 P) (l1 (c2_73 P)) .nil) (nd (c1_57 P) (l1 (c2_89 P)) .nil))) (nd (a13 P) (nd (c0_21 P) (nd (c0_37 P) (l1 (c1_69 P)) .nil) (nd (c1_53 P) (l1 (c2_85 P)) .nil)) (nd (a11 P) (nd (c0_45 P) (l1 (c2_77 P)) .nil) (nd (c1_61 P) (l1 (c2_93 P)) .nil))))) (nd (boot_o_2 P) (nd (boot_o_4 P) (nd (boot_o_8 P) (nd (a12 P) (nd (c0_32 P) (l1 (c1_64 P)) .nil) (nd (c0_23 P) (l1 (c2_80 P)) .nil)) (nd (c0_24 P) (nd (c0_40 P) (l1 (c0_23 P)) .nil) (nd (c1_56 P) (l1 (c2_88 P)) .nil))) (nd (c2_12 P) (nd (c0_20 P) (nd (c0_23 P) (l1 (c1_68 P)) .nil) (nd (c1_52 P) (l1 (c0_23 P)) .nil)) (nd (c0_28 P) (nd (c0_44 P) (l1 (c2_76 P)) .nil) (nd (c0_23 P) (l1 (c2_92 P)) .nil)))) (nd (boot_o_6 P) (nd (boot_o_10 P) (nd (a11 P) (nd (c0_34 P) (l1 (a11 P)) .nil) (nd (a11 P) (l1 (c2_82 P)) .nil)) (nd (a12 P) (nd (a11 P) (l1 (a11 P)) .nil) (nd (c1_58 P) (l1 (a11 P)) .nil))) (nd (a14 P) (nd (c0_22 P) (nd (a11 P) (l1 (c1_70 P)) .nil) (nd (a11 P) (l1 (a11 P)) .nil)) (nd (c0_30 P) (nd (c0_46 P) (l1 (a11 P)) .nil) (nd (a11 P) (l1 (c2_94 P)) .nil))))))
noncomputable def sc2_ (w : World) (os : OsState) : SharedT := SharedT.mk (tc2_ w.params) 95 (@Life.mk [] [] [] 0 [] [] Bool.false E [] 0 Bool.false Bool.false Bool.false 0 [2000, 10, 10] Bool.false 0 Bool.true [] [] 0 Bool.false) E (@Drawn.mk 0 0 0 0) 294 os
noncomputable def c3_3 (P : Params) : Obj := (Obj.mk y3 none (Data.dict (A [(de P q3 165 (vs q4 194)), (de P q5 166 vn), (de P q6 167 vn), (de P q7 168 y4), (de P q8 169 vn), (de P q9 170 (vr 6)), (de P q10 171 (vr 4)), (de P q11 173 (vs q1 172)), (de P q12 174 vn), (de P q13 193 (vr 21)), (de P q14 213 (vr 31)), (de P q15 229 (vr 44)), (de P q22 245 (vr 56)), (de P q23 261 (vr 68)), (de P q24 277 (vr 80)), (de P q25 293 (vr 92)), (de P q26 309 (vr 104)), (de P q27 325 (vr 116))]) 18) E)
noncomputable def c3_12 (P : Params) : Obj := (Obj.mk vn none (Data.fields (A [(vi 1 0), (vi 0 0), (vr 20), (vi 5 0), (vi 0 0), (vr 27), (vi 7 0), (vi 0 0), (vr 40), (vi 9 0), (vi 0 0), (vr 52), (vi 11 0), (vi 0 0), (vr 64), (vi 13 0), (vi 0 0), (vr 76), (vi 15 0), (vi 0 0), (vr 88), (vi 17 0), (vi 0 0), (vr 100), (vi 19 0), (vi 0 0), (vr 112)])) E)
noncomputable def c3_31 (P : Params) : Obj := (Obj.mk y9 none (Data.cls (ClassData.mk q14 [y6] [(vr 31), y6, y10, y11, y12] 30 q14 Bool.true [] [(vr 44), (vr 56), (vr 68), (vr 80), (vr 92), (vr 104), (vr 116)] Bool.false none Bool.false)) (A [(sr 22), none, (some (vs q14 196)), (some (vs q14 204)), (some y13), (some vT)]))
noncomputable def c3_97 (P : Params) : Obj := (Obj.mk y3 none (Data.dict (A [(de P q17 301 (vs q4 194)), (de P q18 303 (vs q26 302)), (de P q19 305 (vi 17 304)), (de P q20 306 (vr 102))]) 4) E)
noncomputable def c3_100 (P : Params) : Obj := (Obj.mk y1 none (Data.fields (A [(vs q26 296), (vs q26 297), (vs q1 298), (vi 17 0), (vi 0 0), (vi 0 0), (vi 0 0), (vi 0 0), (vr 98), vF, (vi 181 0), (vr 99), vn, vn, vn, vn, (vi 299 0), (vi 17 0), (vs q1 300)])) E)
noncomputable def c3_101 (P : Params) : Obj := (Obj.mk y2 none Data.plain (A [(sr 100), (sr 3), (sr 97), none, (some (vs q4 194)), none, (sr 0)]))
noncomputable def c3_103 (P : Params) : Obj := (Obj.mk y3 none (Data.dict (A [(de P q17 301 (vs q4 194)), (de P q19 305 (vi 17 304)), (de P q20 306 (vr 102)), (de P q5 307 vn)]) 2) E)
noncomputable def c3_104 (P : Params) : Obj := (Obj.mk y9 none (Data.cls (ClassData.mk q26 [(vr 31)] [(vr 104), (vr 31), y6, y10, y11, y12] 103 q26 Bool.true [] [] Bool.false none Bool.false)) (A [(sr 95), none, (some (vs q26 294)), (some (vs q26 302)), (some y13), (some vT)]))
noncomputable def c3_105 (P : Params) : Obj := (Obj.mk y16 none (Data.fields (A [(vr 104), (vr 104), (vr 104)])) E)
noncomputable def c3_106 (P : Params) : Obj := (Obj.mk y7 none (Data.fields (A [y17, (vr 104)])) E)
noncomputable def c3_109 (P : Params) : Obj := (Obj.mk y3 none (Data.dict (A [(de P q17 317 (vs q4 194)), (de P q18 319 (vs q27 318)), (de P q19 321 (vi 19 320)), (de P q20 322 (vr 114))]) 4) E)
noncomputable def c3_112 (P : Params) : Obj := (Obj.mk y1 none (Data.fields (A [(vs q27 312), (vs q27 313), (vs q1 314), (vi 19 0), (vi 0 0), (vi 0 0), (vi 0 0), (vi 0 0), (vr 110), vF, (vi 181 0), (vr 111), vn, vn, vn, vn, (vi 315 0), (vi 19 0), (vs q1 316)])) E)
noncomputable def c3_113 (P : Params) : Obj := (Obj.mk y2 none Data.plain (A [(sr 112), (sr 3), (sr 109), none, (some (vs q4 194)), none, (sr 0)]))
noncomputable def c3_115 (P : Params) : Obj := (Obj.mk y3 none (Data.dict (A [(de P q17 317 (vs q4 194)), (de P q19 321 (vi 19 320)), (de P q20 322 (vr 114)), (de P q5 323 vn)]) 2) E)
noncomputable def c3_116 (P : Params) : Obj := (Obj.mk y9 none (Data.cls (ClassData.mk q27 [(vr 31)] [(vr 116), (vr 31), y6, y10, y11, y12] 115 q27 Bool.true [] [] Bool.false none Bool.false)) (A [(sr 107), none, (some (vs q27 310)), (some (vs q27 318)), (some y13), (some vT)]))
noncomputable def c3_117 (P : Params) : Obj := (Obj.mk y16 none (Data.fields (A [(vr 116), (vr 116), (vr 116)])) E)
noncomputable def c3_118 (P : Params) : Obj := (Obj.mk y7 none (Data.fields (A [y17, (vr 116)])) E)
noncomputable def tc3_ (P : Params) : BT := (nd (boot_o_0 P) (nd (boot_o_1 P) (nd (c3_3 P) (nd (boot_o_7 P) (nd (a11 P) (nd (c3_31 P) (l1 (a12 P)) (l1 (c0_35 P))) (nd (c0_35 P) (l1 (c2_79 P)) (l1 (a12 P)))) (nd (c0_23 P) (nd (a12 P) (l1 (c0_35 P)) (l1 (c3_103 P))) (nd (c1_55 P) (l1 (a12 P)) .nil))) (nd (a11 P) (nd (c0_19 P) (nd (c0_35 P) (l1 (c1_67 P)) (l1 (a12 P))) (nd (a12 P) (l1 (c0_35 P)) (l1 (c3_115 P)))) (nd (c0_27 P) (nd (c0_43 P) (l1 (a12 P)) (l1 (c0_35 P))) (nd (c0_35 P) (l1 (c2_91 P)) .nil)))) (nd (boot_o_5 P) (nd (boot_o_9 P) (nd (c0_17 P) (nd (c0_33 P) (l1 (c1_65 P)) (l1 (c3_97 P))) (nd (c1_49 P) (l1 (c2_81 P)) (l1 (c3_113 P)))) (nd (a11 P) (nd (c0_41 P) (l1 (c2_73 P)) (l1 (c3_105 P))) (nd (c1_57 P) (l1 (c2_89 P)) .nil))) (nd (a13 P) (nd (c0_21 P) (nd (c0_37 P) (l1 (c1_69 P)) (l1 (c3_101 P))) (nd (c1_53 P) (l1 (c2_85 P)) (l1 (c3_117 P)))) (nd (a11 P) (nd (c0_45 P) (l1 (c2_77 P)) (l1 (c3_109 P))) (nd (c1_61 P) (l1 (c2_93 P)) .nil))))) (nd (boot_o_2 P) (nd (boot_o_4 P) (nd (boot_o_8 P) (nd (a12 P) (nd (c0_32 P) (l1 (c1_64 P)) (l1 (c0_23 P))) (nd (c0_23 P) (l1 (c2_80 P)) (l1 (c3_112 P)))) (nd (c0_24 P) (nd (c0_40 P) (l1 (c0_23 P)) (l1 (c3_104 P))) (nd (c1_56 P) (l1 (c2_88 P)) .nil))) (nd (c3_12 P) (nd (c0_20 P) (nd (c0_23 P) (l1 (c1_68 P)) (l1 (c3_100 P))) (nd (c1_52 P) (l1 (c0_23 P)) (l1 (c3_116 P)))) (nd (c0_28 P) (nd (c0_44 P) (l1 (c2_76 P)) (l1 (c0_23 P))) (nd (c0_23 P) (l1 (c2_92 P)) .nil)))) (nd (boot_o_6 P) (nd (boot_o_10 P) (nd (a11 P) (nd (c0_34 P) (l1 (a11 P)) (l1 (a11 P))) (nd (a11 P) (l1 (c2_82 P)) (l1 (a11 P)))) (nd (a12 P) (nd (a11 P) (l1 (a11 P)) (l1 (c3_106 P))) (nd (c1_58 P) (l1 (a11 P)) .nil))) (nd (a14 P) (nd (c0_22 P) (nd (a11 P) (l1 (c1_70 P)) (l1 (a11 P))) (nd (a11 P) (l1 (a11 P)) (l1 (c3_118 P)))) (nd (c0_30 P) (nd (c0_46 P) (l1 (a11 P)) (l1 (a11 P))) (nd (a11 P) (l1 (c2_94 P)) .nil))))))
noncomputable def sc3_ (w : World) (os : OsState) : SharedT := SharedT.mk (tc3_ w.params) 119 (@Life.mk [] [] [] 0 [] [] Bool.false E [] 0 Bool.false Bool.false Bool.false 0 [2000, 10, 10] Bool.false 0 Bool.true [] [] 0 Bool.false) E (@Drawn.mk 0 0 0 0) 326 os
noncomputable def c4_3 (P : Params) : Obj := (Obj.mk y3 none (Data.dict (A [(de P q3 165 (vs q4 194)), (de P q5 166 vn), (de P q6 167 vn), (de P q7 168 y4), (de P q8 169 vn), (de P q9 170 (vr 6)), (de P q10 171 (vr 4)), (de P q11 173 (vs q1 172)), (de P q12 174 vn), (de P q13 193 (vr 21)), (de P q14 213 (vr 31)), (de P q15 229 (vr 44)), (de P q22 245 (vr 56)), (de P q23 261 (vr 68)), (de P q24 277 (vr 80)), (de P q25 293 (vr 92)), (de P q26 309 (vr 104)), (de P q27 325 (vr 116)), (de P q28 341 (vr 128)), (de P q29 366 (vr 147))]) 20) E)
noncomputable def c4_12 (P : Params) : Obj := (Obj.mk vn none (Data.fields (A [(vi 1 0), (vi 0 0), (vr 20), (vi 5 0), (vi 0 0), (vr 27), (vi 7 0), (vi 0 0), (vr 40), (vi 9 0), (vi 0 0), (vr 52), (vi 11 0), (vi 0 0), (vr 64), (vi 13 0), (vi 0 0), (vr 76), (vi 15 0), (vi 0 0), (vr 88), (vi 17 0), (vi 0 0), (vr 100), (vi 19 0), (vi 0 0), (vr 112), (vi 21 0), (vi 0 0), (vr 124), (vi 23 0), (vi 0 0), (vr 136)])) E)
noncomputable def c4_31 (P : Params) : Obj := (Obj.mk y9 none (Data.cls (ClassData.mk q14 [y6] [(vr 31), y6, y10, y11, y12] 30 q14 Bool.true [] [(vr 44), (vr 56), (vr 68), (vr 80), (vr 92), (vr 104), (vr 116), (vr 128), (vr 147)] Bool.false none Bool.false)) (A [(sr 22), none, (some (vs q14 196)), (some (vs q14 204)), (some y13), (some vT)]))
noncomputable def c4_121 (P : Params) : Obj := (Obj.mk y3 none (Data.dict (A [(de P q17 333 (vs q4 194)), (de P q18 335 (vs q28 334)), (de P q19 337 (vi 21 336)), (de P q20 338 (vr 126))]) 4) E)
noncomputable def c4_124 (P : Params) : Obj := (Obj.mk y1 none (Data.fields (A [(vs q28 328), (vs q28 329), (vs q1 330), (vi 21 0), (vi 0 0), (vi 0 0), (vi 0 0), (vi 0 0), (vr 122), vF, (vi 181 0), (vr 123), vn, vn, vn, vn, (vi 331 0), (vi 21 0), (vs q1 332)])) E)
noncomputable def c4_125 (P : Params) : Obj := (Obj.mk y2 none Data.plain (A [(sr 124), (sr 3), (sr 121), none, (some (vs q4 194)), none, (sr 0)]))
noncomputable def c4_127 (P : Params) : Obj := (Obj.mk y3 none (Data.dict (A [(de P q17 333 (vs q4 194)), (de P q19 337 (vi 21 336)), (de P q20 338 (vr 126)), (de P q5 339 vn)]) 2) E)
noncomputable def c4_128 (P : Params) : Obj := (Obj.mk y9 none (Data.cls (ClassData.mk q28 [(vr 31)] [(vr 128), (vr 31), y6, y10, y11, y12] 127 q28 Bool.true [] [] Bool.false none Bool.false)) (A [(sr 119), none, (some (vs q28 326)), (some (vs q28 334)), (some y13), (some vT)]))
noncomputable def c4_129 (P : Params) : Obj := (Obj.mk y16 none (Data.fields (A [(vr 128), (vr 128), (vr 128)])) E)
noncomputable def c4_130 (P : Params) : Obj := (Obj.mk y7 none (Data.fields (A [y17, (vr 128)])) E)
noncomputable def c4_133 (P : Params) : Obj := (Obj.mk y3 none (Data.dict (A [(de P q17 349 (vs q4 194)), (de P q18 351 (vs q29 350)), (de P q19 353 (vi 23 352)), (de P q30 361 (vr 144)), (de P q20 363 (vr 145))]) 5) E)
noncomputable def c4_135 (P : Params) : Obj := (Obj.mk vn none (Data.fields (A [(vi 25 0), (vi 4 0), (vr 143)])) E)
noncomputable def c4_136 (P : Params) : Obj := (Obj.mk y1 none (Data.fields (A [(vs q29 344), (vs q29 345), (vs q1 346), (vi 23 0), (vi 0 0), (vi 0 0), (vi 0 0), (vi 0 0), (vr 134), vF, (vi 181 0), (vr 135), vn, vn, vn, vn, (vi 347 0), (vi 23 0), (vs q1 348)])) E)
noncomputable def c4_137 (P : Params) : Obj := (Obj.mk y2 none Data.plain (A [(sr 136), (sr 3), (sr 133), none, (some (vs q4 194)), none, (sr 0)]))
noncomputable def c4_140 (P : Params) : Obj := (Obj.mk y0 none (Data.seq (A [(vs q31 357), (vs q32 358)]) 0) E)
noncomputable def c4_142 (P : Params) : Obj := (Obj.mk vn none (Data.func (FuncData.mk q30 q33 fa_NoText___init__ fb_NoText___init__ fs_NoText___init__ 0 [] vn vn vn vn none vn vn 0)) E)
noncomputable def c4_143 (P : Params) : Obj := (Obj.mk y1 none (Data.fields (A [(vs q30 354), (vs q33 355), (vs q1 356), (vi 25 0), (vi 2 0), (vi 0 0), (vi 0 0), (vi 3 0), (vr 138), vT, (vi 181 0), (vr 139), vn, (vr 140), (vr 141), (vr 142), (vi 359 0), (vi 25 0), (vs q1 360)])) E)
noncomputable def c4_144 (P : Params) : Obj := (Obj.mk y5 none (Data.func (FuncData.mk q30 q33 fa_NoText___init__ fb_NoText___init__ fs_NoText___init__ 3 [] vn vn vn (vs q4 194) none (vr 143) vn 0)) E)
noncomputable def c4_145 (P : Params) : Obj := (Obj.mk y0 none (Data.seq (A [(vs q32 362)]) 0) E)
noncomputable def c4_146 (P : Params) : Obj := (Obj.mk y3 none (Data.dict (A [(de P q17 349 (vs q4 194)), (de P q19 353 (vi 23 352)), (de P q30 361 (vr 144)), (de P q20 363 (vr 145)), (de P q5 364 vn)]) 2) E)
noncomputable def c4_147 (P : Params) : Obj := (Obj.mk y9 none (Data.cls (ClassData.mk q29 [(vr 31)] [(vr 147), (vr 31), y6, y10, y11, y12] 146 q29 Bool.true [] [] Bool.false none Bool.false)) (A [(sr 131), none, (some (vs q29 342)), (some (vs q29 350)), (some y13), (some vT)]))
noncomputable def c4_148 (P : Params) : Obj := (Obj.mk y16 none (Data.fields (A [(vr 147), (vr 147), (vr 147)])) E)
noncomputable def c4_149 (P : Params) : Obj := (Obj.mk y7 none (Data.fields (A [y17, (vr 147)])) E)
noncomputable def tc4_ (P : Params) : BT := (nd (boot_o_0 P) (nd (boot_o_1 P) (nd (c4_3 P) (nd (boot_o_7 P) (nd (a11 P) (nd (c4_31 P) (nd (a12 P) (l1 (c4_127 P)) .nil) (l1 (c0_35 P))) (nd (c0_35 P) (nd (c2_79 P) (l1 (c4_143 P)) .nil) (l1 (a12 P)))) (nd (c0_23 P) (nd (a12 P) (nd (c0_35 P) (l1 (c4_135 P)) .nil) (l1 (c3_103 P))) (nd (c1_55 P) (l1 (a12 P)) (l1 (c0_35 P))))) (nd (a11 P) (nd (c0_19 P) (nd (c0_35 P) (nd (c1_67 P) (l1 (c0_35 P)) .nil) (l1 (a12 P))) (nd (a12 P) (nd (c0_35 P) (l1 (c4_147 P)) .nil) (l1 (c3_115 P)))) (nd (c0_27 P) (nd (c0_43 P) (nd (a12 P) (l1 (a12 P)) .nil) (l1 (c0_35 P))) (nd (c0_35 P) (l1 (c2_91 P)) (l1 (a12 P)))))) (nd (boot_o_5 P) (nd (boot_o_9 P) (nd (c0_17 P) (nd (c0_33 P) (nd (c1_65 P) (l1 (c4_129 P)) .nil) (l1 (c3_97 P))) (nd (c1_49 P) (nd (c2_81 P) (l1 (c4_145 P)) .nil) (l1 (c3_113 P)))) (nd (a11 P) (nd (c0_41 P) (nd (c2_73 P) (l1 (c4_137 P)) .nil) (l1 (c3_105 P))) (nd (c1_57 P) (l1 (c2_89 P)) (l1 (c4_121 P))))) (nd (a13 P) (nd (c0_21 P) (nd (c0_37 P) (nd (c1_69 P) (l1 (c4_133 P)) .nil) (l1 (c3_101 P))) (nd (c1_53 P) (nd (c2_85 P) (l1 (c4_149 P)) .nil) (l1 (c3_117 P)))) (nd (a11 P) (nd (c0_45 P) (nd (c2_77 P) (l1 (a11 P)) .nil) (l1 (c3_109 P))) (nd (c1_61 P) (l1 (c2_93 P)) (l1 (c4_125 P))))))) (nd (boot_o_2 P) (nd (boot_o_4 P) (nd (boot_o_8 P) (nd (a12 P) (nd (c0_32 P) (nd (c1_64 P) (l1 (c4_128 P)) .nil) (l1 (c0_23 P))) (nd (c0_23 P) (nd (c2_80 P) (l1 (c4_144 P)) .nil) (l1 (c3_112 P)))) (nd (c0_24 P) (nd (c0_40 P) (nd (c0_23 P) (l1 (c4_136 P)) .nil) (l1 (c3_104 P))) (nd (c1_56 P) (l1 (c2_88 P)) (l1 (c0_23 P))))) (nd (c4_12 P) (nd (c0_20 P) (nd (c0_23 P) (nd (c1_68 P) (l1 (c0_23 P)) .nil) (l1 (c3_100 P))) (nd (c1_52 P) (nd (c0_23 P) (l1 (c4_148 P)) .nil) (l1 (c3_116 P)))) (nd (c0_28 P) (nd (c0_44 P) (nd (c2_76 P) (l1 (c4_140 P)) .nil) (l1 (c0_23 P))) (nd (c0_23 P) (l1 (c2_92 P)) (l1 (c4_124 P)))))) (nd (boot_o_6 P) (nd (boot_o_10 P) (nd (a11 P) (nd (c0_34 P) (nd (a11 P) (l1 (c4_130 P)) .nil) (l1 (a11 P))) (nd (a11 P) (nd (c2_82 P) (l1 (c4_146 P)) .nil) (l1 (a11 P)))) (nd (a12 P) (nd (a11 P) (nd (a11 P) (l1 (a11 P)) .nil) (l1 (c3_106 P))) (nd (c1_58 P) (l1 (a11 P)) (l1 (a11 P))))) (nd (a14 P) (nd (c0_22 P) (nd (a11 P) (nd (c1_70 P) (l1 (a11 P)) .nil) (l1 (a11 P))) (nd (a11 P) (l1 (a11 P)) (l1 (c3_118 P)))) (nd (c0_30 P) (nd (c0_46 P) (nd (a11 P) (l1 (c4_142 P)) .nil) (l1 (a11 P))) (nd (a11 P) (l1 (c2_94 P)) (l1 (a11 P))))))))
noncomputable def sc4_ (w : World) (os : OsState) : SharedT := SharedT.mk (tc4_ w.params) 150 (@Life.mk [] [] [] 0 [] [] Bool.false E [] 0 Bool.false Bool.false Bool.false 0 [2000, 10, 10] Bool.false 0 Bool.true [] [] 0 Bool.false) E (@Drawn.mk 0 0 0 0) 367 os
noncomputable def c5_3 (P : Params) : Obj := (Obj.mk y3 none (Data.dict (A [(de P q3 165 (vs q4 194)), (de P q5 166 vn), (de P q6 167 vn), (de P q7 168 y4), (de P q8 169 vn), (de P q9 170 (vr 6)), (de P q10 171 (vr 4)), (de P q11 173 (vs q1 172)), (de P q12 174 vn), (de P q13 193 (vr 21)), (de P q14 213 (vr 31)), (de P q15 229 (vr 44)), (de P q22 245 (vr 56)), (de P q23 261 (vr 68)), (de P q24 277 (vr 80)), (de P q25 293 (vr 92)), (de P q26 309 (vr 104)), (de P q27 325 (vr 116)), (de P q28 341 (vr 128)), (de P q29 366 (vr 147)), (de P q34 391 (vr 166)), (de P q35 416 (vr 185))]) 22) E)
noncomputable def c5_12 (P : Params) : Obj := (Obj.mk vn none (Data.fields (A [(vi 1 0), (vi 0 0), (vr 20), (vi 5 0), (vi 0 0), (vr 27), (vi 7 0), (vi 0 0), (vr 40), (vi 9 0), (vi 0 0), (vr 52), (vi 11 0), (vi 0 0), (vr 64), (vi 13 0), (vi 0 0), (vr 76), (vi 15 0), (vi 0 0), (vr 88), (vi 17 0), (vi 0 0), (vr 100), (vi 19 0), (vi 0 0), (vr 112), (vi 21 0), (vi 0 0), (vr 124), (vi 23 0), (vi 0 0), (vr 136), (vi 27 0), (vi 0 0), (vr 155), (vi 31 0), (vi 0 0), (vr 174)])) E)
noncomputable def c5_31 (P : Params) : Obj := (Obj.mk y9 none (Data.cls (ClassData.mk q14 [y6] [(vr 31), y6, y10, y11, y12] 30 q14 Bool.true [] [(vr 44), (vr 56), (vr 68), (vr 80), (vr 92), (vr 104), (vr 116), (vr 128), (vr 147), (vr 166), (vr 185)] Bool.false none Bool.false)) (A [(sr 22), none, (some (vs q14 196)), (some (vs q14 204)), (some y13), (some vT)]))
noncomputable def c5_152 (P : Params) : Obj := (Obj.mk y3 none (Data.dict (A [(de P q17 374 (vs q4 194)), (de P q18 376 (vs q34 375)), (de P q19 378 (vi 27 377)), (de P q30 386 (vr 163)), (de P q20 388 (vr 164))]) 5) E)
noncomputable def c5_154 (P : Params) : Obj := (Obj.mk vn none (Data.fields (A [(vi 29 0), (vi 4 0), (vr 162)])) E)
noncomputable def c5_155 (P : Params) : Obj := (Obj.mk y1 none (Data.fields (A [(vs q34 369), (vs q34 370), (vs q1 371), (vi 27 0), (vi 0 0), (vi 0 0), (vi 0 0), (vi 0 0), (vr 153), vF, (vi 181 0), (vr 154), vn, vn, vn, vn, (vi 372 0), (vi 27 0), (vs q1 373)])) E)
noncomputable def c5_156 (P : Params) : Obj := (Obj.mk y2 none Data.plain (A [(sr 155), (sr 3), (sr 152), none, (some (vs q4 194)), none, (sr 0)]))
noncomputable def c5_159 (P : Params) : Obj := (Obj.mk y0 none (Data.seq (A [(vs q31 382), (vs q32 383)]) 0) E)
noncomputable def c5_161 (P : Params) : Obj := (Obj.mk vn none (Data.func (FuncData.mk q30 q36 fa_NoPlace___init__ fb_NoPlace___init__ fs_NoPlace___init__ 0 [] vn vn vn vn none vn vn 0)) E)
noncomputable def c5_162 (P : Params) : Obj := (Obj.mk y1 none (Data.fields (A [(vs q30 379), (vs q36 380), (vs q1 381), (vi 29 0), (vi 2 0), (vi 0 0), (vi 0 0), (vi 3 0), (vr 157), vT, (vi 181 0), (vr 158), vn, (vr 159), (vr 160), (vr 161), (vi 384 0), (vi 29 0), (vs q1 385)])) E)
noncomputable def c5_163 (P : Params) : Obj := (Obj.mk y5 none (Data.func (FuncData.mk q30 q36 fa_NoPlace___init__ fb_NoPlace___init__ fs_NoPlace___init__ 3 [] vn vn vn (vs q4 194) none (vr 162) vn 0)) E)
noncomputable def c5_164 (P : Params) : Obj := (Obj.mk y0 none (Data.seq (A [(vs q32 387)]) 0) E)
noncomputable def c5_165 (P : Params) : Obj := (Obj.mk y3 none (Data.dict (A [(de P q17 374 (vs q4 194)), (de P q19 378 (vi 27 377)), (de P q30 386 (vr 163)), (de P q20 388 (vr 164)), (de P q5 389 vn)]) 2) E)
noncomputable def c5_166 (P : Params) : Obj := (Obj.mk y9 none (Data.cls (ClassData.mk q34 [(vr 31)] [(vr 166), (vr 31), y6, y10, y11, y12] 165 q34 Bool.true [] [] Bool.false none Bool.false)) (A [(sr 150), none, (some (vs q34 367)), (some (vs q34 375)), (some y13), (some vT)]))
noncomputable def c5_167 (P : Params) : Obj := (Obj.mk y16 none (Data.fields (A [(vr 166), (vr 166), (vr 166)])) E)
noncomputable def c5_168 (P : Params) : Obj := (Obj.mk y7 none (Data.fields (A [y17, (vr 166)])) E)
noncomputable def c5_171 (P : Params) : Obj := (Obj.mk y3 none (Data.dict (A [(de P q17 399 (vs q4 194)), (de P q18 401 (vs q35 400)), (de P q19 403 (vi 31 402)), (de P q30 411 (vr 182)), (de P q20 413 (vr 183))]) 5) E)
noncomputable def c5_173 (P : Params) : Obj := (Obj.mk vn none (Data.fields (A [(vi 33 0), (vi 4 0), (vr 181)])) E)
noncomputable def c5_174 (P : Params) : Obj := (Obj.mk y1 none (Data.fields (A [(vs q35 394), (vs q35 395), (vs q1 396), (vi 31 0), (vi 0 0), (vi 0 0), (vi 0 0), (vi 0 0), (vr 172), vF, (vi 181 0), (vr 173), vn, vn, vn, vn, (vi 397 0), (vi 31 0), (vs q1 398)])) E)
noncomputable def c5_175 (P : Params) : Obj := (Obj.mk y2 none Data.plain (A [(sr 174), (sr 3), (sr 171), none, (some (vs q4 194)), none, (sr 0)]))
noncomputable def c5_178 (P : Params) : Obj := (Obj.mk y0 none (Data.seq (A [(vs q31 407), (vs q32 408)]) 0) E)
noncomputable def c5_180 (P : Params) : Obj := (Obj.mk vn none (Data.func (FuncData.mk q30 q37 fa_NoWayBack___init__ fb_NoWayBack___init__ fs_NoWayBack___init__ 0 [] vn vn vn vn none vn vn 0)) E)
noncomputable def c5_181 (P : Params) : Obj := (Obj.mk y1 none (Data.fields (A [(vs q30 404), (vs q37 405), (vs q1 406), (vi 33 0), (vi 2 0), (vi 0 0), (vi 0 0), (vi 3 0), (vr 176), vT, (vi 181 0), (vr 177), vn, (vr 178), (vr 179), (vr 180), (vi 409 0), (vi 33 0), (vs q1 410)])) E)
noncomputable def c5_182 (P : Params) : Obj := (Obj.mk y5 none (Data.func (FuncData.mk q30 q37 fa_NoWayBack___init__ fb_NoWayBack___init__ fs_NoWayBack___init__ 3 [] vn vn vn (vs q4 194) none (vr 181) vn 0)) E)
noncomputable def c5_183 (P : Params) : Obj := (Obj.mk y0 none (Data.seq (A [(vs q32 412)]) 0) E)
noncomputable def c5_184 (P : Params) : Obj := (Obj.mk y3 none (Data.dict (A [(de P q17 399 (vs q4 194)), (de P q19 403 (vi 31 402)), (de P q30 411 (vr 182)), (de P q20 413 (vr 183)), (de P q5 414 vn)]) 2) E)
noncomputable def c5_185 (P : Params) : Obj := (Obj.mk y9 none (Data.cls (ClassData.mk q35 [(vr 31)] [(vr 185), (vr 31), y6, y10, y11, y12] 184 q35 Bool.true [] [] Bool.false none Bool.false)) (A [(sr 169), none, (some (vs q35 392)), (some (vs q35 400)), (some y13), (some vT)]))
noncomputable def c5_186 (P : Params) : Obj := (Obj.mk y16 none (Data.fields (A [(vr 185), (vr 185), (vr 185)])) E)
noncomputable def c5_187 (P : Params) : Obj := (Obj.mk y7 none (Data.fields (A [y17, (vr 185)])) E)
noncomputable def tc5_ (P : Params) : BT := (nd (boot_o_0 P) (nd (boot_o_1 P) (nd (c5_3 P) (nd (boot_o_7 P) (nd (a11 P) (nd (c5_31 P) (nd (a12 P) (l1 (c4_127 P)) .nil) (nd (c0_35 P) (l1 (c5_159 P)) .nil)) (nd (c0_35 P) (nd (c2_79 P) (l1 (c4_143 P)) .nil) (nd (a12 P) (l1 (c5_175 P)) .nil))) (nd (c0_23 P) (nd (a12 P) (nd (c0_35 P) (l1 (c4_135 P)) .nil) (nd (c3_103 P) (l1 (c5_167 P)) .nil)) (nd (c1_55 P) (nd (a12 P) (l1 (c0_23 P)) .nil) (nd (c0_35 P) (l1 (c5_183 P)) .nil)))) (nd (a11 P) (nd (c0_19 P) (nd (c0_35 P) (nd (c1_67 P) (l1 (c0_35 P)) .nil) (nd (a12 P) (l1 (c5_163 P)) .nil)) (nd (a12 P) (nd (c0_35 P) (l1 (c4_147 P)) .nil) (nd (c3_115 P) (l1 (a11 P)) .nil))) (nd (c0_27 P) (nd (c0_43 P) (nd (a12 P) (l1 (a12 P)) .nil) (nd (c0_35 P) (l1 (c5_171 P)) .nil)) (nd (c0_35 P) (nd (c2_91 P) (l1 (c5_155 P)) .nil) (nd (a12 P) (l1 (c5_187 P)) .nil))))) (nd (boot_o_5 P) (nd (boot_o_9 P) (nd (c0_17 P) (nd (c0_33 P) (nd (c1_65 P) (l1 (c4_129 P)) .nil) (nd (c3_97 P) (l1 (c5_161 P)) .nil)) (nd (c1_49 P) (nd (c2_81 P) (l1 (c4_145 P)) .nil) (nd (c3_113 P) (l1 (a12 P)) .nil))) (nd (a11 P) (nd (c0_41 P) (nd (c2_73 P) (l1 (c4_137 P)) .nil) (nd (c3_105 P) (l1 (c0_35 P)) .nil)) (nd (c1_57 P) (nd (c2_89 P) (l1 (a11 P)) .nil) (nd (c4_121 P) (l1 (c5_185 P)) .nil)))) (nd (a13 P) (nd (c0_21 P) (nd (c0_37 P) (nd (c1_69 P) (l1 (c4_133 P)) .nil) (nd (c3_101 P) (l1 (c5_165 P)) .nil)) (nd (c1_53 P) (nd (c2_85 P) (l1 (c4_149 P)) .nil) (nd (c3_117 P) (l1 (c5_181 P)) .nil))) (nd (a11 P) (nd (c0_45 P) (nd (c2_77 P) (l1 (a11 P)) .nil) (nd (c3_109 P) (l1 (c5_173 P)) .nil)) (nd (c1_61 P) (nd (c2_93 P) (l1 (a11 P)) .nil) (l1 (c4_125 P))))))) (nd (boot_o_2 P) (nd (boot_o_4 P) (nd (boot_o_8 P) (nd (a12 P) (nd (c0_32 P) (nd (c1_64 P) (l1 (c4_128 P)) .nil) (nd (c0_23 P) (l1 (a11 P)) .nil)) (nd (c0_23 P) (nd (c2_80 P) (l1 (c4_144 P)) .nil) (nd (c3_112 P) (l1 (a11 P)) .nil))) (nd (c0_24 P) (nd (c0_40 P) (nd (c0_23 P) (l1 (c4_136 P)) .nil) (nd (c3_104 P) (l1 (c5_168 P)) .nil)) (nd (c1_56 P) (nd (c2_88 P) (l1 (c5_152 P)) .nil) (nd (c0_23 P) (l1 (c5_184 P)) .nil)))) (nd (c5_12 P) (nd (c0_20 P) (nd (c0_23 P) (nd (c1_68 P) (l1 (c0_23 P)) .nil) (nd (c3_100 P) (l1 (c5_164 P)) .nil)) (nd (c1_52 P) (nd (c0_23 P) (l1 (c4_148 P)) .nil) (nd (c3_116 P) (l1 (c5_180 P)) .nil))) (nd (c0_28 P) (nd (c0_44 P) (nd (c2_76 P) (l1 (c4_140 P)) .nil) (nd (c0_23 P) (l1 (a11 P)) .nil)) (nd (c0_23 P) (nd (c2_92 P) (l1 (c5_156 P)) .nil) (l1 (c4_124 P)))))) (nd (boot_o_6 P) (nd (boot_o_10 P) (nd (a11 P) (nd (c0_34 P) (nd (a11 P) (l1 (c4_130 P)) .nil) (nd (a11 P) (l1 (c5_162 P)) .nil)) (nd (a11 P) (nd (c2_82 P) (l1 (c4_146 P)) .nil) (nd (a11 P) (l1 (c5_178 P)) .nil))) (nd (a12 P) (nd (a11 P) (nd (a11 P) (l1 (a11 P)) .nil) (nd (c3_106 P) (l1 (c0_23 P)) .nil)) (nd (c1_58 P) (nd (a11 P) (l1 (c5_154 P)) .nil) (nd (a11 P) (l1 (c5_186 P)) .nil)))) (nd (a14 P) (nd (c0_22 P) (nd (a11 P) (nd (c1_70 P) (l1 (a11 P)) .nil) (nd (a11 P) (l1 (c5_166 P)) .nil)) (nd (a11 P) (nd (a11 P) (l1 (c0_35 P)) .nil) (nd (c3_118 P) (l1 (c5_182 P)) .nil))) (nd (c0_30 P) (nd (c0_46 P) (nd (a11 P) (l1 (c4_142 P)) .nil) (nd (a11 P) (l1 (c5_174 P)) .nil)) (nd (a11 P) (nd (c2_94 P) (l1 (a12 P)) .nil) (l1 (a11 P))))))))
noncomputable def sc5_ (w : World) (os : OsState) : SharedT := SharedT.mk (tc5_ w.params) 188 (@Life.mk [] [] [] 0 [] [] Bool.false E [] 0 Bool.false Bool.false Bool.false 0 [2000, 10, 10] Bool.false 0 Bool.true [] [] 0 Bool.false) E (@Drawn.mk 0 0 0 0) 417 os
noncomputable def c6_3 (P : Params) : Obj := (Obj.mk y3 none (Data.dict (A [(de P q3 165 (vs q38 442)), (de P q5 166 vn), (de P q6 167 vn), (de P q7 168 y4), (de P q8 169 vn), (de P q9 170 (vr 6)), (de P q10 171 (vr 4)), (de P q11 173 (vs q1 172)), (de P q12 174 vn), (de P q13 193 (vr 21)), (de P q14 213 (vr 31)), (de P q15 229 (vr 44)), (de P q22 245 (vr 56)), (de P q23 261 (vr 68)), (de P q24 277 (vr 80)), (de P q25 293 (vr 92)), (de P q26 309 (vr 104)), (de P q27 325 (vr 116)), (de P q28 341 (vr 128)), (de P q29 366 (vr 147)), (de P q34 391 (vr 166)), (de P q35 416 (vr 185)), (de P q39 441 (vr 204))]) 23) E)
noncomputable def c6_12 (P : Params) : Obj := (Obj.mk vn none (Data.fields (A [(vi 1 0), (vi 0 0), (vr 20), (vi 5 0), (vi 0 0), (vr 27), (vi 7 0), (vi 0 0), (vr 40), (vi 9 0), (vi 0 0), (vr 52), (vi 11 0), (vi 0 0), (vr 64), (vi 13 0), (vi 0 0), (vr 76), (vi 15 0), (vi 0 0), (vr 88), (vi 17 0), (vi 0 0), (vr 100), (vi 19 0), (vi 0 0), (vr 112), (vi 21 0), (vi 0 0), (vr 124), (vi 23 0), (vi 0 0), (vr 136), (vi 27 0), (vi 0 0), (vr 155), (vi 31 0), (vi 0 0), (vr 174), (vi 35 0), (vi 0 0), (vr 193)])) E)
noncomputable def c6_31 (P : Params) : Obj := (Obj.mk y9 none (Data.cls (ClassData.mk q14 [y6] [(vr 31), y6, y10, y11, y12] 30 q14 Bool.true [] [(vr 44), (vr 56), (vr 68), (vr 80), (vr 92), (vr 104), (vr 116), (vr 128), (vr 147), (vr 166), (vr 185), (vr 204)] Bool.false none Bool.false)) (A [(sr 22), none, (some (vs q14 196)), (some (vs q14 204)), (some y13), (some vT)]))
noncomputable def c6_190 (P : Params) : Obj := (Obj.mk y3 none (Data.dict (A [(de P q17 424 (vs q4 194)), (de P q18 426 (vs q39 425)), (de P q19 428 (vi 35 427)), (de P q30 436 (vr 201)), (de P q20 438 (vr 202))]) 5) E)
noncomputable def c6_192 (P : Params) : Obj := (Obj.mk vn none (Data.fields (A [(vi 37 0), (vi 4 0), (vr 200)])) E)
noncomputable def c6_193 (P : Params) : Obj := (Obj.mk y1 none (Data.fields (A [(vs q39 419), (vs q39 420), (vs q1 421), (vi 35 0), (vi 0 0), (vi 0 0), (vi 0 0), (vi 0 0), (vr 191), vF, (vi 181 0), (vr 192), vn, vn, vn, vn, (vi 422 0), (vi 35 0), (vs q1 423)])) E)
noncomputable def c6_194 (P : Params) : Obj := (Obj.mk y2 none Data.plain (A [(sr 193), (sr 3), (sr 190), none, (some (vs q4 194)), none, (sr 0)]))
noncomputable def c6_197 (P : Params) : Obj := (Obj.mk y0 none (Data.seq (A [(vs q31 432), (vs q32 433)]) 0) E)
noncomputable def c6_199 (P : Params) : Obj := (Obj.mk vn none (Data.func (FuncData.mk q30 q40 fa_NoFit___init__ fb_NoFit___init__ fs_NoFit___init__ 0 [] vn vn vn vn none vn vn 0)) E)
noncomputable def c6_200 (P : Params) : Obj := (Obj.mk y1 none (Data.fields (A [(vs q30 429), (vs q40 430), (vs q1 431), (vi 37 0), (vi 2 0), (vi 0 0), (vi 0 0), (vi 3 0), (vr 195), vT, (vi 181 0), (vr 196), vn, (vr 197), (vr 198), (vr 199), (vi 434 0), (vi 37 0), (vs q1 435)])) E)
noncomputable def c6_201 (P : Params) : Obj := (Obj.mk y5 none (Data.func (FuncData.mk q30 q40 fa_NoFit___init__ fb_NoFit___init__ fs_NoFit___init__ 3 [] vn vn vn (vs q4 194) none (vr 200) vn 0)) E)
noncomputable def c6_202 (P : Params) : Obj := (Obj.mk y0 none (Data.seq (A [(vs q32 437)]) 0) E)
noncomputable def c6_203 (P : Params) : Obj := (Obj.mk y3 none (Data.dict (A [(de P q17 424 (vs q4 194)), (de P q19 428 (vi 35 427)), (de P q30 436 (vr 201)), (de P q20 438 (vr 202)), (de P q5 439 vn)]) 2) E)
noncomputable def c6_204 (P : Params) : Obj := (Obj.mk y9 none (Data.cls (ClassData.mk q39 [(vr 31)] [(vr 204), (vr 31), y6, y10, y11, y12] 203 q39 Bool.true [] [] Bool.false none Bool.false)) (A [(sr 188), none, (some (vs q39 417)), (some (vs q39 425)), (some y13), (some vT)]))
noncomputable def c6_205 (P : Params) : Obj := (Obj.mk y16 none (Data.fields (A [(vr 204), (vr 204), (vr 204)])) E)
noncomputable def c6_206 (P : Params) : Obj := (Obj.mk y7 none (Data.fields (A [y17, (vr 204)])) E)
noncomputable def tc6_ (P : Params) : BT := (nd (boot_o_0 P) (nd (boot_o_1 P) (nd (c6_3 P) (nd (boot_o_7 P) (nd (a11 P) (nd (c6_31 P) (nd (a12 P) (l1 (c4_127 P)) (l1 (a11 P))) (nd (c0_35 P) (l1 (c5_159 P)) .nil)) (nd (c0_35 P) (nd (c2_79 P) (l1 (c4_143 P)) .nil) (nd (a12 P) (l1 (c5_175 P)) .nil))) (nd (c0_23 P) (nd (a12 P) (nd (c0_35 P) (l1 (c4_135 P)) (l1 (c6_199 P))) (nd (c3_103 P) (l1 (c5_167 P)) .nil)) (nd (c1_55 P) (nd (a12 P) (l1 (c0_23 P)) .nil) (nd (c0_35 P) (l1 (c5_183 P)) .nil)))) (nd (a11 P) (nd (c0_19 P) (nd (c0_35 P) (nd (c1_67 P) (l1 (c0_35 P)) (l1 (a11 P))) (nd (a12 P) (l1 (c5_163 P)) .nil)) (nd (a12 P) (nd (c0_35 P) (l1 (c4_147 P)) .nil) (nd (c3_115 P) (l1 (a11 P)) .nil))) (nd (c0_27 P) (nd (c0_43 P) (nd (a12 P) (l1 (a12 P)) (l1 (c6_203 P))) (nd (c0_35 P) (l1 (c5_171 P)) .nil)) (nd (c0_35 P) (nd (c2_91 P) (l1 (c5_155 P)) .nil) (nd (a12 P) (l1 (c5_187 P)) .nil))))) (nd (boot_o_5 P) (nd (boot_o_9 P) (nd (c0_17 P) (nd (c0_33 P) (nd (c1_65 P) (l1 (c4_129 P)) (l1 (c6_193 P))) (nd (c3_97 P) (l1 (c5_161 P)) .nil)) (nd (c1_49 P) (nd (c2_81 P) (l1 (c4_145 P)) .nil) (nd (c3_113 P) (l1 (a12 P)) .nil))) (nd (a11 P) (nd (c0_41 P) (nd (c2_73 P) (l1 (c4_137 P)) (l1 (c6_201 P))) (nd (c3_105 P) (l1 (c0_35 P)) .nil)) (nd (c1_57 P) (nd (c2_89 P) (l1 (a11 P)) .nil) (nd (c4_121 P) (l1 (c5_185 P)) .nil)))) (nd (a13 P) (nd (c0_21 P) (nd (c0_37 P) (nd (c1_69 P) (l1 (c4_133 P)) (l1 (c6_197 P))) (nd (c3_101 P) (l1 (c5_165 P)) .nil)) (nd (c1_53 P) (nd (c2_85 P) (l1 (c4_149 P)) .nil) (nd (c3_117 P) (l1 (c5_181 P)) .nil))) (nd (a11 P) (nd (c0_45 P) (nd (c2_77 P) (l1 (a11 P)) (l1 (c6_205 P))) (nd (c3_109 P) (l1 (c5_173 P)) .nil)) (nd (c1_61 P) (nd (c2_93 P) (l1 (a11 P)) .nil) (nd (c4_125 P) (l1 (c0_23 P)) .nil)))))) (nd (boot_o_2 P) (nd (boot_o_4 P) (nd (boot_o_8 P) (nd (a12 P) (nd (c0_32 P) (nd (c1_64 P) (l1 (c4_128 P)) (l1 (c6_192 P))) (nd (c0_23 P) (l1 (a11 P)) .nil)) (nd (c0_23 P) (nd (c2_80 P) (l1 (c4_144 P)) .nil) (nd (c3_112 P) (l1 (a11 P)) .nil))) (nd (c0_24 P) (nd (c0_40 P) (nd (c0_23 P) (l1 (c4_136 P)) (l1 (c6_200 P))) (nd (c3_104 P) (l1 (c5_168 P)) .nil)) (nd (c1_56 P) (nd (c2_88 P) (l1 (c5_152 P)) .nil) (nd (c0_23 P) (l1 (c5_184 P)) .nil)))) (nd (c6_12 P) (nd (c0_20 P) (nd (c0_23 P) (nd (c1_68 P) (l1 (c0_23 P)) (l1 (a12 P))) (nd (c3_100 P) (l1 (c5_164 P)) .nil)) (nd (c1_52 P) (nd (c0_23 P) (l1 (c4_148 P)) .nil) (nd (c3_116 P) (l1 (c5_180 P)) .nil))) (nd (c0_28 P) (nd (c0_44 P) (nd (c2_76 P) (l1 (c4_140 P)) (l1 (c6_204 P))) (nd (c0_23 P) (l1 (a11 P)) .nil)) (nd (c0_23 P) (nd (c2_92 P) (l1 (c5_156 P)) .nil) (nd (c4_124 P) (l1 (c0_35 P)) .nil))))) (nd (boot_o_6 P) (nd (boot_o_10 P) (nd (a11 P) (nd (c0_34 P) (nd (a11 P) (l1 (c4_130 P)) (l1 (c6_194 P))) (nd (a11 P) (l1 (c5_162 P)) .nil)) (nd (a11 P) (nd (c2_82 P) (l1 (c4_146 P)) .nil) (nd (a11 P) (l1 (c5_178 P)) .nil))) (nd (a12 P) (nd (a11 P) (nd (a11 P) (l1 (a11 P)) (l1 (c6_202 P))) (nd (c3_106 P) (l1 (c0_23 P)) .nil)) (nd (c1_58 P) (nd (a11 P) (l1 (c5_154 P)) .nil) (nd (a11 P) (l1 (c5_186 P)) .nil)))) (nd (a14 P) (nd (c0_22 P) (nd (a11 P) (nd (c1_70 P) (l1 (a11 P)) (l1 (a11 P))) (nd (a11 P) (l1 (c5_166 P)) .nil)) (nd (a11 P) (nd (a11 P) (l1 (c0_35 P)) .nil) (nd (c3_118 P) (l1 (c5_182 P)) .nil))) (nd (c0_30 P) (nd (c0_46 P) (nd (a11 P) (l1 (c4_142 P)) (l1 (c6_206 P))) (nd (a11 P) (l1 (c5_174 P)) .nil)) (nd (a11 P) (nd (c2_94 P) (l1 (a12 P)) .nil) (nd (a11 P) (l1 (c6_190 P)) .nil)))))))
noncomputable def sc6_ (w : World) (os : OsState) : SharedT := SharedT.mk (tc6_ w.params) 207 (@Life.mk [] [] [] 0 [] [] Bool.false E [] 0 Bool.false Bool.false Bool.false 0 [2000, 10, 10] Bool.false 0 Bool.true [] [] 0 Bool.false) E (@Drawn.mk 0 0 0 0) 444 os
noncomputable def c7_3 (P : Params) : Obj := (Obj.mk y3 none (Data.dict (A [(de P q3 165 (vs q41 545)), (de P q5 166 vn), (de P q6 167 vn), (de P q7 168 y4), (de P q8 169 vn), (de P q9 170 (vr 6)), (de P q10 171 (vr 4)), (de P q11 173 (vs q1 172)), (de P q12 174 vn), (de P q13 193 (vr 21)), (de P q14 213 (vr 31)), (de P q15 229 (vr 44)), (de P q22 245 (vr 56)), (de P q23 261 (vr 68)), (de P q24 277 (vr 80)), (de P q25 293 (vr 92)), (de P q26 309 (vr 104)), (de P q27 325 (vr 116)), (de P q28 341 (vr 128)), (de P q29 366 (vr 147)), (de P q34 391 (vr 166)), (de P q35 416 (vr 185)), (de P q39 441 (vr 204)), (de P q42 544 (vr 281))]) 24) E)
noncomputable def c7_12 (P : Params) : Obj := (Obj.mk vn none (Data.fields (A [(vi 1 0), (vi 0 0), (vr 20), (vi 5 0), (vi 0 0), (vr 27), (vi 7 0), (vi 0 0), (vr 40), (vi 9 0), (vi 0 0), (vr 52), (vi 11 0), (vi 0 0), (vr 64), (vi 13 0), (vi 0 0), (vr 76), (vi 15 0), (vi 0 0), (vr 88), (vi 17 0), (vi 0 0), (vr 100), (vi 19 0), (vi 0 0), (vr 112), (vi 21 0), (vi 0 0), (vr 124), (vi 23 0), (vi 0 0), (vr 136), (vi 27 0), (vi 0 0), (vr 155), (vi 31 0), (vi 0 0), (vr 174), (vi 35 0), (vi 0 0), (vr 193), (vi 40 0), (vi 0 0), (vr 212)])) E)
noncomputable def c7_209 (P : Params) : Obj := (Obj.mk y3 none (Data.dict (A [(de P q17 451 (vs q38 442)), (de P q18 453 (vs q42 452)), (de P q19 455 (vi 40 454)), (de P q30 462 (vr 220)), (de P q43 468 (vr 225)), (de P q44 474 (vr 230)), (de P q45 483 (vr 237)), (de P q46 491 (vr 244)), (de P q47 497 (vr 249)), (de P q48 503 (vr 254)), (de P q49 514 (vr 261)), (de P q50 520 (vr 266)), (de P q51 526 (vr 271)), (de P q52 535 (vr 278)), (de P q20 537 (vr 279))]) 15) E)
noncomputable def c7_211 (P : Params) : Obj := (Obj.mk vn none (Data.fields (A [(vi 42 0), (vi 4 0), (vr 219), (vi 45 0), (vi 4 0), (vr 224), (vi 53 0), (vi 4 0), (vr 229), (vi 59 0), (vi 4 0), (vr 236), (vi 62 0), (vi 4 0), (vr 243), (vi 65 0), (vi 4 0), (vr 248), (vi 68 0), (vi 4 0), (vr 253), (vi 71 0), (vi 4 0), (vr 260), (vi 79 0), (vi 4 0), (vr 265), (vi 82 0), (vi 4 0), (vr 270), (vi 85 0), (vi 4 0), (vr 277)])) E)
noncomputable def c7_212 (P : Params) : Obj := (Obj.mk y1 none (Data.fields (A [(vs q42 446), (vs q42 447), (vs q1 448), (vi 40 0), (vi 0 0), (vi 0 0), (vi 0 0), (vi 0 0), (vr 210), vF, (vi 181 0), (vr 211), vn, vn, vn, vn, (vi 449 0), (vi 40 0), (vs q1 450)])) E)
noncomputable def c7_213 (P : Params) : Obj := (Obj.mk y2 none Data.plain (A [(sr 212), (sr 3), (sr 209), none, (some (vs q38 442)), none, (sr 0)]))
noncomputable def c7_216 (P : Params) : Obj := (Obj.mk y0 none (Data.seq (A [(vs q31 459)]) 0) E)
noncomputable def c7_218 (P : Params) : Obj := (Obj.mk vn none (Data.func (FuncData.mk q30 q53 fa_Locks___init__ fb_Locks___init__ fs_Locks___init__ 0 [] vn vn vn vn none vn vn 0)) E)
noncomputable def c7_219 (P : Params) : Obj := (Obj.mk y1 none (Data.fields (A [(vs q30 456), (vs q53 457), (vs q1 458), (vi 42 0), (vi 1 0), (vi 0 0), (vi 0 0), (vi 3 0), (vr 214), vT, (vi 181 0), (vr 215), vn, (vr 216), (vr 217), (vr 218), (vi 460 0), (vi 42 0), (vs q1 461)])) E)
noncomputable def c7_220 (P : Params) : Obj := (Obj.mk y5 none (Data.func (FuncData.mk q30 q53 fa_Locks___init__ fb_Locks___init__ fs_Locks___init__ 3 [] vn vn vn (vs q38 442) none (vr 219) vn 0)) E)
noncomputable def c7_223 (P : Params) : Obj := (Obj.mk vn none (Data.func (FuncData.mk q43 q54 fa_Locks_ask fb_Locks_ask fs_Locks_ask 0 [] vn vn vn vn none vn vn 0)) E)
noncomputable def c7_224 (P : Params) : Obj := (Obj.mk y1 none (Data.fields (A [(vs q43 463), (vs q54 464), (vs q1 465), (vi 45 0), (vi 3 0), (vi 0 0), (vi 0 0), (vi 3 0), (vr 221), vT, (vi 181 0), (vr 222), vn, vn, vn, (vr 223), (vi 466 0), (vi 45 0), (vs q1 467)])) E)
noncomputable def c7_225 (P : Params) : Obj := (Obj.mk y5 none (Data.func (FuncData.mk q43 q54 fa_Locks_ask fb_Locks_ask fs_Locks_ask 3 [] vn vn vn (vs q38 442) none (vr 224) vn 0)) E)
noncomputable def c7_228 (P : Params) : Obj := (Obj.mk vn none (Data.func (FuncData.mk q44 q55 fa_Locks_free fb_Locks_free fs_Locks_free 0 [] vn vn vn vn none vn vn 0)) E)
noncomputable def c7_229 (P : Params) : Obj := (Obj.mk y1 none (Data.fields (A [(vs q44 469), (vs q55 470), (vs q1 471), (vi 53 0), (vi 2 0), (vi 0 0), (vi 0 0), (vi 3 0), (vr 226), vT, (vi 181 0), (vr 227), vn, vn, vn, (vr 228), (vi 472 0), (vi 53 0), (vs q1 473)])) E)
noncomputable def c7_230 (P : Params) : Obj := (Obj.mk y5 none (Data.func (FuncData.mk q44 q55 fa_Locks_free fb_Locks_free fs_Locks_free 3 [] vn vn vn (vs q38 442) none (vr 229) vn 0)) E)
noncomputable def c7_233 (P : Params) : Obj := (Obj.mk y0 none (Data.seq (A [(vs q31 478), (vs q56 479), (vs q57 480)]) 0) E)
noncomputable def c7_235 (P : Params) : Obj := (Obj.mk vn none (Data.func (FuncData.mk q45 q58 fa_Locks_stands fb_Locks_stands fs_Locks_stands 0 [] vn vn vn vn none vn vn 0)) E)
noncomputable def c7_236 (P : Params) : Obj := (Obj.mk y1 none (Data.fields (A [(vs q45 475), (vs q58 476), (vs q1 477), (vi 59 0), (vi 3 0), (vi 0 0), (vi 0 0), (vi 3 0), (vr 231), vT, (vi 181 0), (vr 232), vn, (vr 233), (vr 234), (vr 235), (vi 481 0), (vi 59 0), (vs q1 482)])) E)
noncomputable def c7_237 (P : Params) : Obj := (Obj.mk y5 none (Data.func (FuncData.mk q45 q58 fa_Locks_stands fb_Locks_stands fs_Locks_stands 3 [] vn vn vn (vs q38 442) none (vr 236) vn 0)) E)
noncomputable def c7_240 (P : Params) : Obj := (Obj.mk y0 none (Data.seq (A [(vs q31 487), (vs q56 488)]) 0) E)
noncomputable def c7_242 (P : Params) : Obj := (Obj.mk vn none (Data.func (FuncData.mk q46 q59 fa_Locks_behind fb_Locks_behind fs_Locks_behind 0 [] vn vn vn vn none vn vn 0)) E)
noncomputable def c7_243 (P : Params) : Obj := (Obj.mk y1 none (Data.fields (A [(vs q46 484), (vs q59 485), (vs q1 486), (vi 62 0), (vi 2 0), (vi 0 0), (vi 0 0), (vi 3 0), (vr 238), vT, (vi 181 0), (vr 239), vn, (vr 240), (vr 241), (vr 242), (vi 489 0), (vi 62 0), (vs q1 490)])) E)
noncomputable def c7_244 (P : Params) : Obj := (Obj.mk y5 none (Data.func (FuncData.mk q46 q59 fa_Locks_behind fb_Locks_behind fs_Locks_behind 3 [] vn vn vn (vs q38 442) none (vr 243) vn 0)) E)
noncomputable def c7_247 (P : Params) : Obj := (Obj.mk vn none (Data.func (FuncData.mk q47 q60 fa_Locks_held fb_Locks_held fs_Locks_held 0 [] vn vn vn vn none vn vn 0)) E)
noncomputable def c7_248 (P : Params) : Obj := (Obj.mk y1 none (Data.fields (A [(vs q47 492), (vs q60 493), (vs q1 494), (vi 65 0), (vi 1 0), (vi 0 0), (vi 0 0), (vi 3 0), (vr 245), vT, (vi 181 0), (vr 246), vn, vn, vn, (vr 247), (vi 495 0), (vi 65 0), (vs q1 496)])) E)
noncomputable def c7_249 (P : Params) : Obj := (Obj.mk y5 none (Data.func (FuncData.mk q47 q60 fa_Locks_held fb_Locks_held fs_Locks_held 3 [] vn vn vn (vs q38 442) none (vr 248) vn 0)) E)
noncomputable def c7_252 (P : Params) : Obj := (Obj.mk vn none (Data.func (FuncData.mk q48 q61 fa_Locks_waiting fb_Locks_waiting fs_Locks_waiting 0 [] vn vn vn vn none vn vn 0)) E)
noncomputable def c7_253 (P : Params) : Obj := (Obj.mk y1 none (Data.fields (A [(vs q48 498), (vs q61 499), (vs q1 500), (vi 68 0), (vi 1 0), (vi 0 0), (vi 0 0), (vi 3 0), (vr 250), vT, (vi 181 0), (vr 251), vn, vn, vn, (vr 252), (vi 501 0), (vi 68 0), (vs q1 502)])) E)
noncomputable def c7_254 (P : Params) : Obj := (Obj.mk y5 none (Data.func (FuncData.mk q48 q61 fa_Locks_waiting fb_Locks_waiting fs_Locks_waiting 3 [] vn vn vn (vs q38 442) none (vr 253) vn 0)) E)
noncomputable def c7_257 (P : Params) : Obj := (Obj.mk y0 none (Data.seq (A [(vs q31 507), (vs q62 508), (vs q63 509), (vs q16 510), (vs q64 511)]) 0) E)
noncomputable def c7_259 (P : Params) : Obj := (Obj.mk vn none (Data.func (FuncData.mk q49 q65 fa_Locks_hinderer fb_Locks_hinderer fs_Locks_hinderer 0 [] vn vn vn vn none vn vn 0)) E)
noncomputable def c7_260 (P : Params) : Obj := (Obj.mk y1 none (Data.fields (A [(vs q49 504), (vs q65 505), (vs q1 506), (vi 71 0), (vi 2 0), (vi 0 0), (vi 0 0), (vi 3 0), (vr 255), vT, (vi 181 0), (vr 256), vn, (vr 257), (vr 258), (vr 259), (vi 512 0), (vi 71 0), (vs q1 513)])) E)
noncomputable def c7_261 (P : Params) : Obj := (Obj.mk y5 none (Data.func (FuncData.mk q49 q65 fa_Locks_hinderer fb_Locks_hinderer fs_Locks_hinderer 3 [] vn vn vn (vs q38 442) none (vr 260) vn 0)) E)
noncomputable def c7_264 (P : Params) : Obj := (Obj.mk vn none (Data.func (FuncData.mk q50 q66 fa_Locks_held_pairs fb_Locks_held_pairs fs_Locks_held_pairs 0 [] vn vn vn vn none vn vn 0)) E)
noncomputable def c7_265 (P : Params) : Obj := (Obj.mk y1 none (Data.fields (A [(vs q50 515), (vs q66 516), (vs q1 517), (vi 79 0), (vi 1 0), (vi 0 0), (vi 0 0), (vi 3 0), (vr 262), vT, (vi 181 0), (vr 263), vn, vn, vn, (vr 264), (vi 518 0), (vi 79 0), (vs q1 519)])) E)
noncomputable def c7_266 (P : Params) : Obj := (Obj.mk y5 none (Data.func (FuncData.mk q50 q66 fa_Locks_held_pairs fb_Locks_held_pairs fs_Locks_held_pairs 3 [] vn vn vn (vs q38 442) none (vr 265) vn 0)) E)
noncomputable def c7_269 (P : Params) : Obj := (Obj.mk vn none (Data.func (FuncData.mk q51 q67 fa_Locks_waiting_pairs fb_Locks_waiting_pairs fs_Locks_waiting_pairs 0 [] vn vn vn vn none vn vn 0)) E)
noncomputable def c7_270 (P : Params) : Obj := (Obj.mk y1 none (Data.fields (A [(vs q51 521), (vs q67 522), (vs q1 523), (vi 82 0), (vi 1 0), (vi 0 0), (vi 0 0), (vi 3 0), (vr 267), vT, (vi 181 0), (vr 268), vn, vn, vn, (vr 269), (vi 524 0), (vi 82 0), (vs q1 525)])) E)
noncomputable def c7_271 (P : Params) : Obj := (Obj.mk y5 none (Data.func (FuncData.mk q51 q67 fa_Locks_waiting_pairs fb_Locks_waiting_pairs fs_Locks_waiting_pairs 3 [] vn vn vn (vs q38 442) none (vr 270) vn 0)) E)
noncomputable def c7_274 (P : Params) : Obj := (Obj.mk y0 none (Data.seq (A [(vs q31 530), (vs q56 531), (vs q16 532)]) 0) E)
noncomputable def c7_276 (P : Params) : Obj := (Obj.mk vn none (Data.func (FuncData.mk q52 q68 fa_Locks_waiting_place fb_Locks_waiting_place fs_Locks_waiting_place 0 [] vn vn vn vn none vn vn 0)) E)
noncomputable def c7_277 (P : Params) : Obj := (Obj.mk y1 none (Data.fields (A [(vs q52 527), (vs q68 528), (vs q1 529), (vi 85 0), (vi 2 0), (vi 0 0), (vi 0 0), (vi 3 0), (vr 272), vT, (vi 181 0), (vr 273), vn, (vr 274), (vr 275), (vr 276), (vi 533 0), (vi 85 0), (vs q1 534)])) E)
noncomputable def c7_278 (P : Params) : Obj := (Obj.mk y5 none (Data.func (FuncData.mk q52 q68 fa_Locks_waiting_place fb_Locks_waiting_place fs_Locks_waiting_place 3 [] vn vn vn (vs q38 442) none (vr 277) vn 0)) E)
noncomputable def c7_279 (P : Params) : Obj := (Obj.mk y0 none (Data.seq (A [(vs q69 536)]) 0) E)
noncomputable def c7_280 (P : Params) : Obj := (Obj.mk y3 none (Data.dict (A [(de P q17 451 (vs q38 442)), (de P q19 455 (vi 40 454)), (de P q30 462 (vr 220)), (de P q43 468 (vr 225)), (de P q44 474 (vr 230)), (de P q45 483 (vr 237)), (de P q46 491 (vr 244)), (de P q47 497 (vr 249)), (de P q48 503 (vr 254)), (de P q49 514 (vr 261)), (de P q50 520 (vr 266)), (de P q51 526 (vr 271)), (de P q52 535 (vr 278)), (de P q20 537 (vr 279)), (de P q70 539 (vr 282)), (de P q21 541 (vr 283)), (de P q5 542 vn)]) 4) E)
noncomputable def c7_281 (P : Params) : Obj := (Obj.mk y9 none (Data.cls (ClassData.mk q42 [y12] [(vr 281), y12] 280 q42 Bool.true [] [] Bool.false none Bool.false)) (A [none, none, (some (vs q42 444)), (some (vs q42 452)), (some y18), (some vT)]))
noncomputable def c7_282 (P : Params) : Obj := (Obj.mk y14 none (Data.fields (A [(vs q70 538), (vr 281), y19, y20])) E)
noncomputable def c7_283 (P : Params) : Obj := (Obj.mk y14 none (Data.fields (A [(vs q21 540), (vr 281), y15, vn])) E)
noncomputable def c7_284 (P : Params) : Obj := (Obj.mk y16 none (Data.fields (A [(vr 281), (vr 281), (vr 281)])) E)
noncomputable def c7_285 (P : Params) : Obj := (Obj.mk y7 none (Data.fields (A [y17, (vr 281)])) E)
noncomputable def tc7_ (P : Params) : BT := (nd (boot_o_0 P) (nd (boot_o_1 P) (nd (c7_3 P) (nd (boot_o_7 P) (nd (a11 P) (nd (c6_31 P) (nd (a12 P) (nd (c4_127 P) (l1 (a11 P)) .nil) (l1 (a11 P))) (nd (c0_35 P) (l1 (c5_159 P)) (l1 (c7_223 P)))) (nd (c0_35 P) (nd (c2_79 P) (nd (c4_143 P) (l1 (c7_271 P)) .nil) (l1 (a11 P))) (nd (a12 P) (l1 (c5_175 P)) (l1 (a12 P))))) (nd (c0_23 P) (nd (a12 P) (nd (c0_35 P) (nd (c4_135 P) (l1 (a12 P)) .nil) (l1 (c6_199 P))) (nd (c3_103 P) (l1 (c5_167 P)) (l1 (a11 P)))) (nd (c1_55 P) (nd (a12 P) (nd (c0_23 P) (l1 (c7_279 P)) .nil) (l1 (a12 P))) (nd (c0_35 P) (l1 (c5_183 P)) (l1 (c7_247 P)))))) (nd (a11 P) (nd (c0_19 P) (nd (c0_35 P) (nd (c1_67 P) (nd (c0_35 P) (l1 (c7_259 P)) .nil) (l1 (a11 P))) (nd (a12 P) (l1 (c5_163 P)) (l1 (a12 P)))) (nd (a12 P) (nd (c0_35 P) (nd (c4_147 P) (l1 (a11 P)) .nil) (l1 (c7_211 P))) (nd (c3_115 P) (l1 (a11 P)) (l1 (c7_243 P))))) (nd (c0_27 P) (nd (c0_43 P) (nd (a12 P) (nd (a12 P) (l1 (a11 P)) .nil) (l1 (c6_203 P))) (nd (c0_35 P) (l1 (c5_171 P)) (l1 (c7_235 P)))) (nd (c0_35 P) (nd (c2_91 P) (nd (c5_155 P) (l1 (c7_283 P)) .nil) (l1 (c7_219 P))) (nd (a12 P) (l1 (c5_187 P)) (l1 (a12 P))))))) (nd (boot_o_5 P) (nd (boot_o_9 P) (nd (c0_17 P) (nd (c0_33 P) (nd (c1_65 P) (nd (c4_129 P) (l1 (c7_257 P)) .nil) (l1 (c6_193 P))) (nd (c3_97 P) (l1 (c5_161 P)) (l1 (c7_225 P)))) (nd (c1_49 P) (nd (c2_81 P) (nd (c4_145 P) (l1 (a12 P)) .nil) (l1 (c7_209 P))) (nd (c3_113 P) (l1 (a12 P)) (l1 (a11 P))))) (nd (a11 P) (nd (c0_41 P) (nd (c2_73 P) (nd (c4_137 P) (l1 (c7_265 P)) .nil) (l1 (c6_201 P))) (nd (c3_105 P) (l1 (c0_35 P)) (l1 (c7_233 P)))) (nd (c1_57 P) (nd (c2_89 P) (nd (a11 P) (l1 (c7_281 P)) .nil) (l1 (a11 P))) (nd (c4_121 P) (l1 (c5_185 P)) (l1 (c7_249 P)))))) (nd (a13 P) (nd (c0_21 P) (nd (c0_37 P) (nd (c1_69 P) (nd (c4_133 P) (l1 (c7_261 P)) .nil) (l1 (c6_197 P))) (nd (c3_101 P) (l1 (c5_165 P)) (l1 (c7_229 P)))) (nd (c1_53 P) (nd (c2_85 P) (nd (c4_149 P) (l1 (c7_277 P)) .nil) (l1 (c7_213 P))) (nd (c3_117 P) (l1 (c5_181 P)) (l1 (a11 P))))) (nd (a11 P) (nd (c0_45 P) (nd (c2_77 P) (nd (a11 P) (l1 (c7_269 P)) .nil) (l1 (c6_205 P))) (nd (c3_109 P) (l1 (c5_173 P)) (l1 (c7_237 P)))) (nd (c1_61 P) (nd (c2_93 P) (nd (a11 P) (l1 (c7_285 P)) .nil) (l1 (a11 P))) (nd (c4_125 P) (l1 (c0_23 P)) (l1 (c7_253 P)))))))) (nd (boot_o_2 P) (nd (boot_o_4 P) (nd (boot_o_8 P) (nd (a12 P) (nd (c0_32 P) (nd (c1_64 P) (nd (c4_128 P) (l1 (a12 P)) .nil) (l1 (c6_192 P))) (nd (c0_23 P) (l1 (a11 P)) (l1 (c7_224 P)))) (nd (c0_23 P) (nd (c2_80 P) (nd (c4_144 P) (l1 (a11 P)) .nil) (l1 (c0_23 P))) (nd (c3_112 P) (l1 (a11 P)) (l1 (c7_240 P))))) (nd (c0_24 P) (nd (c0_40 P) (nd (c0_23 P) (nd (c4_136 P) (l1 (c7_264 P)) .nil) (l1 (c6_200 P))) (nd (c3_104 P) (l1 (c5_168 P)) (l1 (a12 P)))) (nd (c1_56 P) (nd (c2_88 P) (nd (c5_152 P) (l1 (c7_280 P)) .nil) (l1 (c7_216 P))) (nd (c0_23 P) (l1 (c5_184 P)) (l1 (c7_248 P)))))) (nd (c7_12 P) (nd (c0_20 P) (nd (c0_23 P) (nd (c1_68 P) (nd (c0_23 P) (l1 (c7_260 P)) .nil) (l1 (a12 P))) (nd (c3_100 P) (l1 (c5_164 P)) (l1 (c7_228 P)))) (nd (c1_52 P) (nd (c0_23 P) (nd (c4_148 P) (l1 (c7_276 P)) .nil) (l1 (c7_212 P))) (nd (c3_116 P) (l1 (c5_180 P)) (l1 (c7_244 P))))) (nd (c0_28 P) (nd (c0_44 P) (nd (c2_76 P) (nd (c4_140 P) (l1 (a12 P)) .nil) (l1 (c6_204 P))) (nd (c0_23 P) (l1 (a11 P)) (l1 (c7_236 P)))) (nd (c0_23 P) (nd (c2_92 P) (nd (c5_156 P) (l1 (c7_284 P)) .nil) (l1 (c7_220 P))) (nd (c4_124 P) (l1 (c0_35 P)) (l1 (c7_252 P))))))) (nd (boot_o_6 P) (nd (boot_o_10 P) (nd (a11 P) (nd (c0_34 P) (nd (a11 P) (nd (c4_130 P) (l1 (a11 P)) .nil) (l1 (c6_194 P))) (nd (a11 P) (l1 (c5_162 P)) (l1 (a11 P)))) (nd (a11 P) (nd (c2_82 P) (nd (c4_146 P) (l1 (c7_274 P)) .nil) (l1 (a11 P))) (nd (a11 P) (l1 (c5_178 P)) (l1 (c7_242 P))))) (nd (a12 P) (nd (a11 P) (nd (a11 P) (nd (a11 P) (l1 (c7_266 P)) .nil) (l1 (c6_202 P))) (nd (c3_106 P) (l1 (c0_23 P)) (l1 (a11 P)))) (nd (c1_58 P) (nd (a11 P) (nd (c5_154 P) (l1 (c7_282 P)) .nil) (l1 (c7_218 P))) (nd (a11 P) (l1 (c5_186 P)) (l1 (a11 P)))))) (nd (a14 P) (nd (c0_22 P) (nd (a11 P) (nd (c1_70 P) (nd (a11 P) (l1 (a11 P)) .nil) (l1 (a11 P))) (nd (a11 P) (l1 (c5_166 P)) (l1 (c7_230 P)))) (nd (a11 P) (nd (a11 P) (nd (c0_35 P) (l1 (c7_278 P)) .nil) (l1 (a11 P))) (nd (c3_118 P) (l1 (c5_182 P)) (l1 (a12 P))))) (nd (c0_30 P) (nd (c0_46 P) (nd (a11 P) (nd (c4_142 P) (l1 (c7_270 P)) .nil) (l1 (c6_206 P))) (nd (a11 P) (l1 (c5_174 P)) (l1 (a11 P)))) (nd (a11 P) (nd (c2_94 P) (l1 (a12 P)) (l1 (a12 P))) (nd (a11 P) (l1 (c6_190 P)) (l1 (c7_254 P)))))))))
noncomputable def sc7_ (w : World) (os : OsState) : SharedT := SharedT.mk (tc7_ w.params) 286 (@Life.mk [] [] [] 0 [] [] Bool.false E [] 0 Bool.false Bool.false Bool.false 0 [2000, 10, 10] Bool.false 0 Bool.true [] [] 0 Bool.false) E (@Drawn.mk 0 0 0 0) 547 os
noncomputable def c8_3 (P : Params) : Obj := (Obj.mk y3 none (Data.dict (A [(de P q3 165 (vs q41 545)), (de P q5 166 vn), (de P q6 167 vn), (de P q7 168 y4), (de P q8 169 vn), (de P q9 170 (vr 6)), (de P q10 171 (vr 4)), (de P q11 173 (vs q1 172)), (de P q12 174 vn), (de P q13 193 (vr 21)), (de P q14 213 (vr 31)), (de P q15 229 (vr 44)), (de P q22 245 (vr 56)), (de P q23 261 (vr 68)), (de P q24 277 (vr 80)), (de P q25 293 (vr 92)), (de P q26 309 (vr 104)), (de P q27 325 (vr 116)), (de P q28 341 (vr 128)), (de P q29 366 (vr 147)), (de P q34 391 (vr 166)), (de P q35 416 (vr 185)), (de P q39 441 (vr 204)), (de P q42 544 (vr 281)), (de P q71 556 (vr 286)), (de P q72 563 (vr 290)), (de P q73 626 (vr 335))]) 27) E)
noncomputable def c8_12 (P : Params) : Obj := (Obj.mk vn none (Data.fields (A [(vi 1 0), (vi 0 0), (vr 20), (vi 5 0), (vi 0 0), (vr 27), (vi 7 0), (vi 0 0), (vr 40), (vi 9 0), (vi 0 0), (vr 52), (vi 11 0), (vi 0 0), (vr 64), (vi 13 0), (vi 0 0), (vr 76), (vi 15 0), (vi 0 0), (vr 88), (vi 17 0), (vi 0 0), (vr 100), (vi 19 0), (vi 0 0), (vr 112), (vi 21 0), (vi 0 0), (vr 124), (vi 23 0), (vi 0 0), (vr 136), (vi 27 0), (vi 0 0), (vr 155), (vi 31 0), (vi 0 0), (vr 174), (vi 35 0), (vi 0 0), (vr 193), (vi 40 0), (vi 0 0), (vr 212), (vi 93 0), (vi 0 0), (vr 296)])) E)
noncomputable def c8_286 (P : Params) : Obj := (Obj.mk y3 none (Data.dict (A [(de P q74 547 (vi 0 548)), (de P q75 549 (vi 1 550)), (de P q76 551 (vi 2 552))]) 3) E)
noncomputable def c8_287 (P : Params) : Obj := (Obj.mk y0 none (Data.seq (A [(vs q74 557), (vs q74 558)]) 0) E)
noncomputable def c8_288 (P : Params) : Obj := (Obj.mk y0 none (Data.seq (A [(vs q74 559), (vs q75 560)]) 0) E)
noncomputable def c8_289 (P : Params) : Obj := (Obj.mk y0 none (Data.seq (A [(vs q75 561), (vs q74 562)]) 0) E)
noncomputable def c8_290 (P : Params) : Obj := (Obj.mk y0 none (Data.seq (A [(vr 287), (vr 288), (vr 289)]) 0) E)
noncomputable def c8_293 (P : Params) : Obj := (Obj.mk y3 none (Data.dict (A [(de P q17 571 (vs q41 545)), (de P q18 573 (vs q73 572)), (de P q19 575 (vi 93 574)), (de P q30 584 (vr 304)), (de P q77 591 (vr 311)), (de P q78 600 (vr 318)), (de P q79 609 (vr 325)), (de P q80 616 (vr 332)), (de P q20 619 (vr 333))]) 9) E)
noncomputable def c8_295 (P : Params) : Obj := (Obj.mk vn none (Data.fields (A [(vi 95 0), (vi 4 0), (vr 303), (vi 99 0), (vi 4 0), (vr 310), (vi 102 0), (vi 4 0), (vr 317), (vi 106 0), (vi 4 0), (vr 324), (vi 110 0), (vi 4 0), (vr 331)])) E)
noncomputable def c8_296 (P : Params) : Obj := (Obj.mk y1 none (Data.fields (A [(vs q73 566), (vs q73 567), (vs q1 568), (vi 93 0), (vi 0 0), (vi 0 0), (vi 0 0), (vi 0 0), (vr 294), vF, (vi 181 0), (vr 295), vn, vn, vn, vn, (vi 569 0), (vi 93 0), (vs q1 570)])) E)
noncomputable def c8_297 (P : Params) : Obj := (Obj.mk y2 none Data.plain (A [(sr 296), (sr 3), (sr 293), none, (some (vs q41 545)), none, (sr 0)]))
noncomputable def c8_300 (P : Params) : Obj := (Obj.mk y0 none (Data.seq (A [(vs q31 579), (vs q81 580), (vs q82 581)]) 0) E)
noncomputable def c8_302 (P : Params) : Obj := (Obj.mk vn none (Data.func (FuncData.mk q30 q83 fa_Lock___init__ fb_Lock___init__ fs_Lock___init__ 0 [] vn vn vn vn none vn vn 0)) E)
noncomputable def c8_303 (P : Params) : Obj := (Obj.mk y1 none (Data.fields (A [(vs q30 576), (vs q83 577), (vs q1 578), (vi 95 0), (vi 3 0), (vi 0 0), (vi 0 0), (vi 3 0), (vr 298), vT, (vi 181 0), (vr 299), vn, (vr 300), (vr 301), (vr 302), (vi 582 0), (vi 95 0), (vs q1 583)])) E)
noncomputable def c8_304 (P : Params) : Obj := (Obj.mk y5 none (Data.func (FuncData.mk q30 q83 fa_Lock___init__ fb_Lock___init__ fs_Lock___init__ 3 [] vn vn vn (vs q41 545) none (vr 303) vn 0)) E)
noncomputable def c8_307 (P : Params) : Obj := (Obj.mk y0 none (Data.seq (A [(vs q31 588)]) 0) E)
noncomputable def c8_309 (P : Params) : Obj := (Obj.mk vn none (Data.func (FuncData.mk q77 q84 fa_Lock_kind fb_Lock_kind fs_Lock_kind 0 [] vn vn vn vn none vn vn 0)) E)
noncomputable def c8_310 (P : Params) : Obj := (Obj.mk y1 none (Data.fields (A [(vs q77 585), (vs q84 586), (vs q1 587), (vi 99 0), (vi 1 0), (vi 0 0), (vi 0 0), (vi 3 0), (vr 305), vT, (vi 181 0), (vr 306), vn, (vr 307), (vr 308), (vr 309), (vi 589 0), (vi 99 0), (vs q1 590)])) E)
noncomputable def c8_311 (P : Params) : Obj := (Obj.mk y5 none (Data.func (FuncData.mk q77 q84 fa_Lock_kind fb_Lock_kind fs_Lock_kind 3 [] vn vn vn (vs q41 545) none (vr 310) vn 0)) E)
noncomputable def c8_314 (P : Params) : Obj := (Obj.mk y0 none (Data.seq (A [(vs q31 595), (vs q85 596), (vs q86 597)]) 0) E)
noncomputable def c8_316 (P : Params) : Obj := (Obj.mk vn none (Data.func (FuncData.mk q78 q87 fa_Lock_beside fb_Lock_beside fs_Lock_beside 0 [] vn vn vn vn none vn vn 0)) E)
noncomputable def c8_317 (P : Params) : Obj := (Obj.mk y1 none (Data.fields (A [(vs q78 592), (vs q87 593), (vs q1 594), (vi 102 0), (vi 2 0), (vi 0 0), (vi 0 0), (vi 3 0), (vr 312), vT, (vi 181 0), (vr 313), vn, (vr 314), (vr 315), (vr 316), (vi 598 0), (vi 102 0), (vs q1 599)])) E)
noncomputable def c8_318 (P : Params) : Obj := (Obj.mk y5 none (Data.func (FuncData.mk q78 q87 fa_Lock_beside fb_Lock_beside fs_Lock_beside 3 [] vn vn vn (vs q41 545) none (vr 317) vn 0)) E)
noncomputable def c8_321 (P : Params) : Obj := (Obj.mk y0 none (Data.seq (A [(vs q31 604), (vs q85 605), (vs q88 606)]) 0) E)
noncomputable def c8_323 (P : Params) : Obj := (Obj.mk vn none (Data.func (FuncData.mk q79 q89 fa_Lock_covers fb_Lock_covers fs_Lock_covers 0 [] vn vn vn vn none vn vn 0)) E)
noncomputable def c8_324 (P : Params) : Obj := (Obj.mk y1 none (Data.fields (A [(vs q79 601), (vs q89 602), (vs q1 603), (vi 106 0), (vi 2 0), (vi 0 0), (vi 0 0), (vi 3 0), (vr 319), vT, (vi 181 0), (vr 320), vn, (vr 321), (vr 322), (vr 323), (vi 607 0), (vi 106 0), (vs q1 608)])) E)
noncomputable def c8_325 (P : Params) : Obj := (Obj.mk y5 none (Data.func (FuncData.mk q79 q89 fa_Lock_covers fb_Lock_covers fs_Lock_covers 3 [] vn vn vn (vs q41 545) none (vr 324) vn 0)) E)
noncomputable def c8_328 (P : Params) : Obj := (Obj.mk y0 none (Data.seq (A [(vs q31 613)]) 0) E)
noncomputable def c8_330 (P : Params) : Obj := (Obj.mk vn none (Data.func (FuncData.mk q80 q90 fa_Lock_told fb_Lock_told fs_Lock_told 0 [] vn vn vn vn none vn vn 0)) E)
noncomputable def c8_331 (P : Params) : Obj := (Obj.mk y1 none (Data.fields (A [(vs q80 610), (vs q90 611), (vs q1 612), (vi 110 0), (vi 1 0), (vi 0 0), (vi 0 0), (vi 3 0), (vr 326), vT, (vi 181 0), (vr 327), vn, (vr 328), (vr 329), (vr 330), (vi 614 0), (vi 110 0), (vs q1 615)])) E)
noncomputable def c8_332 (P : Params) : Obj := (Obj.mk y5 none (Data.func (FuncData.mk q80 q90 fa_Lock_told fb_Lock_told fs_Lock_told 3 [] vn vn vn (vs q41 545) none (vr 331) vn 0)) E)
noncomputable def c8_333 (P : Params) : Obj := (Obj.mk y0 none (Data.seq (A [(vs q81 617), (vs q82 618)]) 0) E)
noncomputable def c8_334 (P : Params) : Obj := (Obj.mk y3 none (Data.dict (A [(de P q17 571 (vs q41 545)), (de P q19 575 (vi 93 574)), (de P q30 584 (vr 304)), (de P q77 591 (vr 311)), (de P q78 600 (vr 318)), (de P q79 609 (vr 325)), (de P q80 616 (vr 332)), (de P q20 619 (vr 333)), (de P q70 621 (vr 336)), (de P q21 623 (vr 337)), (de P q5 624 vn)]) 4) E)
noncomputable def c8_335 (P : Params) : Obj := (Obj.mk y9 none (Data.cls (ClassData.mk q73 [y12] [(vr 335), y12] 334 q73 Bool.true [] [] Bool.false none Bool.false)) (A [none, none, (some (vs q73 564)), (some (vs q73 572)), (some y18), (some vT)]))
noncomputable def c8_336 (P : Params) : Obj := (Obj.mk y14 none (Data.fields (A [(vs q70 620), (vr 335), y19, y20])) E)
noncomputable def c8_337 (P : Params) : Obj := (Obj.mk y14 none (Data.fields (A [(vs q21 622), (vr 335), y15, vn])) E)
noncomputable def c8_338 (P : Params) : Obj := (Obj.mk y16 none (Data.fields (A [(vr 335), (vr 335), (vr 335)])) E)
noncomputable def c8_339 (P : Params) : Obj := (Obj.mk y7 none (Data.fields (A [y17, (vr 335)])) E)
noncomputable def tc8_ (P : Params) : BT := (nd (boot_o_0 P) (nd (boot_o_1 P) (nd (c8_3 P) (nd (boot_o_7 P) (nd (a11 P) (nd (c6_31 P) (nd (a12 P) (nd (c4_127 P) (l1 (a11 P)) .nil) (nd (a11 P) (l1 (a11 P)) .nil)) (nd (c0_35 P) (nd (c5_159 P) (l1 (c8_287 P)) .nil) (l1 (c7_223 P)))) (nd (c0_35 P) (nd (c2_79 P) (nd (c4_143 P) (l1 (c7_271 P)) .nil) (nd (a11 P) (l1 (c8_335 P)) .nil)) (nd (a12 P) (nd (c5_175 P) (l1 (c8_303 P)) .nil) (l1 (a12 P))))) (nd (c0_23 P) (nd (a12 P) (nd (c0_35 P) (nd (c4_135 P) (l1 (a12 P)) .nil) (nd (c6_199 P) (l1 (a12 P)) .nil)) (nd (c3_103 P) (nd (c5_167 P) (l1 (c8_295 P)) .nil) (l1 (a11 P)))) (nd (c1_55 P) (nd (a12 P) (nd (c0_23 P) (l1 (c7_279 P)) .nil) (l1 (a12 P))) (nd (c0_35 P) (nd (c5_183 P) (l1 (c8_311 P)) .nil) (l1 (c7_247 P)))))) (nd (a11 P) (nd (c0_19 P) (nd (c0_35 P) (nd (c1_67 P) (nd (c0_35 P) (l1 (c7_259 P)) .nil) (nd (a11 P) (l1 (c8_323 P)) .nil)) (nd (a12 P) (nd (c5_163 P) (l1 (a11 P)) .nil) (l1 (a12 P)))) (nd (a12 P) (nd (c0_35 P) (nd (c4_147 P) (l1 (a11 P)) .nil) (nd (c7_211 P) (l1 (c8_339 P)) .nil)) (nd (c3_115 P) (nd (a11 P) (l1 (c8_307 P)) .nil) (l1 (c7_243 P))))) (nd (c0_27 P) (nd (c0_43 P) (nd (a12 P) (nd (a12 P) (l1 (a11 P)) .nil) (nd (c6_203 P) (l1 (c8_331 P)) .nil)) (nd (c0_35 P) (nd (c5_171 P) (l1 (a12 P)) .nil) (l1 (c7_235 P)))) (nd (c0_35 P) (nd (c2_91 P) (nd (c5_155 P) (l1 (c7_283 P)) .nil) (l1 (c7_219 P))) (nd (a12 P) (nd (c5_187 P) (l1 (a11 P)) .nil) (l1 (a12 P))))))) (nd (boot_o_5 P) (nd (boot_o_9 P) (nd (c0_17 P) (nd (c0_33 P) (nd (c1_65 P) (nd (c4_129 P) (l1 (c7_257 P)) .nil) (nd (c6_193 P) (l1 (c8_321 P)) .nil)) (nd (c3_97 P) (nd (c5_161 P) (l1 (c8_289 P)) .nil) (l1 (c7_225 P)))) (nd (c1_49 P) (nd (c2_81 P) (nd (c4_145 P) (l1 (a12 P)) .nil) (nd (c7_209 P) (l1 (c8_337 P)) .nil)) (nd (c3_113 P) (nd (a12 P) (l1 (a11 P)) .nil) (l1 (a11 P))))) (nd (a11 P) (nd (c0_41 P) (nd (c2_73 P) (nd (c4_137 P) (l1 (c7_265 P)) .nil) (nd (c6_201 P) (l1 (a11 P)) .nil)) (nd (c3_105 P) (nd (c0_35 P) (l1 (c8_297 P)) .nil) (l1 (c7_233 P)))) (nd (c1_57 P) (nd (c2_89 P) (nd (a11 P) (l1 (c7_281 P)) .nil) (l1 (a11 P))) (nd (c4_121 P) (nd (c5_185 P) (l1 (a12 P)) .nil) (l1 (c7_249 P)))))) (nd (a13 P) (nd (c0_21 P) (nd (c0_37 P) (nd (c1_69 P) (nd (c4_133 P) (l1 (c7_261 P)) .nil) (nd (c6_197 P) (l1 (c8_325 P)) .nil)) (nd (c3_101 P) (nd (c5_165 P) (l1 (c8_293 P)) .nil) (l1 (c7_229 P)))) (nd (c1_53 P) (nd (c2_85 P) (nd (c4_149 P) (l1 (c7_277 P)) .nil) (l1 (c7_213 P))) (nd (c3_117 P) (nd (c5_181 P) (l1 (c8_309 P)) .nil) (l1 (a11 P))))) (nd (a11 P) (nd (c0_45 P) (nd (c2_77 P) (nd (a11 P) (l1 (c7_269 P)) .nil) (nd (c6_205 P) (l1 (c8_333 P)) .nil)) (nd (c3_109 P) (nd (c5_173 P) (l1 (a11 P)) .nil) (l1 (c7_237 P)))) (nd (c1_61 P) (nd (c2_93 P) (nd (a11 P) (l1 (c7_285 P)) .nil) (l1 (a11 P))) (nd (c4_125 P) (nd (c0_23 P) (l1 (c8_317 P)) .nil) (l1 (c7_253 P)))))))) (nd (boot_o_2 P) (nd (boot_o_4 P) (nd (boot_o_8 P) (nd (a12 P) (nd (c0_32 P) (nd (c1_64 P) (nd (c4_128 P) (l1 (a12 P)) .nil) (nd (c6_192 P) (l1 (a12 P)) .nil)) (nd (c0_23 P) (nd (a11 P) (l1 (c8_288 P)) .nil) (l1 (c7_224 P)))) (nd (c0_23 P) (nd (c2_80 P) (nd (c4_144 P) (l1 (a11 P)) .nil) (nd (c0_23 P) (l1 (c8_336 P)) .nil)) (nd (c3_112 P) (nd (a11 P) (l1 (c8_304 P)) .nil) (l1 (c7_240 P))))) (nd (c0_24 P) (nd (c0_40 P) (nd (c0_23 P) (nd (c4_136 P) (l1 (c7_264 P)) .nil) (nd (c6_200 P) (l1 (c8_328 P)) .nil)) (nd (c3_104 P) (nd (c5_168 P) (l1 (c8_296 P)) .nil) (l1 (a12 P)))) (nd (c1_56 P) (nd (c2_88 P) (nd (c5_152 P) (l1 (c7_280 P)) .nil) (l1 (c7_216 P))) (nd (c0_23 P) (nd (c5_184 P) (l1 (a11 P)) .nil) (l1 (c7_248 P)))))) (nd (c8_12 P) (nd (c0_20 P) (nd (c0_23 P) (nd (c1_68 P) (nd (c0_23 P) (l1 (c7_260 P)) .nil) (nd (a12 P) (l1 (c8_324 P)) .nil)) (nd (c3_100 P) (nd (c5_164 P) (l1 (c0_23 P)) .nil) (l1 (c7_228 P)))) (nd (c1_52 P) (nd (c0_23 P) (nd (c4_148 P) (l1 (c7_276 P)) .nil) (l1 (c7_212 P))) (nd (c3_116 P) (nd (c5_180 P) (l1 (a11 P)) .nil) (l1 (c7_244 P))))) (nd (c0_28 P) (nd (c0_44 P) (nd (c2_76 P) (nd (c4_140 P) (l1 (a12 P)) .nil) (nd (c6_204 P) (l1 (c8_332 P)) .nil)) (nd (c0_23 P) (nd (a11 P) (l1 (c8_300 P)) .nil) (l1 (c7_236 P)))) (nd (c0_23 P) (nd (c2_92 P) (nd (c5_156 P) (l1 (c7_284 P)) .nil) (l1 (c7_220 P))) (nd (c4_124 P) (nd (c0_35 P) (l1 (c8_316 P)) .nil) (l1 (c7_252 P))))))) (nd (boot_o_6 P) (nd (boot_o_10 P) (nd (a11 P) (nd (c0_34 P) (nd (a11 P) (nd (c4_130 P) (l1 (a11 P)) .nil) (nd (c6_194 P) (l1 (a11 P)) .nil)) (nd (a11 P) (nd (c5_162 P) (l1 (c8_290 P)) .nil) (l1 (a11 P)))) (nd (a11 P) (nd (c2_82 P) (nd (c4_146 P) (l1 (c7_274 P)) .nil) (nd (a11 P) (l1 (c8_338 P)) .nil)) (nd (a11 P) (nd (c5_178 P) (l1 (a12 P)) .nil) (l1 (c7_242 P))))) (nd (a12 P) (nd (a11 P) (nd (a11 P) (nd (a11 P) (l1 (c7_266 P)) .nil) (nd (c6_202 P) (l1 (c8_330 P)) .nil)) (nd (c3_106 P) (nd (c0_23 P) (l1 (a11 P)) .nil) (l1 (a11 P)))) (nd (c1_58 P) (nd (a11 P) (nd (c5_154 P) (l1 (c7_282 P)) .nil) (l1 (c7_218 P))) (nd (a11 P) (nd (c5_186 P) (l1 (c8_314 P)) .nil) (l1 (a11 P)))))) (nd (a14 P) (nd (c0_22 P) (nd (a11 P) (nd (c1_70 P) (nd (a11 P) (l1 (a11 P)) .nil) (nd (a11 P) (l1 (a11 P)) .nil)) (nd (a11 P) (nd (c5_166 P) (l1 (a11 P)) .nil) (l1 (c7_230 P)))) (nd (a11 P) (nd (a11 P) (nd (c0_35 P) (l1 (c7_278 P)) .nil) (l1 (a11 P))) (nd (c3_118 P) (nd (c5_182 P) (l1 (c8_310 P)) .nil) (l1 (a12 P))))) (nd (c0_30 P) (nd (c0_46 P) (nd (a11 P) (nd (c4_142 P) (l1 (c7_270 P)) .nil) (nd (c6_206 P) (l1 (c8_334 P)) .nil)) (nd (a11 P) (nd (c5_174 P) (l1 (c8_302 P)) .nil) (l1 (a11 P)))) (nd (a11 P) (nd (c2_94 P) (nd (a12 P) (l1 (c8_286 P)) .nil) (l1 (a12 P))) (nd (a11 P) (nd (c6_190 P) (l1 (c8_318 P)) .nil) (l1 (c7_254 P)))))))))
noncomputable def sc8_ (w : World) (os : OsState) : SharedT := SharedT.mk (tc8_ w.params) 340 (@Life.mk [] [] [] 0 [] [] Bool.false E [] 0 Bool.false Bool.false Bool.false 0 [2000, 10, 10] Bool.false 0 Bool.true [] [] 0 Bool.false) E (@Drawn.mk 0 0 0 0) 627 os
noncomputable def c9_3 (P : Params) : Obj := (Obj.mk y3 none (Data.dict (A [(de P q3 165 (vs q41 545)), (de P q5 166 vn), (de P q6 167 vn), (de P q7 168 y4), (de P q8 169 vn), (de P q9 170 (vr 6)), (de P q10 171 (vr 4)), (de P q11 173 (vs q1 172)), (de P q12 174 vn), (de P q13 193 (vr 21)), (de P q14 213 (vr 31)), (de P q15 229 (vr 44)), (de P q22 245 (vr 56)), (de P q23 261 (vr 68)), (de P q24 277 (vr 80)), (de P q25 293 (vr 92)), (de P q26 309 (vr 104)), (de P q27 325 (vr 116)), (de P q28 341 (vr 128)), (de P q29 366 (vr 147)), (de P q34 391 (vr 166)), (de P q35 416 (vr 185)), (de P q39 441 (vr 204)), (de P q42 544 (vr 281)), (de P q71 556 (vr 286)), (de P q72 563 (vr 290)), (de P q73 626 (vr 335)), (de P q91 649 (vr 356)), (de P q92 672 (vr 375))]) 29) E)
noncomputable def c9_12 (P : Params) : Obj := (Obj.mk vn none (Data.fields (A [(vi 1 0), (vi 0 0), (vr 20), (vi 5 0), (vi 0 0), (vr 27), (vi 7 0), (vi 0 0), (vr 40), (vi 9 0), (vi 0 0), (vr 52), (vi 11 0), (vi 0 0), (vr 64), (vi 13 0), (vi 0 0), (vr 76), (vi 15 0), (vi 0 0), (vr 88), (vi 17 0), (vi 0 0), (vr 100), (vi 19 0), (vi 0 0), (vr 112), (vi 21 0), (vi 0 0), (vr 124), (vi 23 0), (vi 0 0), (vr 136), (vi 27 0), (vi 0 0), (vr 155), (vi 31 0), (vi 0 0), (vr 174), (vi 35 0), (vi 0 0), (vr 193), (vi 40 0), (vi 0 0), (vr 212), (vi 93 0), (vi 0 0), (vr 296), (vi 112 0), (vi 0 0), (vr 345), (vi 116 0), (vi 0 0), (vr 364)])) E)
noncomputable def c9_335 (P : Params) : Obj := (Obj.mk y9 none (Data.cls (ClassData.mk q73 [y12] [(vr 335), y12] 334 q73 Bool.true [] [(vr 356), (vr 375)] Bool.false none Bool.false)) (A [none, none, (some (vs q73 564)), (some (vs q73 572)), (some y18), (some vT)]))
noncomputable def c9_340 (P : Params) : Obj := (Obj.mk y0 none (Data.seq (A [(vr 335)]) 0) E)
noncomputable def c9_342 (P : Params) : Obj := (Obj.mk y3 none (Data.dict (A [(de P q17 634 (vs q41 545)), (de P q18 636 (vs q91 635)), (de P q19 638 (vi 112 637)), (de P q77 645 (vr 353)), (de P q20 646 (vr 354))]) 5) E)
noncomputable def c9_344 (P : Params) : Obj := (Obj.mk vn none (Data.fields (A [(vi 114 0), (vi 4 0), (vr 352)])) E)
noncomputable def c9_345 (P : Params) : Obj := (Obj.mk y1 none (Data.fields (A [(vs q91 629), (vs q91 630), (vs q1 631), (vi 112 0), (vi 0 0), (vi 0 0), (vi 0 0), (vi 0 0), (vr 343), vF, (vi 181 0), (vr 344), vn, vn, vn, vn, (vi 632 0), (vi 112 0), (vs q1 633)])) E)
noncomputable def c9_346 (P : Params) : Obj := (Obj.mk y2 none Data.plain (A [(sr 345), (sr 3), (sr 342), none, (some (vs q41 545)), none, (sr 0)]))
noncomputable def c9_349 (P : Params) : Obj := (Obj.mk y0 none (Data.seq (A [(vs q31 642)]) 0) E)
noncomputable def c9_351 (P : Params) : Obj := (Obj.mk vn none (Data.func (FuncData.mk q77 q93 fa_Read_kind fb_Read_kind fs_Read_kind 0 [] vn vn vn vn none vn vn 0)) E)
noncomputable def c9_352 (P : Params) : Obj := (Obj.mk y1 none (Data.fields (A [(vs q77 639), (vs q93 640), (vs q1 641), (vi 114 0), (vi 1 0), (vi 0 0), (vi 0 0), (vi 3 0), (vr 347), vT, (vi 181 0), (vr 348), vn, (vr 349), (vr 350), (vr 351), (vi 643 0), (vi 114 0), (vs q1 644)])) E)
noncomputable def c9_353 (P : Params) : Obj := (Obj.mk y5 none (Data.func (FuncData.mk q77 q93 fa_Read_kind fb_Read_kind fs_Read_kind 3 [] vn vn vn (vs q41 545) none (vr 352) vn 0)) E)
noncomputable def c9_355 (P : Params) : Obj := (Obj.mk y3 none (Data.dict (A [(de P q17 634 (vs q41 545)), (de P q19 638 (vi 112 637)), (de P q77 645 (vr 353)), (de P q20 646 (vr 354)), (de P q5 647 vn)]) 2) E)
noncomputable def c9_356 (P : Params) : Obj := (Obj.mk y9 none (Data.cls (ClassData.mk q91 [(vr 335)] [(vr 356), (vr 335), y12] 355 q91 Bool.true [] [] Bool.false none Bool.false)) (A [(sr 340), none, (some (vs q91 627)), (some (vs q91 635)), (some y18), (some vT)]))
noncomputable def c9_357 (P : Params) : Obj := (Obj.mk y16 none (Data.fields (A [(vr 356), (vr 356), (vr 356)])) E)
noncomputable def c9_358 (P : Params) : Obj := (Obj.mk y7 none (Data.fields (A [y17, (vr 356)])) E)
noncomputable def c9_361 (P : Params) : Obj := (Obj.mk y3 none (Data.dict (A [(de P q17 657 (vs q41 545)), (de P q18 659 (vs q92 658)), (de P q19 661 (vi 116 660)), (de P q77 668 (vr 372)), (de P q20 669 (vr 373))]) 5) E)
noncomputable def c9_363 (P : Params) : Obj := (Obj.mk vn none (Data.fields (A [(vi 118 0), (vi 4 0), (vr 371)])) E)
noncomputable def c9_364 (P : Params) : Obj := (Obj.mk y1 none (Data.fields (A [(vs q92 652), (vs q92 653), (vs q1 654), (vi 116 0), (vi 0 0), (vi 0 0), (vi 0 0), (vi 0 0), (vr 362), vF, (vi 181 0), (vr 363), vn, vn, vn, vn, (vi 655 0), (vi 116 0), (vs q1 656)])) E)
noncomputable def c9_365 (P : Params) : Obj := (Obj.mk y2 none Data.plain (A [(sr 364), (sr 3), (sr 361), none, (some (vs q41 545)), none, (sr 0)]))
noncomputable def c9_368 (P : Params) : Obj := (Obj.mk y0 none (Data.seq (A [(vs q31 665)]) 0) E)
noncomputable def c9_370 (P : Params) : Obj := (Obj.mk vn none (Data.func (FuncData.mk q77 q94 fa_Mean_kind fb_Mean_kind fs_Mean_kind 0 [] vn vn vn vn none vn vn 0)) E)
noncomputable def c9_371 (P : Params) : Obj := (Obj.mk y1 none (Data.fields (A [(vs q77 662), (vs q94 663), (vs q1 664), (vi 118 0), (vi 1 0), (vi 0 0), (vi 0 0), (vi 3 0), (vr 366), vT, (vi 181 0), (vr 367), vn, (vr 368), (vr 369), (vr 370), (vi 666 0), (vi 118 0), (vs q1 667)])) E)
noncomputable def c9_372 (P : Params) : Obj := (Obj.mk y5 none (Data.func (FuncData.mk q77 q94 fa_Mean_kind fb_Mean_kind fs_Mean_kind 3 [] vn vn vn (vs q41 545) none (vr 371) vn 0)) E)
noncomputable def c9_374 (P : Params) : Obj := (Obj.mk y3 none (Data.dict (A [(de P q17 657 (vs q41 545)), (de P q19 661 (vi 116 660)), (de P q77 668 (vr 372)), (de P q20 669 (vr 373)), (de P q5 670 vn)]) 2) E)
noncomputable def c9_375 (P : Params) : Obj := (Obj.mk y9 none (Data.cls (ClassData.mk q92 [(vr 335)] [(vr 375), (vr 335), y12] 374 q92 Bool.true [] [] Bool.false none Bool.false)) (A [(sr 359), none, (some (vs q92 650)), (some (vs q92 658)), (some y18), (some vT)]))
noncomputable def c9_376 (P : Params) : Obj := (Obj.mk y16 none (Data.fields (A [(vr 375), (vr 375), (vr 375)])) E)
noncomputable def c9_377 (P : Params) : Obj := (Obj.mk y7 none (Data.fields (A [y17, (vr 375)])) E)
noncomputable def tc9_ (P : Params) : BT := (nd (boot_o_0 P) (nd (boot_o_1 P) (nd (c9_3 P) (nd (boot_o_7 P) (nd (a11 P) (nd (c6_31 P) (nd (a12 P) (nd (c4_127 P) (l1 (a11 P)) .nil) (nd (a11 P) (l1 (a11 P)) .nil)) (nd (c0_35 P) (nd (c5_159 P) (l1 (c8_287 P)) .nil) (nd (c7_223 P) (l1 (c9_351 P)) .nil))) (nd (c0_35 P) (nd (c2_79 P) (nd (c4_143 P) (l1 (c7_271 P)) .nil) (nd (a11 P) (l1 (c9_335 P)) .nil)) (nd (a12 P) (nd (c5_175 P) (l1 (c8_303 P)) .nil) (nd (a12 P) (l1 (a12 P)) .nil)))) (nd (c0_23 P) (nd (a12 P) (nd (c0_35 P) (nd (c4_135 P) (l1 (a12 P)) .nil) (nd (c6_199 P) (l1 (a12 P)) .nil)) (nd (c3_103 P) (nd (c5_167 P) (l1 (c8_295 P)) .nil) (nd (a11 P) (l1 (c9_340 P)) .nil))) (nd (c1_55 P) (nd (a12 P) (nd (c0_23 P) (l1 (c7_279 P)) .nil) (nd (a12 P) (l1 (a11 P)) .nil)) (nd (c0_35 P) (nd (c5_183 P) (l1 (c8_311 P)) .nil) (nd (c7_247 P) (l1 (c9_375 P)) .nil))))) (nd (a11 P) (nd (c0_19 P) (nd (c0_35 P) (nd (c1_67 P) (nd (c0_35 P) (l1 (c7_259 P)) .nil) (nd (a11 P) (l1 (c8_323 P)) .nil)) (nd (a12 P) (nd (c5_163 P) (l1 (a11 P)) .nil) (nd (a12 P) (l1 (c9_355 P)) .nil))) (nd (a12 P) (nd (c0_35 P) (nd (c4_147 P) (l1 (a11 P)) .nil) (nd (c7_211 P) (l1 (c8_339 P)) .nil)) (nd (c3_115 P) (nd (a11 P) (l1 (c8_307 P)) .nil) (nd (c7_243 P) (l1 (c9_371 P)) .nil)))) (nd (c0_27 P) (nd (c0_43 P) (nd (a12 P) (nd (a12 P) (l1 (a11 P)) .nil) (nd (c6_203 P) (l1 (c8_331 P)) .nil)) (nd (c0_35 P) (nd (c5_171 P) (l1 (a12 P)) .nil) (nd (c7_235 P) (l1 (c9_363 P)) .nil))) (nd (c0_35 P) (nd (c2_91 P) (nd (c5_155 P) (l1 (c7_283 P)) .nil) (nd (c7_219 P) (l1 (a11 P)) .nil)) (nd (a12 P) (nd (c5_187 P) (l1 (a11 P)) .nil) (l1 (a12 P))))))) (nd (boot_o_5 P) (nd (boot_o_9 P) (nd (c0_17 P) (nd (c0_33 P) (nd (c1_65 P) (nd (c4_129 P) (l1 (c7_257 P)) .nil) (nd (c6_193 P) (l1 (c8_321 P)) .nil)) (nd (c3_97 P) (nd (c5_161 P) (l1 (c8_289 P)) .nil) (nd (c7_225 P) (l1 (c9_353 P)) .nil))) (nd (c1_49 P) (nd (c2_81 P) (nd (c4_145 P) (l1 (a12 P)) .nil) (nd (c7_209 P) (l1 (c8_337 P)) .nil)) (nd (c3_113 P) (nd (a12 P) (l1 (a11 P)) .nil) (nd (a11 P) (l1 (a11 P)) .nil)))) (nd (a11 P) (nd (c0_41 P) (nd (c2_73 P) (nd (c4_137 P) (l1 (c7_265 P)) .nil) (nd (c6_201 P) (l1 (a11 P)) .nil)) (nd (c3_105 P) (nd (c0_35 P) (l1 (c8_297 P)) .nil) (nd (c7_233 P) (l1 (c9_361 P)) .nil))) (nd (c1_57 P) (nd (c2_89 P) (nd (a11 P) (l1 (c7_281 P)) .nil) (nd (a11 P) (l1 (c9_345 P)) .nil)) (nd (c4_121 P) (nd (c5_185 P) (l1 (a12 P)) .nil) (nd (c7_249 P) (l1 (c9_377 P)) .nil))))) (nd (a13 P) (nd (c0_21 P) (nd (c0_37 P) (nd (c1_69 P) (nd (c4_133 P) (l1 (c7_261 P)) .nil) (nd (c6_197 P) (l1 (c8_325 P)) .nil)) (nd (c3_101 P) (nd (c5_165 P) (l1 (c8_293 P)) .nil) (nd (c7_229 P) (l1 (c9_357 P)) .nil))) (nd (c1_53 P) (nd (c2_85 P) (nd (c4_149 P) (l1 (c7_277 P)) .nil) (nd (c7_213 P) (l1 (c0_23 P)) .nil)) (nd (c3_117 P) (nd (c5_181 P) (l1 (c8_309 P)) .nil) (nd (a11 P) (l1 (a11 P)) .nil)))) (nd (a11 P) (nd (c0_45 P) (nd (c2_77 P) (nd (a11 P) (l1 (c7_269 P)) .nil) (nd (c6_205 P) (l1 (c8_333 P)) .nil)) (nd (c3_109 P) (nd (c5_173 P) (l1 (a11 P)) .nil) (nd (c7_237 P) (l1 (c9_365 P)) .nil))) (nd (c1_61 P) (nd (c2_93 P) (nd (a11 P) (l1 (c7_285 P)) .nil) (nd (a11 P) (l1 (c9_349 P)) .nil)) (nd (c4_125 P) (nd (c0_23 P) (l1 (c8_317 P)) .nil) (l1 (c7_253 P)))))))) (nd (boot_o_2 P) (nd (boot_o_4 P) (nd (boot_o_8 P) (nd (a12 P) (nd (c0_32 P) (nd (c1_64 P) (nd (c4_128 P) (l1 (a12 P)) .nil) (nd (c6_192 P) (l1 (a12 P)) .nil)) (nd (c0_23 P) (nd (a11 P) (l1 (c8_288 P)) .nil) (nd (c7_224 P) (l1 (c9_352 P)) .nil))) (nd (c0_23 P) (nd (c2_80 P) (nd (c4_144 P) (l1 (a11 P)) .nil) (nd (c0_23 P) (l1 (c8_336 P)) .nil)) (nd (c3_112 P) (nd (a11 P) (l1 (c8_304 P)) .nil) (nd (c7_240 P) (l1 (c9_368 P)) .nil)))) (nd (c0_24 P) (nd (c0_40 P) (nd (c0_23 P) (nd (c4_136 P) (l1 (c7_264 P)) .nil) (nd (c6_200 P) (l1 (c8_328 P)) .nil)) (nd (c3_104 P) (nd (c5_168 P) (l1 (c8_296 P)) .nil) (nd (a12 P) (l1 (c0_23 P)) .nil))) (nd (c1_56 P) (nd (c2_88 P) (nd (c5_152 P) (l1 (c7_280 P)) .nil) (nd (c7_216 P) (l1 (c9_344 P)) .nil)) (nd (c0_23 P) (nd (c5_184 P) (l1 (a11 P)) .nil) (nd (c7_248 P) (l1 (c9_376 P)) .nil))))) (nd (c9_12 P) (nd (c0_20 P) (nd (c0_23 P) (nd (c1_68 P) (nd (c0_23 P) (l1 (c7_260 P)) .nil) (nd (a12 P) (l1 (c8_324 P)) .nil)) (nd (c3_100 P) (nd (c5_164 P) (l1 (c0_23 P)) .nil) (nd (c7_228 P) (l1 (c9_356 P)) .nil))) (nd (c1_52 P) (nd (c0_23 P) (nd (c4_148 P) (l1 (c7_276 P)) .nil) (nd (c7_212 P) (l1 (c9_340 P)) .nil)) (nd (c3_116 P) (nd (c5_180 P) (l1 (a11 P)) .nil) (nd (c7_244 P) (l1 (c9_372 P)) .nil)))) (nd (c0_28 P) (nd (c0_44 P) (nd (c2_76 P) (nd (c4_140 P) (l1 (a12 P)) .nil) (nd (c6_204 P) (l1 (c8_332 P)) .nil)) (nd (c0_23 P) (nd (a11 P) (l1 (c8_300 P)) .nil) (nd (c7_236 P) (l1 (c9_364 P)) .nil))) (nd (c0_23 P) (nd (c2_92 P) (nd (c5_156 P) (l1 (c7_284 P)) .nil) (nd (c7_220 P) (l1 (a12 P)) .nil)) (nd (c4_124 P) (nd (c0_35 P) (l1 (c8_316 P)) .nil) (l1 (c7_252 P))))))) (nd (boot_o_6 P) (nd (boot_o_10 P) (nd (a11 P) (nd (c0_34 P) (nd (a11 P) (nd (c4_130 P) (l1 (a11 P)) .nil) (nd (c6_194 P) (l1 (a11 P)) .nil)) (nd (a11 P) (nd (c5_162 P) (l1 (c8_290 P)) .nil) (nd (a11 P) (l1 (a11 P)) .nil))) (nd (a11 P) (nd (c2_82 P) (nd (c4_146 P) (l1 (c7_274 P)) .nil) (nd (a11 P) (l1 (c8_338 P)) .nil)) (nd (a11 P) (nd (c5_178 P) (l1 (a12 P)) .nil) (nd (c7_242 P) (l1 (c9_370 P)) .nil)))) (nd (a12 P) (nd (a11 P) (nd (a11 P) (nd (a11 P) (l1 (c7_266 P)) .nil) (nd (c6_202 P) (l1 (c8_330 P)) .nil)) (nd (c3_106 P) (nd (c0_23 P) (l1 (a11 P)) .nil) (nd (a11 P) (l1 (a11 P)) .nil))) (nd (c1_58 P) (nd (a11 P) (nd (c5_154 P) (l1 (c7_282 P)) .nil) (nd (c7_218 P) (l1 (c9_346 P)) .nil)) (nd (a11 P) (nd (c5_186 P) (l1 (c8_314 P)) .nil) (l1 (a11 P)))))) (nd (a14 P) (nd (c0_22 P) (nd (a11 P) (nd (c1_70 P) (nd (a11 P) (l1 (a11 P)) .nil) (nd (a11 P) (l1 (a11 P)) .nil)) (nd (a11 P) (nd (c5_166 P) (l1 (a11 P)) .nil) (nd (c7_230 P) (l1 (c9_358 P)) .nil))) (nd (a11 P) (nd (a11 P) (nd (c0_35 P) (l1 (c7_278 P)) .nil) (nd (a11 P) (l1 (c9_342 P)) .nil)) (nd (c3_118 P) (nd (c5_182 P) (l1 (c8_310 P)) .nil) (nd (a12 P) (l1 (c9_374 P)) .nil)))) (nd (c0_30 P) (nd (c0_46 P) (nd (a11 P) (nd (c4_142 P) (l1 (c7_270 P)) .nil) (nd (c6_206 P) (l1 (c8_334 P)) .nil)) (nd (a11 P) (nd (c5_174 P) (l1 (c8_302 P)) .nil) (nd (a11 P) (l1 (a11 P)) .nil))) (nd (a11 P) (nd (c2_94 P) (nd (a12 P) (l1 (c8_286 P)) .nil) (nd (a12 P) (l1 (a11 P)) .nil)) (nd (a11 P) (nd (c6_190 P) (l1 (c8_318 P)) .nil) (l1 (c7_254 P)))))))))
noncomputable def sc9_ (w : World) (os : OsState) : SharedT := SharedT.mk (tc9_ w.params) 378 (@Life.mk [] [] [] 0 [] [] Bool.false E [] 0 Bool.false Bool.false Bool.false 0 [2000, 10, 10] Bool.false 0 Bool.true [] [] 0 Bool.false) E (@Drawn.mk 0 0 0 0) 673 os
noncomputable def c10_3 (P : Params) : Obj := (Obj.mk y3 none (Data.dict (A [(de P q3 165 (vs q95 703)), (de P q5 166 vn), (de P q6 167 vn), (de P q7 168 y4), (de P q8 169 vn), (de P q9 170 (vr 6)), (de P q10 171 (vr 4)), (de P q11 173 (vs q1 172)), (de P q12 174 vn), (de P q13 193 (vr 21)), (de P q14 213 (vr 31)), (de P q15 229 (vr 44)), (de P q22 245 (vr 56)), (de P q23 261 (vr 68)), (de P q24 277 (vr 80)), (de P q25 293 (vr 92)), (de P q26 309 (vr 104)), (de P q27 325 (vr 116)), (de P q28 341 (vr 128)), (de P q29 366 (vr 147)), (de P q34 391 (vr 166)), (de P q35 416 (vr 185)), (de P q39 441 (vr 204)), (de P q42 544 (vr 281)), (de P q71 556 (vr 286)), (de P q72 563 (vr 290)), (de P q73 626 (vr 335)), (de P q91 649 (vr 356)), (de P q92 672 (vr 375)), (de P q96 695 (vr 394)), (de P q97 702 (vr 403)), (de P q98 712 (vr 410)), (de P q99 721 (vr 417)), (de P q100 730 (vr 424)), (de P q101 739 (vr 431)), (de P q102 745 (vr 436)), (de P q103 758 (vr 443)), (de P q104 764 (vr 448)), (de P q105 770 (vr 453))]) 39) E)
noncomputable def c10_12 (P : Params) : Obj := (Obj.mk vn none (Data.fields (A [(vi 1 0), (vi 0 0), (vr 20), (vi 5 0), (vi 0 0), (vr 27), (vi 7 0), (vi 0 0), (vr 40), (vi 9 0), (vi 0 0), (vr 52), (vi 11 0), (vi 0 0), (vr 64), (vi 13 0), (vi 0 0), (vr 76), (vi 15 0), (vi 0 0), (vr 88), (vi 17 0), (vi 0 0), (vr 100), (vi 19 0), (vi 0 0), (vr 112), (vi 21 0), (vi 0 0), (vr 124), (vi 23 0), (vi 0 0), (vr 136), (vi 27 0), (vi 0 0), (vr 155), (vi 31 0), (vi 0 0), (vr 174), (vi 35 0), (vi 0 0), (vr 193), (vi 40 0), (vi 0 0), (vr 212), (vi 93 0), (vi 0 0), (vr 296), (vi 112 0), (vi 0 0), (vr 345), (vi 116 0), (vi 0 0), (vr 364), (vi 120 0), (vi 0 0), (vr 383), (vi 124 0), (vi 0 0), (vr 402), (vi 131 0), (vi 0 0), (vr 409), (vi 135 0), (vi 0 0), (vr 416), (vi 139 0), (vi 0 0), (vr 423), (vi 142 0), (vi 0 0), (vr 430), (vi 147 0), (vi 0 0), (vr 435), (vi 156 0), (vi 0 0), (vr 442), (vi 168 0), (vi 0 0), (vr 447), (vi 176 0), (vi 0 0), (vr 452)])) E)
noncomputable def c10_335 (P : Params) : Obj := (Obj.mk y9 none (Data.cls (ClassData.mk q73 [y12] [(vr 335), y12] 334 q73 Bool.true [] [(vr 356), (vr 375), (vr 394)] Bool.false none Bool.false)) (A [none, none, (some (vs q73 564)), (some (vs q73 572)), (some y18), (some vT)]))
noncomputable def c10_380 (P : Params) : Obj := (Obj.mk y3 none (Data.dict (A [(de P q17 680 (vs q41 545)), (de P q18 682 (vs q96 681)), (de P q19 684 (vi 120 683)), (de P q77 691 (vr 391)), (de P q20 692 (vr 392))]) 5) E)
noncomputable def c10_382 (P : Params) : Obj := (Obj.mk vn none (Data.fields (A [(vi 122 0), (vi 4 0), (vr 390)])) E)
noncomputable def c10_383 (P : Params) : Obj := (Obj.mk y1 none (Data.fields (A [(vs q96 675), (vs q96 676), (vs q1 677), (vi 120 0), (vi 0 0), (vi 0 0), (vi 0 0), (vi 0 0), (vr 381), vF, (vi 181 0), (vr 382), vn, vn, vn, vn, (vi 678 0), (vi 120 0), (vs q1 679)])) E)
noncomputable def c10_384 (P : Params) : Obj := (Obj.mk y2 none Data.plain (A [(sr 383), (sr 3), (sr 380), none, (some (vs q41 545)), none, (sr 0)]))
noncomputable def c10_387 (P : Params) : Obj := (Obj.mk y0 none (Data.seq (A [(vs q31 688)]) 0) E)
noncomputable def c10_389 (P : Params) : Obj := (Obj.mk vn none (Data.func (FuncData.mk q77 q106 fa_Change_kind fb_Change_kind fs_Change_kind 0 [] vn vn vn vn none vn vn 0)) E)
noncomputable def c10_390 (P : Params) : Obj := (Obj.mk y1 none (Data.fields (A [(vs q77 685), (vs q106 686), (vs q1 687), (vi 122 0), (vi 1 0), (vi 0 0), (vi 0 0), (vi 3 0), (vr 385), vT, (vi 181 0), (vr 386), vn, (vr 387), (vr 388), (vr 389), (vi 689 0), (vi 122 0), (vs q1 690)])) E)
noncomputable def c10_391 (P : Params) : Obj := (Obj.mk y5 none (Data.func (FuncData.mk q77 q106 fa_Change_kind fb_Change_kind fs_Change_kind 3 [] vn vn vn (vs q41 545) none (vr 390) vn 0)) E)
noncomputable def c10_393 (P : Params) : Obj := (Obj.mk y3 none (Data.dict (A [(de P q17 680 (vs q41 545)), (de P q19 684 (vi 120 683)), (de P q77 691 (vr 391)), (de P q20 692 (vr 392)), (de P q5 693 vn)]) 2) E)
noncomputable def c10_394 (P : Params) : Obj := (Obj.mk y9 none (Data.cls (ClassData.mk q96 [(vr 335)] [(vr 394), (vr 335), y12] 393 q96 Bool.true [] [] Bool.false none Bool.false)) (A [(sr 378), none, (some (vs q96 673)), (some (vs q96 681)), (some y18), (some vT)]))
noncomputable def c10_395 (P : Params) : Obj := (Obj.mk y16 none (Data.fields (A [(vr 394), (vr 394), (vr 394)])) E)
noncomputable def c10_396 (P : Params) : Obj := (Obj.mk y7 none (Data.fields (A [y17, (vr 394)])) E)
noncomputable def c10_399 (P : Params) : Obj := (Obj.mk y0 none (Data.seq (A [(vs q80 699)]) 0) E)
noncomputable def c10_401 (P : Params) : Obj := (Obj.mk vn none (Data.func (FuncData.mk q97 q97 fa_lock_of fb_lock_of fs_lock_of 0 [] vn vn vn vn none vn vn 0)) E)
noncomputable def c10_402 (P : Params) : Obj := (Obj.mk y1 none (Data.fields (A [(vs q97 696), (vs q97 697), (vs q1 698), (vi 124 0), (vi 1 0), (vi 0 0), (vi 0 0), (vi 3 0), (vr 397), vT, (vi 181 0), (vr 398), vn, (vr 399), (vr 400), (vr 401), (vi 700 0), (vi 124 0), (vs q1 701)])) E)
noncomputable def c10_403 (P : Params) : Obj := (Obj.mk y5 none (Data.func (FuncData.mk q97 q97 fa_lock_of fb_lock_of fs_lock_of 3 [] vn vn vn (vs q41 545) none (vr 402) vn 0)) E)
noncomputable def c10_406 (P : Params) : Obj := (Obj.mk y0 none (Data.seq (A [(vs q107 708), (vs q108 709)]) 0) E)
noncomputable def c10_408 (P : Params) : Obj := (Obj.mk vn none (Data.func (FuncData.mk q98 q98 fa__law_cell_at fb__law_cell_at fs__law_cell_at 0 [] vn vn vn vn none vn vn 0)) E)
noncomputable def c10_409 (P : Params) : Obj := (Obj.mk y1 none (Data.fields (A [(vs q98 705), (vs q98 706), (vs q1 707), (vi 131 0), (vi 2 0), (vi 0 0), (vi 0 0), (vi 3 0), (vr 404), vT, (vi 181 0), (vr 405), vn, (vr 406), (vr 407), (vr 408), (vi 710 0), (vi 131 0), (vs q1 711)])) E)
noncomputable def c10_410 (P : Params) : Obj := (Obj.mk y5 none (Data.func (FuncData.mk q98 q98 fa__law_cell_at fb__law_cell_at fs__law_cell_at 3 [] vn vn vn (vs q95 703) none (vr 409) vn 0)) E)
noncomputable def c10_413 (P : Params) : Obj := (Obj.mk y0 none (Data.seq (A [(vs q109 716), (vs q110 717), (vs q108 718)]) 0) E)
noncomputable def c10_415 (P : Params) : Obj := (Obj.mk vn none (Data.func (FuncData.mk q99 q99 fa__law_names fb__law_names fs__law_names 0 [] vn vn vn vn none vn vn 0)) E)
noncomputable def c10_416 (P : Params) : Obj := (Obj.mk y1 none (Data.fields (A [(vs q99 713), (vs q99 714), (vs q1 715), (vi 135 0), (vi 1 0), (vi 0 0), (vi 0 0), (vi 3 0), (vr 411), vT, (vi 181 0), (vr 412), vn, (vr 413), (vr 414), (vr 415), (vi 719 0), (vi 135 0), (vs q1 720)])) E)
noncomputable def c10_417 (P : Params) : Obj := (Obj.mk y5 none (Data.func (FuncData.mk q99 q99 fa__law_names fb__law_names fs__law_names 3 [] vn vn vn (vs q95 703) none (vr 416) vn 0)) E)
noncomputable def c10_420 (P : Params) : Obj := (Obj.mk y0 none (Data.seq (A [(vs q109 725), (vs q111 726), (vs q112 727)]) 0) E)
noncomputable def c10_422 (P : Params) : Obj := (Obj.mk vn none (Data.func (FuncData.mk q100 q100 fa__law_told fb__law_told fs__law_told 0 [] vn vn vn vn none vn vn 0)) E)
noncomputable def c10_423 (P : Params) : Obj := (Obj.mk y1 none (Data.fields (A [(vs q100 722), (vs q100 723), (vs q1 724), (vi 139 0), (vi 2 0), (vi 0 0), (vi 0 0), (vi 3 0), (vr 418), vT, (vi 181 0), (vr 419), vn, (vr 420), (vr 421), (vr 422), (vi 728 0), (vi 139 0), (vs q1 729)])) E)
noncomputable def c10_424 (P : Params) : Obj := (Obj.mk y5 none (Data.func (FuncData.mk q100 q100 fa__law_told fb__law_told fs__law_told 3 [] vn vn vn (vs q95 703) none (vr 423) vn 0)) E)
noncomputable def c10_427 (P : Params) : Obj := (Obj.mk y0 none (Data.seq (A [(vs q113 734), (vs q114 735), (vs q115 736)]) 0) E)
noncomputable def c10_429 (P : Params) : Obj := (Obj.mk vn none (Data.func (FuncData.mk q101 q101 fa__law_beside fb__law_beside fs__law_beside 0 [] vn vn vn vn none vn vn 0)) E)
noncomputable def c10_430 (P : Params) : Obj := (Obj.mk y1 none (Data.fields (A [(vs q101 731), (vs q101 732), (vs q1 733), (vi 142 0), (vi 2 0), (vi 0 0), (vi 0 0), (vi 3 0), (vr 425), vT, (vi 181 0), (vr 426), vn, (vr 427), (vr 428), (vr 429), (vi 737 0), (vi 142 0), (vs q1 738)])) E)
noncomputable def c10_431 (P : Params) : Obj := (Obj.mk y5 none (Data.func (FuncData.mk q101 q101 fa__law_beside fb__law_beside fs__law_beside 3 [] vn vn vn (vs q95 703) none (vr 430) vn 0)) E)
noncomputable def c10_434 (P : Params) : Obj := (Obj.mk vn none (Data.func (FuncData.mk q102 q102 fa__law_hindered fb__law_hindered fs__law_hindered 0 [] vn vn vn vn none vn vn 0)) E)
noncomputable def c10_435 (P : Params) : Obj := (Obj.mk y1 none (Data.fields (A [(vs q102 740), (vs q102 741), (vs q1 742), (vi 147 0), (vi 2 0), (vi 0 0), (vi 0 0), (vi 3 0), (vr 432), vT, (vi 181 0), (vr 433), vn, vn, vn, (vr 434), (vi 743 0), (vi 147 0), (vs q1 744)])) E)
noncomputable def c10_436 (P : Params) : Obj := (Obj.mk y5 none (Data.func (FuncData.mk q102 q102 fa__law_hindered fb__law_hindered fs__law_hindered 3 [] vn vn vn (vs q95 703) none (vr 435) vn 0)) E)
noncomputable def c10_439 (P : Params) : Obj := (Obj.mk y0 none (Data.seq (A [(vs q116 749), (vs q117 750), (vs q118 751), (vs q119 752), (vs q120 753), (vs q121 754), (vs q122 755)]) 0) E)
noncomputable def c10_441 (P : Params) : Obj := (Obj.mk vn none (Data.func (FuncData.mk q103 q103 fa__law_refused fb__law_refused fs__law_refused 0 [] vn vn vn vn none vn vn 0)) E)
noncomputable def c10_442 (P : Params) : Obj := (Obj.mk y1 none (Data.fields (A [(vs q103 746), (vs q103 747), (vs q1 748), (vi 156 0), (vi 3 0), (vi 0 0), (vi 0 0), (vi 3 0), (vr 437), vT, (vi 181 0), (vr 438), vn, (vr 439), (vr 440), (vr 441), (vi 756 0), (vi 156 0), (vs q1 757)])) E)
noncomputable def c10_443 (P : Params) : Obj := (Obj.mk y5 none (Data.func (FuncData.mk q103 q103 fa__law_refused fb__law_refused fs__law_refused 3 [] vn vn vn (vs q95 703) none (vr 442) vn 0)) E)
noncomputable def c10_446 (P : Params) : Obj := (Obj.mk vn none (Data.func (FuncData.mk q104 q104 fa__law_asked fb__law_asked fs__law_asked 0 [] vn vn vn vn none vn vn 0)) E)
noncomputable def c10_447 (P : Params) : Obj := (Obj.mk y1 none (Data.fields (A [(vs q104 759), (vs q104 760), (vs q1 761), (vi 168 0), (vi 3 0), (vi 0 0), (vi 0 0), (vi 3 0), (vr 444), vT, (vi 181 0), (vr 445), vn, vn, vn, (vr 446), (vi 762 0), (vi 168 0), (vs q1 763)])) E)
noncomputable def c10_448 (P : Params) : Obj := (Obj.mk y5 none (Data.func (FuncData.mk q104 q104 fa__law_asked fb__law_asked fs__law_asked 3 [] vn vn vn (vs q95 703) none (vr 447) vn 0)) E)
noncomputable def c10_451 (P : Params) : Obj := (Obj.mk vn none (Data.func (FuncData.mk q105 q105 fa_law fb_law fs_law 0 [] vn vn vn vn none vn vn 0)) E)
noncomputable def c10_452 (P : Params) : Obj := (Obj.mk y1 none (Data.fields (A [(vs q105 765), (vs q105 766), (vs q1 767), (vi 176 0), (vi 1 0), (vi 0 0), (vi 0 0), (vi 3 0), (vr 449), vT, (vi 181 0), (vr 450), vn, vn, vn, (vr 451), (vi 768 0), (vi 176 0), (vs q1 769)])) E)
noncomputable def c10_453 (P : Params) : Obj := (Obj.mk y5 none (Data.func (FuncData.mk q105 q105 fa_law fb_law fs_law 3 [] vn vn vn (vs q95 703) none (vr 452) vn 0)) E)
noncomputable def tc10_ (P : Params) : BT := (nd (boot_o_0 P) (nd (boot_o_1 P) (nd (c10_3 P) (nd (boot_o_7 P) (nd (a11 P) (nd (c6_31 P) (nd (a12 P) (nd (c4_127 P) (l1 (a11 P)) (l1 (c10_383 P))) (nd (a11 P) (l1 (a11 P)) (l1 (c10_447 P)))) (nd (c0_35 P) (nd (c5_159 P) (l1 (c8_287 P)) (l1 (c10_415 P))) (nd (c7_223 P) (l1 (c9_351 P)) .nil))) (nd (c0_35 P) (nd (c2_79 P) (nd (c4_143 P) (l1 (c7_271 P)) (l1 (c10_399 P))) (nd (a11 P) (l1 (c10_335 P)) .nil)) (nd (a12 P) (nd (c5_175 P) (l1 (c8_303 P)) (l1 (c10_431 P))) (nd (a12 P) (l1 (a12 P)) .nil)))) (nd (c0_23 P) (nd (a12 P) (nd (c0_35 P) (nd (c4_135 P) (l1 (a12 P)) (l1 (c10_391 P))) (nd (c6_199 P) (l1 (a12 P)) .nil)) (nd (c3_103 P) (nd (c5_167 P) (l1 (c8_295 P)) (l1 (c10_423 P))) (nd (a11 P) (l1 (c9_340 P)) .nil))) (nd (c1_55 P) (nd (a12 P) (nd (c0_23 P) (l1 (c7_279 P)) (l1 (a11 P))) (nd (a12 P) (l1 (a11 P)) .nil)) (nd (c0_35 P) (nd (c5_183 P) (l1 (c8_311 P)) (l1 (c10_439 P))) (nd (c7_247 P) (l1 (c9_375 P)) .nil))))) (nd (a11 P) (nd (c0_19 P) (nd (c0_35 P) (nd (c1_67 P) (nd (c0_35 P) (l1 (c7_259 P)) (l1 (c10_387 P))) (nd (a11 P) (l1 (c8_323 P)) (l1 (c10_451 P)))) (nd (a12 P) (nd (c5_163 P) (l1 (a11 P)) (l1 (a12 P))) (nd (a12 P) (l1 (c9_355 P)) .nil))) (nd (a12 P) (nd (c0_35 P) (nd (c4_147 P) (l1 (a11 P)) (l1 (c10_403 P))) (nd (c7_211 P) (l1 (c8_339 P)) .nil)) (nd (c3_115 P) (nd (a11 P) (l1 (c8_307 P)) (l1 (c10_435 P))) (nd (c7_243 P) (l1 (c9_371 P)) .nil)))) (nd (c0_27 P) (nd (c0_43 P) (nd (a12 P) (nd (a12 P) (l1 (a11 P)) (l1 (c10_395 P))) (nd (c6_203 P) (l1 (c8_331 P)) .nil)) (nd (c0_35 P) (nd (c5_171 P) (l1 (a12 P)) (l1 (c10_427 P))) (nd (c7_235 P) (l1 (c9_363 P)) .nil))) (nd (c0_35 P) (nd (c2_91 P) (nd (c5_155 P) (l1 (c7_283 P)) (l1 (a11 P))) (nd (c7_219 P) (l1 (a11 P)) .nil)) (nd (a12 P) (nd (c5_187 P) (l1 (a11 P)) (l1 (c10_443 P))) (nd (a12 P) (l1 (c0_23 P)) .nil)))))) (nd (boot_o_5 P) (nd (boot_o_9 P) (nd (c0_17 P) (nd (c0_33 P) (nd (c1_65 P) (nd (c4_129 P) (l1 (c7_257 P)) (l1 (a11 P))) (nd (c6_193 P) (l1 (c8_321 P)) (l1 (a11 P)))) (nd (c3_97 P) (nd (c5_161 P) (l1 (c8_289 P)) (l1 (c10_417 P))) (nd (c7_225 P) (l1 (c9_353 P)) .nil))) (nd (c1_49 P) (nd (c2_81 P) (nd (c4_145 P) (l1 (a12 P)) (l1 (c10_401 P))) (nd (c7_209 P) (l1 (c8_337 P)) .nil)) (nd (c3_113 P) (nd (a12 P) (l1 (a11 P)) (l1 (a12 P))) (nd (a11 P) (l1 (a11 P)) .nil)))) (nd (a11 P) (nd (c0_41 P) (nd (c2_73 P) (nd (c4_137 P) (l1 (c7_265 P)) (l1 (c10_393 P))) (nd (c6_201 P) (l1 (a11 P)) .nil)) (nd (c3_105 P) (nd (c0_35 P) (l1 (c8_297 P)) (l1 (a11 P))) (nd (c7_233 P) (l1 (c9_361 P)) .nil))) (nd (c1_57 P) (nd (c2_89 P) (nd (a11 P) (l1 (c7_281 P)) (l1 (c10_409 P))) (nd (a11 P) (l1 (c9_345 P)) .nil)) (nd (c4_121 P) (nd (c5_185 P) (l1 (a12 P)) (l1 (c10_441 P))) (nd (c7_249 P) (l1 (c9_377 P)) .nil))))) (nd (a13 P) (nd (c0_21 P) (nd (c0_37 P) (nd (c1_69 P) (nd (c4_133 P) (l1 (c7_261 P)) (l1 (c10_389 P))) (nd (c6_197 P) (l1 (c8_325 P)) (l1 (c10_453 P)))) (nd (c3_101 P) (nd (c5_165 P) (l1 (c8_293 P)) (l1 (a11 P))) (nd (c7_229 P) (l1 (c9_357 P)) .nil))) (nd (c1_53 P) (nd (c2_85 P) (nd (c4_149 P) (l1 (c7_277 P)) (l1 (a12 P))) (nd (c7_213 P) (l1 (c0_23 P)) .nil)) (nd (c3_117 P) (nd (c5_181 P) (l1 (c8_309 P)) (l1 (a11 P))) (nd (a11 P) (l1 (a11 P)) .nil)))) (nd (a11 P) (nd (c0_45 P) (nd (c2_77 P) (nd (a11 P) (l1 (c7_269 P)) (l1 (a11 P))) (nd (c6_205 P) (l1 (c8_333 P)) .nil)) (nd (c3_109 P) (nd (c5_173 P) (l1 (a11 P)) (l1 (c10_429 P))) (nd (c7_237 P) (l1 (c9_365 P)) .nil))) (nd (c1_61 P) (nd (c2_93 P) (nd (a11 P) (l1 (c7_285 P)) (l1 (c10_413 P))) (nd (a11 P) (l1 (c9_349 P)) .nil)) (nd (c4_125 P) (nd (c0_23 P) (l1 (c8_317 P)) (l1 (a12 P))) (nd (c7_253 P) (l1 (a11 P)) .nil))))))) (nd (boot_o_2 P) (nd (boot_o_4 P) (nd (boot_o_8 P) (nd (a12 P) (nd (c0_32 P) (nd (c1_64 P) (nd (c4_128 P) (l1 (a12 P)) (l1 (c10_384 P))) (nd (c6_192 P) (l1 (a12 P)) (l1 (c10_448 P)))) (nd (c0_23 P) (nd (a11 P) (l1 (c8_288 P)) (l1 (c10_416 P))) (nd (c7_224 P) (l1 (c9_352 P)) .nil))) (nd (c0_23 P) (nd (c2_80 P) (nd (c4_144 P) (l1 (a11 P)) (l1 (a11 P))) (nd (c0_23 P) (l1 (c8_336 P)) .nil)) (nd (c3_112 P) (nd (a11 P) (l1 (c8_304 P)) (l1 (a11 P))) (nd (c7_240 P) (l1 (c9_368 P)) .nil)))) (nd (c0_24 P) (nd (c0_40 P) (nd (c0_23 P) (nd (c4_136 P) (l1 (c7_264 P)) (l1 (a11 P))) (nd (c6_200 P) (l1 (c8_328 P)) .nil)) (nd (c3_104 P) (nd (c5_168 P) (l1 (c8_296 P)) (l1 (c10_424 P))) (nd (a12 P) (l1 (c0_23 P)) .nil))) (nd (c1_56 P) (nd (c2_88 P) (nd (c5_152 P) (l1 (c7_280 P)) (l1 (c10_408 P))) (nd (c7_216 P) (l1 (c9_344 P)) .nil)) (nd (c0_23 P) (nd (c5_184 P) (l1 (a11 P)) (l1 (a11 P))) (nd (c7_248 P) (l1 (c9_376 P)) .nil))))) (nd (c10_12 P) (nd (c0_20 P) (nd (c0_23 P) (nd (c1_68 P) (nd (c0_23 P) (l1 (c7_260 P)) (l1 (a11 P))) (nd (a12 P) (l1 (c8_324 P)) (l1 (c10_452 P)))) (nd (c3_100 P) (nd (c5_164 P) (l1 (c0_23 P)) (l1 (c10_420 P))) (nd (c7_228 P) (l1 (c9_356 P)) .nil))) (nd (c1_52 P) (nd (c0_23 P) (nd (c4_148 P) (l1 (c7_276 P)) (l1 (a11 P))) (nd (c7_212 P) (l1 (c9_340 P)) .nil)) (nd (c3_116 P) (nd (c5_180 P) (l1 (a11 P)) (l1 (c10_436 P))) (nd (c7_244 P) (l1 (c9_372 P)) .nil)))) (nd (c0_28 P) (nd (c0_44 P) (nd (c2_76 P) (nd (c4_140 P) (l1 (a12 P)) (l1 (c10_396 P))) (nd (c6_204 P) (l1 (c8_332 P)) .nil)) (nd (c0_23 P) (nd (a11 P) (l1 (c8_300 P)) (l1 (a11 P))) (nd (c7_236 P) (l1 (c9_364 P)) .nil))) (nd (c0_23 P) (nd (c2_92 P) (nd (c5_156 P) (l1 (c7_284 P)) (l1 (a12 P))) (nd (c7_220 P) (l1 (a12 P)) .nil)) (nd (c4_124 P) (nd (c0_35 P) (l1 (c8_316 P)) (l1 (a11 P))) (nd (c7_252 P) (l1 (c10_380 P)) .nil)))))) (nd (boot_o_6 P) (nd (boot_o_10 P) (nd (a11 P) (nd (c0_34 P) (nd (a11 P) (nd (c4_130 P) (l1 (a11 P)) (l1 (a12 P))) (nd (c6_194 P) (l1 (a11 P)) (l1 (a12 P)))) (nd (a11 P) (nd (c5_162 P) (l1 (c8_290 P)) (l1 (a11 P))) (nd (a11 P) (l1 (a11 P)) .nil))) (nd (a11 P) (nd (c2_82 P) (nd (c4_146 P) (l1 (c7_274 P)) (l1 (c10_402 P))) (nd (a11 P) (l1 (c8_338 P)) .nil)) (nd (a11 P) (nd (c5_178 P) (l1 (a12 P)) (l1 (c10_434 P))) (nd (c7_242 P) (l1 (c9_370 P)) .nil)))) (nd (a12 P) (nd (a11 P) (nd (a11 P) (nd (a11 P) (l1 (c7_266 P)) (l1 (c10_394 P))) (nd (c6_202 P) (l1 (c8_330 P)) .nil)) (nd (c3_106 P) (nd (c0_23 P) (l1 (a11 P)) (l1 (a12 P))) (nd (a11 P) (l1 (a11 P)) .nil))) (nd (c1_58 P) (nd (a11 P) (nd (c5_154 P) (l1 (c7_282 P)) (l1 (c10_410 P))) (nd (c7_218 P) (l1 (c9_346 P)) .nil)) (nd (a11 P) (nd (c5_186 P) (l1 (c8_314 P)) (l1 (c10_442 P))) (nd (a11 P) (l1 (c9_340 P)) .nil))))) (nd (a14 P) (nd (c0_22 P) (nd (a11 P) (nd (c1_70 P) (nd (a11 P) (l1 (a11 P)) (l1 (c10_390 P))) (nd (a11 P) (l1 (a11 P)) .nil)) (nd (a11 P) (nd (c5_166 P) (l1 (a11 P)) (l1 (c10_422 P))) (nd (c7_230 P) (l1 (c9_358 P)) .nil))) (nd (a11 P) (nd (a11 P) (nd (c0_35 P) (l1 (c7_278 P)) (l1 (c10_406 P))) (nd (a11 P) (l1 (c9_342 P)) .nil)) (nd (c3_118 P) (nd (c5_182 P) (l1 (c8_310 P)) (l1 (a12 P))) (nd (a12 P) (l1 (c9_374 P)) .nil)))) (nd (c0_30 P) (nd (c0_46 P) (nd (a11 P) (nd (c4_142 P) (l1 (c7_270 P)) (l1 (a12 P))) (nd (c6_206 P) (l1 (c8_334 P)) .nil)) (nd (a11 P) (nd (c5_174 P) (l1 (c8_302 P)) (l1 (c10_430 P))) (nd (a11 P) (l1 (a11 P)) .nil))) (nd (a11 P) (nd (c2_94 P) (nd (a12 P) (l1 (c8_286 P)) (l1 (a11 P))) (nd (a12 P) (l1 (a11 P)) .nil)) (nd (a11 P) (nd (c6_190 P) (l1 (c8_318 P)) (l1 (c10_446 P))) (nd (c7_254 P) (l1 (c10_382 P)) .nil))))))))
noncomputable def sc10_ (w : World) (os : OsState) : SharedT := SharedT.mk (tc10_ w.params) 454 (@Life.mk [] [] [] 0 [] [] Bool.false E [] 0 Bool.false Bool.false Bool.false 0 [2000, 10, 10] Bool.false 0 Bool.true [] [] 0 Bool.false) E (@Drawn.mk 0 0 0 0) 771 os
noncomputable def tz (P : Params) : BT := (nd (boot_o_0 P) (nd (boot_o_1 P) (nd (c10_3 P) (nd (boot_o_7 P) (nd (a11 P) (nd (c6_31 P) (nd (a12 P) (nd (c4_127 P) (l1 (a11 P)) (l1 (c10_383 P))) (nd (a11 P) (l1 (a11 P)) (l1 (c10_447 P)))) (nd (c0_35 P) (nd (c5_159 P) (l1 (c8_287 P)) (l1 (c10_415 P))) (nd (c7_223 P) (l1 (c9_351 P)) .nil))) (nd (c0_35 P) (nd (c2_79 P) (nd (c4_143 P) (l1 (c7_271 P)) (l1 (c10_399 P))) (nd (a11 P) (l1 (c10_335 P)) .nil)) (nd (a12 P) (nd (c5_175 P) (l1 (c8_303 P)) (l1 (c10_431 P))) (nd (a12 P) (l1 (a12 P)) .nil)))) (nd (c0_23 P) (nd (a12 P) (nd (c0_35 P) (nd (c4_135 P) (l1 (a12 P)) (l1 (c10_391 P))) (nd (c6_199 P) (l1 (a12 P)) .nil)) (nd (c3_103 P) (nd (c5_167 P) (l1 (c8_295 P)) (l1 (c10_423 P))) (nd (a11 P) (l1 (c9_340 P)) .nil))) (nd (c1_55 P) (nd (a12 P) (nd (c0_23 P) (l1 (c7_279 P)) (l1 (a11 P))) (nd (a12 P) (l1 (a11 P)) .nil)) (nd (c0_35 P) (nd (c5_183 P) (l1 (c8_311 P)) (l1 (c10_439 P))) (nd (c7_247 P) (l1 (c9_375 P)) .nil))))) (nd (a11 P) (nd (c0_19 P) (nd (c0_35 P) (nd (c1_67 P) (nd (c0_35 P) (l1 (c7_259 P)) (l1 (c10_387 P))) (nd (a11 P) (l1 (c8_323 P)) (l1 (c10_451 P)))) (nd (a12 P) (nd (c5_163 P) (l1 (a11 P)) (l1 (a12 P))) (nd (a12 P) (l1 (c9_355 P)) .nil))) (nd (a12 P) (nd (c0_35 P) (nd (c4_147 P) (l1 (a11 P)) (l1 (c10_403 P))) (nd (c7_211 P) (l1 (c8_339 P)) .nil)) (nd (c3_115 P) (nd (a11 P) (l1 (c8_307 P)) (l1 (c10_435 P))) (nd (c7_243 P) (l1 (c9_371 P)) .nil)))) (nd (c0_27 P) (nd (c0_43 P) (nd (a12 P) (nd (a12 P) (l1 (a11 P)) (l1 (c10_395 P))) (nd (c6_203 P) (l1 (c8_331 P)) .nil)) (nd (c0_35 P) (nd (c5_171 P) (l1 (a12 P)) (l1 (c10_427 P))) (nd (c7_235 P) (l1 (c9_363 P)) .nil))) (nd (c0_35 P) (nd (c2_91 P) (nd (c5_155 P) (l1 (c7_283 P)) (l1 (a11 P))) (nd (c7_219 P) (l1 (a11 P)) .nil)) (nd (a12 P) (nd (c5_187 P) (l1 (a11 P)) (l1 (c10_443 P))) (nd (a12 P) (l1 (c0_23 P)) .nil)))))) (nd (boot_o_5 P) (nd (boot_o_9 P) (nd (c0_17 P) (nd (c0_33 P) (nd (c1_65 P) (nd (c4_129 P) (l1 (c7_257 P)) (l1 (a11 P))) (nd (c6_193 P) (l1 (c8_321 P)) (l1 (a11 P)))) (nd (c3_97 P) (nd (c5_161 P) (l1 (c8_289 P)) (l1 (c10_417 P))) (nd (c7_225 P) (l1 (c9_353 P)) .nil))) (nd (c1_49 P) (nd (c2_81 P) (nd (c4_145 P) (l1 (a12 P)) (l1 (c10_401 P))) (nd (c7_209 P) (l1 (c8_337 P)) .nil)) (nd (c3_113 P) (nd (a12 P) (l1 (a11 P)) (l1 (a12 P))) (nd (a11 P) (l1 (a11 P)) .nil)))) (nd (a11 P) (nd (c0_41 P) (nd (c2_73 P) (nd (c4_137 P) (l1 (c7_265 P)) (l1 (c10_393 P))) (nd (c6_201 P) (l1 (a11 P)) .nil)) (nd (c3_105 P) (nd (c0_35 P) (l1 (c8_297 P)) (l1 (a11 P))) (nd (c7_233 P) (l1 (c9_361 P)) .nil))) (nd (c1_57 P) (nd (c2_89 P) (nd (a11 P) (l1 (c7_281 P)) (l1 (c10_409 P))) (nd (a11 P) (l1 (c9_345 P)) .nil)) (nd (c4_121 P) (nd (c5_185 P) (l1 (a12 P)) (l1 (c10_441 P))) (nd (c7_249 P) (l1 (c9_377 P)) .nil))))) (nd (a13 P) (nd (c0_21 P) (nd (c0_37 P) (nd (c1_69 P) (nd (c4_133 P) (l1 (c7_261 P)) (l1 (c10_389 P))) (nd (c6_197 P) (l1 (c8_325 P)) (l1 (c10_453 P)))) (nd (c3_101 P) (nd (c5_165 P) (l1 (c8_293 P)) (l1 (a11 P))) (nd (c7_229 P) (l1 (c9_357 P)) .nil))) (nd (c1_53 P) (nd (c2_85 P) (nd (c4_149 P) (l1 (c7_277 P)) (l1 (a12 P))) (nd (c7_213 P) (l1 (c0_23 P)) .nil)) (nd (c3_117 P) (nd (c5_181 P) (l1 (c8_309 P)) (l1 (a11 P))) (nd (a11 P) (l1 (a11 P)) .nil)))) (nd (a11 P) (nd (c0_45 P) (nd (c2_77 P) (nd (a11 P) (l1 (c7_269 P)) (l1 (a11 P))) (nd (c6_205 P) (l1 (c8_333 P)) .nil)) (nd (c3_109 P) (nd (c5_173 P) (l1 (a11 P)) (l1 (c10_429 P))) (nd (c7_237 P) (l1 (c9_365 P)) .nil))) (nd (c1_61 P) (nd (c2_93 P) (nd (a11 P) (l1 (c7_285 P)) (l1 (c10_413 P))) (nd (a11 P) (l1 (c9_349 P)) .nil)) (nd (c4_125 P) (nd (c0_23 P) (l1 (c8_317 P)) (l1 (a12 P))) (nd (c7_253 P) (l1 (a11 P)) .nil))))))) (nd (boot_o_2 P) (nd (boot_o_4 P) (nd (boot_o_8 P) (nd (a12 P) (nd (c0_32 P) (nd (c1_64 P) (nd (c4_128 P) (l1 (a12 P)) (l1 (c10_384 P))) (nd (c6_192 P) (l1 (a12 P)) (l1 (c10_448 P)))) (nd (c0_23 P) (nd (a11 P) (l1 (c8_288 P)) (l1 (c10_416 P))) (nd (c7_224 P) (l1 (c9_352 P)) .nil))) (nd (c0_23 P) (nd (c2_80 P) (nd (c4_144 P) (l1 (a11 P)) (l1 (a11 P))) (nd (c0_23 P) (l1 (c8_336 P)) .nil)) (nd (c3_112 P) (nd (a11 P) (l1 (c8_304 P)) (l1 (a11 P))) (nd (c7_240 P) (l1 (c9_368 P)) .nil)))) (nd (c0_24 P) (nd (c0_40 P) (nd (c0_23 P) (nd (c4_136 P) (l1 (c7_264 P)) (l1 (a11 P))) (nd (c6_200 P) (l1 (c8_328 P)) .nil)) (nd (c3_104 P) (nd (c5_168 P) (l1 (c8_296 P)) (l1 (c10_424 P))) (nd (a12 P) (l1 (c0_23 P)) .nil))) (nd (c1_56 P) (nd (c2_88 P) (nd (c5_152 P) (l1 (c7_280 P)) (l1 (c10_408 P))) (nd (c7_216 P) (l1 (c9_344 P)) .nil)) (nd (c0_23 P) (nd (c5_184 P) (l1 (a11 P)) (l1 (a11 P))) (nd (c7_248 P) (l1 (c9_376 P)) .nil))))) (nd (c10_12 P) (nd (c0_20 P) (nd (c0_23 P) (nd (c1_68 P) (nd (c0_23 P) (l1 (c7_260 P)) (l1 (a11 P))) (nd (a12 P) (l1 (c8_324 P)) (l1 (c10_452 P)))) (nd (c3_100 P) (nd (c5_164 P) (l1 (c0_23 P)) (l1 (c10_420 P))) (nd (c7_228 P) (l1 (c9_356 P)) .nil))) (nd (c1_52 P) (nd (c0_23 P) (nd (c4_148 P) (l1 (c7_276 P)) (l1 (a11 P))) (nd (c7_212 P) (l1 (c9_340 P)) .nil)) (nd (c3_116 P) (nd (c5_180 P) (l1 (a11 P)) (l1 (c10_436 P))) (nd (c7_244 P) (l1 (c9_372 P)) .nil)))) (nd (c0_28 P) (nd (c0_44 P) (nd (c2_76 P) (nd (c4_140 P) (l1 (a12 P)) (l1 (c10_396 P))) (nd (c6_204 P) (l1 (c8_332 P)) .nil)) (nd (c0_23 P) (nd (a11 P) (l1 (c8_300 P)) (l1 (a11 P))) (nd (c7_236 P) (l1 (c9_364 P)) .nil))) (nd (c0_23 P) (nd (c2_92 P) (nd (c5_156 P) (l1 (c7_284 P)) (l1 (a12 P))) (nd (c7_220 P) (l1 (a12 P)) .nil)) (nd (c4_124 P) (nd (c0_35 P) (l1 (c8_316 P)) (l1 (a11 P))) (nd (c7_252 P) (l1 (c10_380 P)) .nil)))))) (nd (boot_o_6 P) (nd (boot_o_10 P) (nd (a11 P) (nd (c0_34 P) (nd (a11 P) (nd (c4_130 P) (l1 (a11 P)) (l1 (a12 P))) (nd (c6_194 P) (l1 (a11 P)) (l1 (a12 P)))) (nd (a11 P) (nd (c5_162 P) (l1 (c8_290 P)) (l1 (a11 P))) (nd (a11 P) (l1 (a11 P)) .nil))) (nd (a11 P) (nd (c2_82 P) (nd (c4_146 P) (l1 (c7_274 P)) (l1 (c10_402 P))) (nd (a11 P) (l1 (c8_338 P)) .nil)) (nd (a11 P) (nd (c5_178 P) (l1 (a12 P)) (l1 (c10_434 P))) (nd (c7_242 P) (l1 (c9_370 P)) .nil)))) (nd (a12 P) (nd (a11 P) (nd (a11 P) (nd (a11 P) (l1 (c7_266 P)) (l1 (c10_394 P))) (nd (c6_202 P) (l1 (c8_330 P)) .nil)) (nd (c3_106 P) (nd (c0_23 P) (l1 (a11 P)) (l1 (a12 P))) (nd (a11 P) (l1 (a11 P)) .nil))) (nd (c1_58 P) (nd (a11 P) (nd (c5_154 P) (l1 (c7_282 P)) (l1 (c10_410 P))) (nd (c7_218 P) (l1 (c9_346 P)) .nil)) (nd (a11 P) (nd (c5_186 P) (l1 (c8_314 P)) (l1 (c10_442 P))) (nd (a11 P) (l1 (c9_340 P)) .nil))))) (nd (a14 P) (nd (c0_22 P) (nd (a11 P) (nd (c1_70 P) (nd (a11 P) (l1 (a11 P)) (l1 (c10_390 P))) (nd (a11 P) (l1 (a11 P)) .nil)) (nd (a11 P) (nd (c5_166 P) (l1 (a11 P)) (l1 (c10_422 P))) (nd (c7_230 P) (l1 (c9_358 P)) .nil))) (nd (a11 P) (nd (a11 P) (nd (c0_35 P) (l1 (c7_278 P)) (l1 (c10_406 P))) (nd (a11 P) (l1 (c9_342 P)) .nil)) (nd (c3_118 P) (nd (c5_182 P) (l1 (c8_310 P)) (l1 (a12 P))) (nd (a12 P) (l1 (c9_374 P)) .nil)))) (nd (c0_30 P) (nd (c0_46 P) (nd (a11 P) (nd (c4_142 P) (l1 (c7_270 P)) (l1 (a12 P))) (nd (c6_206 P) (l1 (c8_334 P)) .nil)) (nd (a11 P) (nd (c5_174 P) (l1 (c8_302 P)) (l1 (c10_430 P))) (nd (a11 P) (l1 (a11 P)) .nil))) (nd (a11 P) (nd (c2_94 P) (nd (a12 P) (l1 (c8_286 P)) (l1 (a11 P))) (nd (a12 P) (l1 (a11 P)) .nil)) (nd (a11 P) (nd (c6_190 P) (l1 (c8_318 P)) (l1 (c10_446 P))) (nd (c7_254 P) (l1 (c10_382 P)) .nil))))))))
noncomputable def sz (w : World) (os : OsState) : SharedT := SharedT.mk (tz w.params) 454 (@Life.mk [] [] [] 0 [] [] Bool.false E [] 0 Bool.false Bool.false Bool.false 0 [2000, 10, 10] Bool.false 0 Bool.true [] [] 0 Bool.false) E (@Drawn.mk 0 0 0 0) 771 os
noncomputable abbrev e0 : Env := { scope := p0.main.scope, locals := mainNs, globals := mainNs, cells := [], code := (vr 13), frame := some 14 }
noncomputable abbrev en : Env := { scope := pq.main.scope, locals := mainNs, globals := mainNs, cells := [], code := (vr 13), frame := some 14 }
theorem bs : behindTheImports p0 = ((p0.main.body.drop 0).take 4 ++ ((p0.main.body.drop 4).take 2 ++ ((p0.main.body.drop 6).take 2 ++ ((p0.main.body.drop 8).take 2 ++ ((p0.main.body.drop 10).take 2 ++ ((p0.main.body.drop 12).take 2 ++ ((p0.main.body.drop 14).take 2 ++ ((p0.main.body.drop 16).take 2 ++ ((p0.main.body.drop 18).take 3 ++ ((p0.main.body.drop 21).take 2 ++ ((p0.main.body.drop 23).take 11 ++ []))))))))))) := by kernel_rfl
theorem pre_l (w : World) (os : OsState) : topGo treeTable p0 w 11 (sr 6) 12 ⟨boot_heap w.params, Array.mk [], boot_drawn, boot_toks, os⟩ (topStub p0) = some ((sa w os).abs, ⟨denote treeTable (Code.body (behindTheImports p0) e0), Code.body (behindTheImports p0) e0, (@Pos.mk 0 0 0 0), [topFrame (@Pos.mk 0 0 0 0)]⟩) := by
  rw [PySem.W.Fast.te15667345088766844465, PySem.W.Fast.te14364793385576792824, PySem.W.Fast.te11892475500146522536, pe]
  kernel_rfl
theorem blk_l (w : World) (os : OsState) : segRun treeTable p0 w 11 (sr 6) 1 1 (sa w os).abs (blockOf (behindTheImports p0) e0 (Code.body (behindTheImports p0) e0) (@Pos.mk 0 0 0 0) [topFrame (@Pos.mk 0 0 0 0)]) = some (Flow.next, (sb w os).abs, Code.body (behindTheImports p0) e0, (@Pos.mk 0 0 0 0)) := by
  refine segRun_of ?_
  rw [PySem.W.Fast.te10110043849684766642, PySem.W.Fast.te14364793385576792824, pe]
  kernel_rfl
theorem g0 (p : Program) (b : List Stmt) : ∀ w : World, (fun os => PySem.W.Fast.tw10110043849684766642 PySem.W.Fast.tw14364793385576792824 p w 11 (sr 6) 1 438 (sb w os) (piecesOf ((pq.main.body.drop 0).take 4) en (Code.body b en) (@Pos.mk 0 0 0 0) [topFrame (@Pos.mk 0 0 0 0)])) = (fun os => some (Flow.next, sc0_ w os, Code.body b en, (@Pos.mk 7 0 8 8))) := fun w => by kernel_rfl
theorem h0 (b : List Stmt) (w : World) (os : OsState) : segRun treeTable p0 w 11 (sr 6) 1 438 (sb w os).abs (piecesOf ((p0.main.body.drop 0).take 4) e0 (Code.body b e0) (@Pos.mk 0 0 0 0) [topFrame (@Pos.mk 0 0 0 0)]) = some (Flow.next, (sc0_ w os).abs, Code.body b e0, (@Pos.mk 7 0 8 8)) := by
  refine segRun_of ?_
  rw [PySem.W.Fast.te10110043849684766642, PySem.W.Fast.te14364793385576792824, pe]
  exact congrFun (g0 pq b w) os
theorem g1 (p : Program) (b : List Stmt) : ∀ w : World, (fun os => PySem.W.Fast.tw10110043849684766642 PySem.W.Fast.tw14364793385576792824 p w 11 (sr 6) 1 427 (sc0_ w os) (piecesOf ((pq.main.body.drop 4).take 2) en (Code.body b en) (@Pos.mk 7 0 8 8) [topFrame (@Pos.mk 0 0 0 0)])) = (fun os => some (Flow.next, sc1_ w os, Code.body b en, (@Pos.mk 11 0 12 8))) := fun w => by kernel_rfl
theorem h1 (b : List Stmt) (w : World) (os : OsState) : segRun treeTable p0 w 11 (sr 6) 1 427 (sc0_ w os).abs (piecesOf ((p0.main.body.drop 4).take 2) e0 (Code.body b e0) (@Pos.mk 7 0 8 8) [topFrame (@Pos.mk 0 0 0 0)]) = some (Flow.next, (sc1_ w os).abs, Code.body b e0, (@Pos.mk 11 0 12 8)) := by
  refine segRun_of ?_
  rw [PySem.W.Fast.te10110043849684766642, PySem.W.Fast.te14364793385576792824, pe]
  exact congrFun (g1 pq b w) os
theorem g2 (p : Program) (b : List Stmt) : ∀ w : World, (fun os => PySem.W.Fast.tw10110043849684766642 PySem.W.Fast.tw14364793385576792824 p w 11 (sr 6) 1 427 (sc1_ w os) (piecesOf ((pq.main.body.drop 6).take 2) en (Code.body b en) (@Pos.mk 11 0 12 8) [topFrame (@Pos.mk 0 0 0 0)])) = (fun os => some (Flow.next, sc2_ w os, Code.body b en, (@Pos.mk 15 0 16 8))) := fun w => by kernel_rfl
theorem h2 (b : List Stmt) (w : World) (os : OsState) : segRun treeTable p0 w 11 (sr 6) 1 427 (sc1_ w os).abs (piecesOf ((p0.main.body.drop 6).take 2) e0 (Code.body b e0) (@Pos.mk 11 0 12 8) [topFrame (@Pos.mk 0 0 0 0)]) = some (Flow.next, (sc2_ w os).abs, Code.body b e0, (@Pos.mk 15 0 16 8)) := by
  refine segRun_of ?_
  rw [PySem.W.Fast.te10110043849684766642, PySem.W.Fast.te14364793385576792824, pe]
  exact congrFun (g2 pq b w) os
theorem g3 (p : Program) (b : List Stmt) : ∀ w : World, (fun os => PySem.W.Fast.tw10110043849684766642 PySem.W.Fast.tw14364793385576792824 p w 11 (sr 6) 1 427 (sc2_ w os) (piecesOf ((pq.main.body.drop 8).take 2) en (Code.body b en) (@Pos.mk 15 0 16 8) [topFrame (@Pos.mk 0 0 0 0)])) = (fun os => some (Flow.next, sc3_ w os, Code.body b en, (@Pos.mk 19 0 20 8))) := fun w => by kernel_rfl
theorem h3 (b : List Stmt) (w : World) (os : OsState) : segRun treeTable p0 w 11 (sr 6) 1 427 (sc2_ w os).abs (piecesOf ((p0.main.body.drop 8).take 2) e0 (Code.body b e0) (@Pos.mk 15 0 16 8) [topFrame (@Pos.mk 0 0 0 0)]) = some (Flow.next, (sc3_ w os).abs, Code.body b e0, (@Pos.mk 19 0 20 8)) := by
  refine segRun_of ?_
  rw [PySem.W.Fast.te10110043849684766642, PySem.W.Fast.te14364793385576792824, pe]
  exact congrFun (g3 pq b w) os
theorem g4 (p : Program) (b : List Stmt) : ∀ w : World, (fun os => PySem.W.Fast.tw10110043849684766642 PySem.W.Fast.tw14364793385576792824 p w 11 (sr 6) 1 459 (sc3_ w os) (piecesOf ((pq.main.body.drop 10).take 2) en (Code.body b en) (@Pos.mk 19 0 20 8) [topFrame (@Pos.mk 0 0 0 0)])) = (fun os => some (Flow.next, sc4_ w os, Code.body b en, (@Pos.mk 23 0 26 20))) := fun w => by kernel_rfl
theorem h4 (b : List Stmt) (w : World) (os : OsState) : segRun treeTable p0 w 11 (sr 6) 1 459 (sc3_ w os).abs (piecesOf ((p0.main.body.drop 10).take 2) e0 (Code.body b e0) (@Pos.mk 19 0 20 8) [topFrame (@Pos.mk 0 0 0 0)]) = some (Flow.next, (sc4_ w os).abs, Code.body b e0, (@Pos.mk 23 0 26 20)) := by
  refine segRun_of ?_
  rw [PySem.W.Fast.te10110043849684766642, PySem.W.Fast.te14364793385576792824, pe]
  exact congrFun (g4 pq b w) os
theorem g5 (p : Program) (b : List Stmt) : ∀ w : World, (fun os => PySem.W.Fast.tw10110043849684766642 PySem.W.Fast.tw14364793385576792824 p w 11 (sr 6) 1 491 (sc4_ w os) (piecesOf ((pq.main.body.drop 12).take 2) en (Code.body b en) (@Pos.mk 23 0 26 20) [topFrame (@Pos.mk 0 0 0 0)])) = (fun os => some (Flow.next, sc5_ w os, Code.body b en, (@Pos.mk 31 0 34 20))) := fun w => by kernel_rfl
theorem h5 (b : List Stmt) (w : World) (os : OsState) : segRun treeTable p0 w 11 (sr 6) 1 491 (sc4_ w os).abs (piecesOf ((p0.main.body.drop 12).take 2) e0 (Code.body b e0) (@Pos.mk 23 0 26 20) [topFrame (@Pos.mk 0 0 0 0)]) = some (Flow.next, (sc5_ w os).abs, Code.body b e0, (@Pos.mk 31 0 34 20)) := by
  refine segRun_of ?_
  rw [PySem.W.Fast.te10110043849684766642, PySem.W.Fast.te14364793385576792824, pe]
  exact congrFun (g5 pq b w) os
theorem g6 (p : Program) (b : List Stmt) : ∀ w : World, (fun os => PySem.W.Fast.tw10110043849684766642 PySem.W.Fast.tw14364793385576792824 p w 11 (sr 6) 1 255 (sc5_ w os) (piecesOf ((pq.main.body.drop 14).take 2) en (Code.body b en) (@Pos.mk 31 0 34 20) [topFrame (@Pos.mk 0 0 0 0)])) = (fun os => some (Flow.next, sc6_ w os, Code.body b en, (@Pos.mk 39 0 39 8))) := fun w => by kernel_rfl
theorem h6 (b : List Stmt) (w : World) (os : OsState) : segRun treeTable p0 w 11 (sr 6) 1 255 (sc5_ w os).abs (piecesOf ((p0.main.body.drop 14).take 2) e0 (Code.body b e0) (@Pos.mk 31 0 34 20) [topFrame (@Pos.mk 0 0 0 0)]) = some (Flow.next, (sc6_ w os).abs, Code.body b e0, (@Pos.mk 39 0 39 8)) := by
  refine segRun_of ?_
  rw [PySem.W.Fast.te10110043849684766642, PySem.W.Fast.te14364793385576792824, pe]
  exact congrFun (g6 pq b w) os
theorem g7 (p : Program) (b : List Stmt) : ∀ w : World, (fun os => PySem.W.Fast.tw10110043849684766642 PySem.W.Fast.tw14364793385576792824 p w 11 (sr 6) 1 532 (sc6_ w os) (piecesOf ((pq.main.body.drop 16).take 2) en (Code.body b en) (@Pos.mk 39 0 39 8) [topFrame (@Pos.mk 0 0 0 0)])) = (fun os => some (Flow.next, sc7_ w os, Code.body b en, (@Pos.mk 90 0 90 8))) := fun w => by kernel_rfl
theorem h7 (b : List Stmt) (w : World) (os : OsState) : segRun treeTable p0 w 11 (sr 6) 1 532 (sc6_ w os).abs (piecesOf ((p0.main.body.drop 16).take 2) e0 (Code.body b e0) (@Pos.mk 39 0 39 8) [topFrame (@Pos.mk 0 0 0 0)]) = some (Flow.next, (sc7_ w os).abs, Code.body b e0, (@Pos.mk 90 0 90 8)) := by
  refine segRun_of ?_
  rw [PySem.W.Fast.te10110043849684766642, PySem.W.Fast.te14364793385576792824, pe]
  exact congrFun (g7 pq b w) os
theorem g8 (p : Program) (b : List Stmt) : ∀ w : World, (fun os => PySem.W.Fast.tw10110043849684766642 PySem.W.Fast.tw14364793385576792824 p w 11 (sr 6) 1 430 (sc7_ w os) (piecesOf ((pq.main.body.drop 18).take 3) en (Code.body b en) (@Pos.mk 90 0 90 8) [topFrame (@Pos.mk 0 0 0 0)])) = (fun os => some (Flow.next, sc8_ w os, Code.body b en, (@Pos.mk 93 0 111 51))) := byRow2 "special-get-raises" (P := fun w => (fun os => PySem.W.Fast.tw10110043849684766642 PySem.W.Fast.tw14364793385576792824 p w 11 (sr 6) 1 430 (sc7_ w os) (piecesOf ((pq.main.body.drop 18).take 3) en (Code.body b en) (@Pos.mk 90 0 90 8) [topFrame (@Pos.mk 0 0 0 0)])) = (fun os => some (Flow.next, sc8_ w os, Code.body b en, (@Pos.mk 93 0 111 51)))) (fun w => by kernel_rfl) (fun w => by kernel_rfl)
theorem h8 (b : List Stmt) (w : World) (os : OsState) : segRun treeTable p0 w 11 (sr 6) 1 430 (sc7_ w os).abs (piecesOf ((p0.main.body.drop 18).take 3) e0 (Code.body b e0) (@Pos.mk 90 0 90 8) [topFrame (@Pos.mk 0 0 0 0)]) = some (Flow.next, (sc8_ w os).abs, Code.body b e0, (@Pos.mk 93 0 111 51)) := by
  refine segRun_of ?_
  rw [PySem.W.Fast.te10110043849684766642, PySem.W.Fast.te14364793385576792824, pe]
  exact congrFun (g8 pq b w) os
theorem g9 (p : Program) (b : List Stmt) : ∀ w : World, (fun os => PySem.W.Fast.tw10110043849684766642 PySem.W.Fast.tw14364793385576792824 p w 11 (sr 6) 1 487 (sc8_ w os) (piecesOf ((pq.main.body.drop 21).take 2) en (Code.body b en) (@Pos.mk 93 0 111 51) [topFrame (@Pos.mk 0 0 0 0)])) = (fun os => some (Flow.next, sc9_ w os, Code.body b en, (@Pos.mk 116 0 119 21))) := fun w => by kernel_rfl
theorem h9 (b : List Stmt) (w : World) (os : OsState) : segRun treeTable p0 w 11 (sr 6) 1 487 (sc8_ w os).abs (piecesOf ((p0.main.body.drop 21).take 2) e0 (Code.body b e0) (@Pos.mk 93 0 111 51) [topFrame (@Pos.mk 0 0 0 0)]) = some (Flow.next, (sc9_ w os).abs, Code.body b e0, (@Pos.mk 116 0 119 21)) := by
  refine segRun_of ?_
  rw [PySem.W.Fast.te10110043849684766642, PySem.W.Fast.te14364793385576792824, pe]
  exact congrFun (g9 pq b w) os
theorem g10 (p : Program) (b : List Stmt) : ∀ w : World, (fun os => PySem.W.Fast.tw10110043849684766642 PySem.W.Fast.tw14364793385576792824 p w 11 (sr 6) 1 518 (sc9_ w os) (piecesOf ((pq.main.body.drop 23).take 11) en (Code.body b en) (@Pos.mk 116 0 119 21) [topFrame (@Pos.mk 0 0 0 0)])) = (fun os => some (Flow.next, sc10_ w os, Code.body b en, (@Pos.mk 176 0 192 15))) := fun w => by kernel_rfl
theorem h10 (b : List Stmt) (w : World) (os : OsState) : segRun treeTable p0 w 11 (sr 6) 1 518 (sc9_ w os).abs (piecesOf ((p0.main.body.drop 23).take 11) e0 (Code.body b e0) (@Pos.mk 116 0 119 21) [topFrame (@Pos.mk 0 0 0 0)]) = some (Flow.next, (sc10_ w os).abs, Code.body b e0, (@Pos.mk 176 0 192 15)) := by
  refine segRun_of ?_
  rw [PySem.W.Fast.te10110043849684766642, PySem.W.Fast.te14364793385576792824, pe]
  exact congrFun (g10 pq b w) os
noncomputable abbrev H1 : Params → Heap := fun P => absHeap (tz P) 454 (@Life.mk [] [] [] 0 [] [] Bool.false E [] 0 Bool.false Bool.false Bool.false 0 [2000, 10, 10] Bool.false 0 Bool.true [] [] 0 Bool.false)
theorem fin_l (b : List Stmt) (w : World) (os : OsState) : topRun treeTable p0 w 11 (sr 6) 2 (sc10_ w os).abs ⟨doneF .next, Code.body b e0, (@Pos.mk 176 0 192 15), [topFrame (@Pos.mk 0 0 0 0)]⟩ = some ⟨H1 w.params, Array.mk [], (@Drawn.mk 0 0 0 0), 771, os⟩ := by
  rw [PySem.W.Fast.te14082659384304107361, PySem.W.Fast.te14364793385576792824, pe]
  kernel_rfl
theorem run_l (w : World) (os : OsState) : topRun treeTable p0 w 11 (sr 6) (12 + (1 + (438 + (427 + (427 + (427 + (459 + (491 + (255 + (532 + (430 + (487 + (518 + 2))))))))))))) ⟨boot_heap w.params, Array.mk [], boot_drawn, boot_toks, os⟩ (topStub p0) = some ⟨H1 w.params, Array.mk [], (@Drawn.mk 0 0 0 0), 771, os⟩ := by
  refine go_top (pre_l w os) (piece_block (blk_l w os) ?k)
  rw [bs]
  exact piece_app (h0 _ w os) (piece_app (h1 _ w os) (piece_app (h2 _ w os) (piece_app (h3 _ w os) (piece_app (h4 _ w os) (piece_app (h5 _ w os) (piece_app (h6 _ w os) (piece_app (h7 _ w os) (piece_app (h8 _ w os) (piece_app (h9 _ w os) (piece_app (h10 _ w os) (piece_nil (fin_l _ w os))))))))))))
noncomputable abbrev k21 : Params → Obj := fun P => (Obj.mk (@Value.type "function") none (Data.func (FuncData.mk (@Str.ofString "_wall") (@Str.ofString "_wall") ga__wall gb__wall gs__wall 3 [] vn vn vn (@Value.str (@Str.ofString "__main__") 164) none (vr 20) vn 0)) E)
noncomputable abbrev k144 : Params → Obj := fun P => (Obj.mk (@Value.type "function") none (Data.func (FuncData.mk (@Str.ofString "__init__") (@Str.ofString "NoText.__init__") ga_NoText___init__ gb_NoText___init__ gs_NoText___init__ 3 [] vn vn vn (@Value.str (@Str.ofString "pactroom.errors") 194) none (vr 143) vn 0)) E)
noncomputable abbrev k163 : Params → Obj := fun P => (Obj.mk (@Value.type "function") none (Data.func (FuncData.mk (@Str.ofString "__init__") (@Str.ofString "NoPlace.__init__") ga_NoPlace___init__ gb_NoPlace___init__ gs_NoPlace___init__ 3 [] vn vn vn (@Value.str (@Str.ofString "pactroom.errors") 194) none (vr 162) vn 0)) E)
noncomputable abbrev k182 : Params → Obj := fun P => (Obj.mk (@Value.type "function") none (Data.func (FuncData.mk (@Str.ofString "__init__") (@Str.ofString "NoWayBack.__init__") ga_NoWayBack___init__ gb_NoWayBack___init__ gs_NoWayBack___init__ 3 [] vn vn vn (@Value.str (@Str.ofString "pactroom.errors") 194) none (vr 181) vn 0)) E)
noncomputable abbrev k201 : Params → Obj := fun P => (Obj.mk (@Value.type "function") none (Data.func (FuncData.mk (@Str.ofString "__init__") (@Str.ofString "NoFit.__init__") ga_NoFit___init__ gb_NoFit___init__ gs_NoFit___init__ 3 [] vn vn vn (@Value.str (@Str.ofString "pactroom.errors") 194) none (vr 200) vn 0)) E)
noncomputable abbrev k220 : Params → Obj := fun P => (Obj.mk (@Value.type "function") none (Data.func (FuncData.mk (@Str.ofString "__init__") (@Str.ofString "Locks.__init__") ga_Locks___init__ gb_Locks___init__ gs_Locks___init__ 3 [] vn vn vn (@Value.str (@Str.ofString "pactroom.locks") 442) none (vr 219) vn 0)) E)
noncomputable abbrev k225 : Params → Obj := fun P => (Obj.mk (@Value.type "function") none (Data.func (FuncData.mk (@Str.ofString "ask") (@Str.ofString "Locks.ask") ga_Locks_ask gb_Locks_ask gs_Locks_ask 3 [] vn vn vn (@Value.str (@Str.ofString "pactroom.locks") 442) none (vr 224) vn 0)) E)
noncomputable abbrev k230 : Params → Obj := fun P => (Obj.mk (@Value.type "function") none (Data.func (FuncData.mk (@Str.ofString "free") (@Str.ofString "Locks.free") ga_Locks_free gb_Locks_free gs_Locks_free 3 [] vn vn vn (@Value.str (@Str.ofString "pactroom.locks") 442) none (vr 229) vn 0)) E)
noncomputable abbrev k237 : Params → Obj := fun P => (Obj.mk (@Value.type "function") none (Data.func (FuncData.mk (@Str.ofString "stands") (@Str.ofString "Locks.stands") ga_Locks_stands gb_Locks_stands gs_Locks_stands 3 [] vn vn vn (@Value.str (@Str.ofString "pactroom.locks") 442) none (vr 236) vn 0)) E)
noncomputable abbrev k244 : Params → Obj := fun P => (Obj.mk (@Value.type "function") none (Data.func (FuncData.mk (@Str.ofString "behind") (@Str.ofString "Locks.behind") ga_Locks_behind gb_Locks_behind gs_Locks_behind 3 [] vn vn vn (@Value.str (@Str.ofString "pactroom.locks") 442) none (vr 243) vn 0)) E)
noncomputable abbrev k249 : Params → Obj := fun P => (Obj.mk (@Value.type "function") none (Data.func (FuncData.mk (@Str.ofString "held") (@Str.ofString "Locks.held") ga_Locks_held gb_Locks_held gs_Locks_held 3 [] vn vn vn (@Value.str (@Str.ofString "pactroom.locks") 442) none (vr 248) vn 0)) E)
noncomputable abbrev k254 : Params → Obj := fun P => (Obj.mk (@Value.type "function") none (Data.func (FuncData.mk (@Str.ofString "waiting") (@Str.ofString "Locks.waiting") ga_Locks_waiting gb_Locks_waiting gs_Locks_waiting 3 [] vn vn vn (@Value.str (@Str.ofString "pactroom.locks") 442) none (vr 253) vn 0)) E)
noncomputable abbrev k261 : Params → Obj := fun P => (Obj.mk (@Value.type "function") none (Data.func (FuncData.mk (@Str.ofString "hinderer") (@Str.ofString "Locks.hinderer") ga_Locks_hinderer gb_Locks_hinderer gs_Locks_hinderer 3 [] vn vn vn (@Value.str (@Str.ofString "pactroom.locks") 442) none (vr 260) vn 0)) E)
noncomputable abbrev k266 : Params → Obj := fun P => (Obj.mk (@Value.type "function") none (Data.func (FuncData.mk (@Str.ofString "held_pairs") (@Str.ofString "Locks.held_pairs") ga_Locks_held_pairs gb_Locks_held_pairs gs_Locks_held_pairs 3 [] vn vn vn (@Value.str (@Str.ofString "pactroom.locks") 442) none (vr 265) vn 0)) E)
noncomputable abbrev k271 : Params → Obj := fun P => (Obj.mk (@Value.type "function") none (Data.func (FuncData.mk (@Str.ofString "waiting_pairs") (@Str.ofString "Locks.waiting_pairs") ga_Locks_waiting_pairs gb_Locks_waiting_pairs gs_Locks_waiting_pairs 3 [] vn vn vn (@Value.str (@Str.ofString "pactroom.locks") 442) none (vr 270) vn 0)) E)
noncomputable abbrev k278 : Params → Obj := fun P => (Obj.mk (@Value.type "function") none (Data.func (FuncData.mk (@Str.ofString "waiting_place") (@Str.ofString "Locks.waiting_place") ga_Locks_waiting_place gb_Locks_waiting_place gs_Locks_waiting_place 3 [] vn vn vn (@Value.str (@Str.ofString "pactroom.locks") 442) none (vr 277) vn 0)) E)
noncomputable abbrev k304 : Params → Obj := fun P => (Obj.mk (@Value.type "function") none (Data.func (FuncData.mk (@Str.ofString "__init__") (@Str.ofString "Lock.__init__") ga_Lock___init__ gb_Lock___init__ gs_Lock___init__ 3 [] vn vn vn (@Value.str (@Str.ofString "pactroom.kinds") 545) none (vr 303) vn 0)) E)
noncomputable abbrev k311 : Params → Obj := fun P => (Obj.mk (@Value.type "function") none (Data.func (FuncData.mk (@Str.ofString "kind") (@Str.ofString "Lock.kind") ga_Lock_kind gb_Lock_kind gs_Lock_kind 3 [] vn vn vn (@Value.str (@Str.ofString "pactroom.kinds") 545) none (vr 310) vn 0)) E)
noncomputable abbrev k318 : Params → Obj := fun P => (Obj.mk (@Value.type "function") none (Data.func (FuncData.mk (@Str.ofString "beside") (@Str.ofString "Lock.beside") ga_Lock_beside gb_Lock_beside gs_Lock_beside 3 [] vn vn vn (@Value.str (@Str.ofString "pactroom.kinds") 545) none (vr 317) vn 0)) E)
noncomputable abbrev k325 : Params → Obj := fun P => (Obj.mk (@Value.type "function") none (Data.func (FuncData.mk (@Str.ofString "covers") (@Str.ofString "Lock.covers") ga_Lock_covers gb_Lock_covers gs_Lock_covers 3 [] vn vn vn (@Value.str (@Str.ofString "pactroom.kinds") 545) none (vr 324) vn 0)) E)
noncomputable abbrev k332 : Params → Obj := fun P => (Obj.mk (@Value.type "function") none (Data.func (FuncData.mk (@Str.ofString "told") (@Str.ofString "Lock.told") ga_Lock_told gb_Lock_told gs_Lock_told 3 [] vn vn vn (@Value.str (@Str.ofString "pactroom.kinds") 545) none (vr 331) vn 0)) E)
noncomputable abbrev k353 : Params → Obj := fun P => (Obj.mk (@Value.type "function") none (Data.func (FuncData.mk (@Str.ofString "kind") (@Str.ofString "Read.kind") ga_Read_kind gb_Read_kind gs_Read_kind 3 [] vn vn vn (@Value.str (@Str.ofString "pactroom.kinds") 545) none (vr 352) vn 0)) E)
noncomputable abbrev k372 : Params → Obj := fun P => (Obj.mk (@Value.type "function") none (Data.func (FuncData.mk (@Str.ofString "kind") (@Str.ofString "Mean.kind") ga_Mean_kind gb_Mean_kind gs_Mean_kind 3 [] vn vn vn (@Value.str (@Str.ofString "pactroom.kinds") 545) none (vr 371) vn 0)) E)
noncomputable abbrev k391 : Params → Obj := fun P => (Obj.mk (@Value.type "function") none (Data.func (FuncData.mk (@Str.ofString "kind") (@Str.ofString "Change.kind") ga_Change_kind gb_Change_kind gs_Change_kind 3 [] vn vn vn (@Value.str (@Str.ofString "pactroom.kinds") 545) none (vr 390) vn 0)) E)
noncomputable abbrev k403 : Params → Obj := fun P => (Obj.mk (@Value.type "function") none (Data.func (FuncData.mk (@Str.ofString "lock_of") (@Str.ofString "lock_of") ga_lock_of gb_lock_of gs_lock_of 3 [] vn vn vn (@Value.str (@Str.ofString "pactroom.kinds") 545) none (vr 402) vn 0)) E)
noncomputable abbrev k410 : Params → Obj := fun P => (Obj.mk (@Value.type "function") none (Data.func (FuncData.mk (@Str.ofString "_law_cell_at") (@Str.ofString "_law_cell_at") ga__law_cell_at gb__law_cell_at gs__law_cell_at 3 [] vn vn vn (@Value.str (@Str.ofString "law_pactroom_k15_who_waits_is_hindered") 703) none (vr 409) vn 0)) E)
noncomputable abbrev k417 : Params → Obj := fun P => (Obj.mk (@Value.type "function") none (Data.func (FuncData.mk (@Str.ofString "_law_names") (@Str.ofString "_law_names") ga__law_names gb__law_names gs__law_names 3 [] vn vn vn (@Value.str (@Str.ofString "law_pactroom_k15_who_waits_is_hindered") 703) none (vr 416) vn 0)) E)
noncomputable abbrev k424 : Params → Obj := fun P => (Obj.mk (@Value.type "function") none (Data.func (FuncData.mk (@Str.ofString "_law_told") (@Str.ofString "_law_told") ga__law_told gb__law_told gs__law_told 3 [] vn vn vn (@Value.str (@Str.ofString "law_pactroom_k15_who_waits_is_hindered") 703) none (vr 423) vn 0)) E)
noncomputable abbrev k431 : Params → Obj := fun P => (Obj.mk (@Value.type "function") none (Data.func (FuncData.mk (@Str.ofString "_law_beside") (@Str.ofString "_law_beside") ga__law_beside gb__law_beside gs__law_beside 3 [] vn vn vn (@Value.str (@Str.ofString "law_pactroom_k15_who_waits_is_hindered") 703) none (vr 430) vn 0)) E)
noncomputable abbrev k436 : Params → Obj := fun P => (Obj.mk (@Value.type "function") none (Data.func (FuncData.mk (@Str.ofString "_law_hindered") (@Str.ofString "_law_hindered") ga__law_hindered gb__law_hindered gs__law_hindered 3 [] vn vn vn (@Value.str (@Str.ofString "law_pactroom_k15_who_waits_is_hindered") 703) none (vr 435) vn 0)) E)
noncomputable abbrev k443 : Params → Obj := fun P => (Obj.mk (@Value.type "function") none (Data.func (FuncData.mk (@Str.ofString "_law_refused") (@Str.ofString "_law_refused") ga__law_refused gb__law_refused gs__law_refused 3 [] vn vn vn (@Value.str (@Str.ofString "law_pactroom_k15_who_waits_is_hindered") 703) none (vr 442) vn 0)) E)
noncomputable abbrev k448 : Params → Obj := fun P => (Obj.mk (@Value.type "function") none (Data.func (FuncData.mk (@Str.ofString "_law_asked") (@Str.ofString "_law_asked") ga__law_asked gb__law_asked gs__law_asked 3 [] vn vn vn (@Value.str (@Str.ofString "law_pactroom_k15_who_waits_is_hindered") 703) none (vr 447) vn 0)) E)
noncomputable abbrev k453 : Params → Obj := fun P => (Obj.mk (@Value.type "function") none (Data.func (FuncData.mk (@Str.ofString "law") (@Str.ofString "law") ga_law gb_law gs_law 3 [] vn vn vn (@Value.str (@Str.ofString "law_pactroom_k15_who_waits_is_hindered") 703) none (vr 452) vn 0)) E)
noncomputable def Kf : Params → Frag := fun P => (nat_lit 2, boot_o_2 P) :: (nat_lit 3, c10_3 P) :: (nat_lit 15, a11 P) :: (nat_lit 17, c0_17 P) :: (nat_lit 18, a11 P) :: (nat_lit 20, c0_20 P) :: (nat_lit 21, k21 P) :: (nat_lit 22, c0_22 P) :: (nat_lit 29, a11 P) :: (nat_lit 30, c0_30 P) :: (nat_lit 31, c6_31 P) :: (nat_lit 32, c0_32 P) :: (nat_lit 35, c0_35 P) :: (nat_lit 42, a11 P) :: (nat_lit 43, c0_43 P) :: (nat_lit 44, c0_44 P) :: (nat_lit 47, c0_35 P) :: (nat_lit 54, a11 P) :: (nat_lit 55, c1_55 P) :: (nat_lit 56, c1_56 P) :: (nat_lit 59, c0_35 P) :: (nat_lit 66, a11 P) :: (nat_lit 67, c1_67 P) :: (nat_lit 68, c1_68 P) :: (nat_lit 71, c0_35 P) :: (nat_lit 78, a11 P) :: (nat_lit 79, c2_79 P) :: (nat_lit 80, c2_80 P) :: (nat_lit 83, c0_35 P) :: (nat_lit 90, a11 P) :: (nat_lit 91, c2_91 P) :: (nat_lit 92, c2_92 P) :: (nat_lit 95, c0_35 P) :: (nat_lit 102, a11 P) :: (nat_lit 103, c3_103 P) :: (nat_lit 104, c3_104 P) :: (nat_lit 107, c0_35 P) :: (nat_lit 114, a11 P) :: (nat_lit 115, c3_115 P) :: (nat_lit 116, c3_116 P) :: (nat_lit 119, c0_35 P) :: (nat_lit 126, a11 P) :: (nat_lit 127, c4_127 P) :: (nat_lit 128, c4_128 P) :: (nat_lit 131, c0_35 P) :: (nat_lit 138, a11 P) :: (nat_lit 140, c4_140 P) :: (nat_lit 141, a11 P) :: (nat_lit 143, c4_143 P) :: (nat_lit 144, k144 P) :: (nat_lit 145, c4_145 P) :: (nat_lit 146, c4_146 P) :: (nat_lit 147, c4_147 P) :: (nat_lit 150, c0_35 P) :: (nat_lit 157, a11 P) :: (nat_lit 159, c5_159 P) :: (nat_lit 160, a11 P) :: (nat_lit 162, c5_162 P) :: (nat_lit 163, k163 P) :: (nat_lit 164, c5_164 P) :: (nat_lit 165, c5_165 P) :: (nat_lit 166, c5_166 P) :: (nat_lit 169, c0_35 P) :: (nat_lit 176, a11 P) :: (nat_lit 178, c5_178 P) :: (nat_lit 179, a11 P) :: (nat_lit 181, c5_181 P) :: (nat_lit 182, k182 P) :: (nat_lit 183, c5_183 P) :: (nat_lit 184, c5_184 P) :: (nat_lit 185, c5_185 P) :: (nat_lit 188, c0_35 P) :: (nat_lit 195, a11 P) :: (nat_lit 197, c6_197 P) :: (nat_lit 198, a11 P) :: (nat_lit 200, c6_200 P) :: (nat_lit 201, k201 P) :: (nat_lit 202, c6_202 P) :: (nat_lit 203, c6_203 P) :: (nat_lit 204, c6_204 P) :: (nat_lit 214, a11 P) :: (nat_lit 216, c7_216 P) :: (nat_lit 217, a11 P) :: (nat_lit 219, c7_219 P) :: (nat_lit 220, k220 P) :: (nat_lit 221, a11 P) :: (nat_lit 224, c7_224 P) :: (nat_lit 225, k225 P) :: (nat_lit 226, a11 P) :: (nat_lit 229, c7_229 P) :: (nat_lit 230, k230 P) :: (nat_lit 231, a11 P) :: (nat_lit 233, c7_233 P) :: (nat_lit 234, a11 P) :: (nat_lit 236, c7_236 P) :: (nat_lit 237, k237 P) :: (nat_lit 238, a11 P) :: (nat_lit 240, c7_240 P) :: (nat_lit 241, a11 P) :: (nat_lit 243, c7_243 P) :: (nat_lit 244, k244 P) :: (nat_lit 245, a11 P) :: (nat_lit 248, c7_248 P) :: (nat_lit 249, k249 P) :: (nat_lit 250, a11 P) :: (nat_lit 253, c7_253 P) :: (nat_lit 254, k254 P) :: (nat_lit 255, a11 P) :: (nat_lit 257, c7_257 P) :: (nat_lit 258, a11 P) :: (nat_lit 260, c7_260 P) :: (nat_lit 261, k261 P) :: (nat_lit 262, a11 P) :: (nat_lit 265, c7_265 P) :: (nat_lit 266, k266 P) :: (nat_lit 267, a11 P) :: (nat_lit 270, c7_270 P) :: (nat_lit 271, k271 P) :: (nat_lit 272, a11 P) :: (nat_lit 274, c7_274 P) :: (nat_lit 275, a11 P) :: (nat_lit 277, c7_277 P) :: (nat_lit 278, k278 P) :: (nat_lit 279, c7_279 P) :: (nat_lit 280, c7_280 P) :: (nat_lit 281, c7_281 P) :: (nat_lit 282, c7_282 P) :: (nat_lit 283, c7_283 P) :: (nat_lit 286, c8_286 P) :: (nat_lit 287, c8_287 P) :: (nat_lit 288, c8_288 P) :: (nat_lit 289, c8_289 P) :: (nat_lit 290, c8_290 P) :: (nat_lit 298, a11 P) :: (nat_lit 300, c8_300 P) :: (nat_lit 301, a11 P) :: (nat_lit 303, c8_303 P) :: (nat_lit 304, k304 P) :: (nat_lit 305, a11 P) :: (nat_lit 307, c8_307 P) :: (nat_lit 308, a11 P) :: (nat_lit 310, c8_310 P) :: (nat_lit 311, k311 P) :: (nat_lit 312, a11 P) :: (nat_lit 314, c8_314 P) :: (nat_lit 315, a11 P) :: (nat_lit 317, c8_317 P) :: (nat_lit 318, k318 P) :: (nat_lit 319, a11 P) :: (nat_lit 321, c8_321 P) :: (nat_lit 322, a11 P) :: (nat_lit 324, c8_324 P) :: (nat_lit 325, k325 P) :: (nat_lit 326, a11 P) :: (nat_lit 328, c8_328 P) :: (nat_lit 329, a11 P) :: (nat_lit 331, c8_331 P) :: (nat_lit 332, k332 P) :: (nat_lit 333, c8_333 P) :: (nat_lit 334, c8_334 P) :: (nat_lit 335, c10_335 P) :: (nat_lit 336, c8_336 P) :: (nat_lit 337, c8_337 P) :: (nat_lit 340, c9_340 P) :: (nat_lit 347, a11 P) :: (nat_lit 349, c9_349 P) :: (nat_lit 350, a11 P) :: (nat_lit 352, c9_352 P) :: (nat_lit 353, k353 P) :: (nat_lit 354, a11 P) :: (nat_lit 355, c9_355 P) :: (nat_lit 356, c9_356 P) :: (nat_lit 359, c9_340 P) :: (nat_lit 366, a11 P) :: (nat_lit 368, c9_368 P) :: (nat_lit 369, a11 P) :: (nat_lit 371, c9_371 P) :: (nat_lit 372, k372 P) :: (nat_lit 373, a11 P) :: (nat_lit 374, c9_374 P) :: (nat_lit 375, c9_375 P) :: (nat_lit 378, c9_340 P) :: (nat_lit 385, a11 P) :: (nat_lit 387, c10_387 P) :: (nat_lit 388, a11 P) :: (nat_lit 390, c10_390 P) :: (nat_lit 391, k391 P) :: (nat_lit 392, a11 P) :: (nat_lit 393, c10_393 P) :: (nat_lit 394, c10_394 P) :: (nat_lit 397, a11 P) :: (nat_lit 399, c10_399 P) :: (nat_lit 400, a11 P) :: (nat_lit 402, c10_402 P) :: (nat_lit 403, k403 P) :: (nat_lit 404, a11 P) :: (nat_lit 406, c10_406 P) :: (nat_lit 407, a11 P) :: (nat_lit 409, c10_409 P) :: (nat_lit 410, k410 P) :: (nat_lit 411, a11 P) :: (nat_lit 413, c10_413 P) :: (nat_lit 414, a11 P) :: (nat_lit 416, c10_416 P) :: (nat_lit 417, k417 P) :: (nat_lit 418, a11 P) :: (nat_lit 420, c10_420 P) :: (nat_lit 421, a11 P) :: (nat_lit 423, c10_423 P) :: (nat_lit 424, k424 P) :: (nat_lit 425, a11 P) :: (nat_lit 427, c10_427 P) :: (nat_lit 428, a11 P) :: (nat_lit 430, c10_430 P) :: (nat_lit 431, k431 P) :: (nat_lit 432, a11 P) :: (nat_lit 435, c10_435 P) :: (nat_lit 436, k436 P) :: (nat_lit 437, a11 P) :: (nat_lit 439, c10_439 P) :: (nat_lit 440, a11 P) :: (nat_lit 442, c10_442 P) :: (nat_lit 443, k443 P) :: (nat_lit 444, a11 P) :: (nat_lit 447, c10_447 P) :: (nat_lit 448, k448 P) :: (nat_lit 449, a11 P) :: (nat_lit 452, c10_452 P) :: (nat_lit 453, k453 P) :: []
noncomputable def Ka : List Addr := [2, 3, 15, 17, 18, 20, 21, 22, 29, 30, 31, 32, 35, 42, 43, 44, 47, 54, 55, 56, 59, 66, 67, 68, 71, 78, 79, 80, 83, 90, 91, 92, 95, 102, 103, 104, 107, 114, 115, 116, 119, 126, 127, 128, 131, 138, 140, 141, 143, 144, 145, 146, 147, 150, 157, 159, 160, 162, 163, 164, 165, 166, 169, 176, 178, 179, 181, 182, 183, 184, 185, 188, 195, 197, 198, 200, 201, 202, 203, 204, 214, 216, 217, 219, 220, 221, 224, 225, 226, 229, 230, 231, 233, 234, 236, 237, 238, 240, 241, 243, 244, 245, 248, 249, 250, 253, 254, 255, 257, 258, 260, 261, 262, 265, 266, 267, 270, 271, 272, 274, 275, 277, 278, 279, 280, 281, 282, 283, 286, 287, 288, 289, 290, 298, 300, 301, 303, 304, 305, 307, 308, 310, 311, 312, 314, 315, 317, 318, 319, 321, 322, 324, 325, 326, 328, 329, 331, 332, 333, 334, 335, 336, 337, 340, 347, 349, 350, 352, 353, 354, 355, 356, 359, 366, 368, 369, 371, 372, 373, 374, 375, 378, 385, 387, 388, 390, 391, 392, 393, 394, 397, 399, 400, 402, 403, 404, 406, 407, 409, 410, 411, 413, 414, 416, 417, 418, 420, 421, 423, 424, 425, 427, 428, 430, 431, 432, 435, 436, 437, 439, 440, 442, 443, 444, 447, 448, 449, 452, 453]
theorem ke (P : Params) : Ka = (Kf P).map (·.1) := by kernel_rfl
noncomputable abbrev HK : Hook := kHook Kf Ka ke
noncomputable abbrev R : RowW := PySem.Challenge.rw_pactroom_k15_who_waits_is_hindered.row.toRowW
noncomputable abbrev lo : List Str := [Str.ofString "RANKS"]
noncomputable abbrev lvv : List (Str × WData) := []
noncomputable def qv : Program := { p0 with main := { p0.main with body := [T 0, T 2, T 3, T 4, T 5, T 6, T 7, T 8, T 9, T 10, T 11, T 12, T 13, T 14, T 16, T 18, T 19, T 20, T 21, T 22, T 23, T 24, T 26, T 27, T 28, T 29, T 30, T 31, T 32, T 33] } }
noncomputable abbrev Xt : Shared → Bool := fun s => xlAt qv lvv s && recOk (RowW.records R) s
theorem size_l (w : World) : ((boot_heap w.params).isNs mainGlobals && (A [] : Array GenState).size == 0, (boot_heap w.params).objs.size, (boot_heap w.params).nsMap mainGlobals "__annotations__") = (true, 11, (sr 6)) := by kernel_rfl
theorem look1 (w : World) (os : OsState) : (staticsOk (importedModules p0.main.body) (boot_heap w.params) (H1 w.params) && namesBound p0 (H1 w.params) && gensDone ⟨H1 w.params, Array.mk [], (@Drawn.mk 0 0 0 0), 771, os⟩ && laidKept (boot_heap w.params) (H1 w.params)) = true := by kernel_rfl
theorem look2 (w : World) (os : OsState) : openSeen qv lo (importedModules p0.main.body) Xt true ⟨H1 w.params, Array.mk [], (@Drawn.mk 0 0 0 0), 771, os⟩ = openGood qv lo := by kernel_rfl
theorem look3 (w : World) (os : OsState) : Hook.obs HK ⟨H1 w.params, Array.mk [], (@Drawn.mk 0 0 0 0), 771, os⟩ = Hook.val HK w := by kernel_rfl
theorem left : LeftO p0 qv lo Xt (Hook.obs HK) (Hook.val HK) 9886 := LeftO.of_pieces (boot_open (by kernel_rfl) (by kernel_rfl) (fun s => by kernel_rfl)) size_l run_l (by decide) fun w => funext fun os => looks_pair (look1 w os) (looks_pair (look2 w os) (look3 w os))
end
end Q
end

set_option maxHeartbeats 4000000
namespace K15
open PySem L2 Lo
def kmk (a b c : Addr) : Kd → Addr
  | .read => a
  | .mean => b
  | .change => c
theorem all_mk {l : PySem.W.OpenLaw} {w : World} {K : PySem.W.Frag} {h : Heap} {mg : Str → Option Value} {fa CWt CPe E1 E2 E3 E4 E5 E6 E7 E8 E9 E10 E11 CR fkR CM fkM CC fkC fi ft fb fv CL fzinit fzhinderer fzheldpairs fzwaitingpairs fzheld fzwaiting fzwaitingplace fzask fzfree fA fO fT_ fN fD fX_ fR_ fY_ fZ aS b0 b1 b2 aRk : Addr} (X : K.In h) (G : h.Ns mainGlobals mg) (hfa : mg "law" = some (.ref fa))
    {odkR ankR odkM ankM odkC ankC odi ani odt ant odb anb odv anv odzinit anzinit odzhinderer anzhinderer odzheldpairs anzheldpairs odzwaitingpairs anzwaitingpairs odzheld anzheld odzwaiting anzwaiting odzwaitingplace anzwaitingplace odzask anzask odzfree anzfree odA anA odO anO odT_ anT_ odN anN odD anD odX_ anX_ odR_ anR_ odY_ anY_ odZ anZ oS o0 o1 o2 : Option Addr} {slkR slkM slkC sli slt slb slv slzinit slzhinderer slzheldpairs slzwaitingpairs slzheld slzwaiting slzwaitingplace slzask slzfree slA slO slT_ slN slD slX_ slR_ slY_ slZ sS s0 s1 s2 : Array (Option Value)} {ockR kVkR dckR pmkR cdkR ctkR ockM kVkM dckM pmkM cdkM ctkM ockC kVkC dckC pmkC cdkC ctkC oci kVi dci pmi cdi cti oct kVt dct pmt cdt ctt ocb kVb dcb pmb cdb ctb ocv kVv dcv pmv cdv ctv oczinit kVzinit dczinit pmzinit cdzinit ctzinit oczhinderer kVzhinderer dczhinderer pmzhinderer cdzhinderer ctzhinderer oczheldpairs kVzheldpairs dczheldpairs pmzheldpairs cdzheldpairs ctzheldpairs oczwaitingpairs kVzwaitingpairs dczwaitingpairs pmzwaitingpairs cdzwaitingpairs ctzwaitingpairs oczheld kVzheld dczheld pmzheld cdzheld ctzheld oczwaiting kVzwaiting dczwaiting pmzwaiting cdzwaiting ctzwaiting oczwaitingplace kVzwaitingplace dczwaitingplace pmzwaitingplace cdzwaitingplace ctzwaitingplace oczask kVzask dczask pmzask cdzask ctzask oczfree kVzfree dczfree pmzfree cdzfree ctzfree ocA kVA dcA pmA cdA ctA ocO kVO dcO pmO cdO ctO ocT_ kVT_ dcT_ pmT_ cdT_ ctT_ ocN kVN dcN pmN cdN ctN ocD kVD dcD pmD cdD ctD ocX_ kVX_ dcX_ pmX_ cdX_ ctX_ ocR_ kVR_ dcR_ pmR_ cdR_ ctR_ ocY_ kVY_ dcY_ pmY_ cdY_ ctY_ ocZ kVZ dcZ pmZ cdZ ctZ : Value} {t0 t1 t2 t3 t4 t5 : Tok} {vS v0 v1 v2 : Nat} {esR : Array DictEntry} {epR : Nat}
    (nR : PySem.W.nsIn K mainGlobals "Read" = some (some (.ref CR)))
    (pgR : PySem.W.plainGet K CR Str.empty = true)
    (hdR : PySem.W.hasDictIn K CR = true)
    (poR : PySem.W.plainOver K CR = true)
    (saR : PySem.W.findIn K (.ref CR) "__setattr__" = some (some (.builtin "object.__setattr__")))
    (mkR : PySem.W.makesIn K CR = true)
    (kcR : PySem.W.keepIn K (.ref CR) = true)
    (nFR : PySem.W.findIn K (.ref CR) "first" = some none)
    (nLR : PySem.W.findIn K (.ref CR) "last" = some none)
    (akR : PySem.W.findIn K (.ref CR) "kind" = some (some (.ref fkR)))
    (jkR : PySem.W.isFn K (.ref fkR) = true)
    (lkR : K.lookup fkR = some ⟨ockR, odkR, .func (PySem.W.fnOf "kind" "Read.kind" (defArgs m_Read_kind) (defBody m_Read_kind) (defScope m_Read_kind) .none kVkR dckR pmkR ankR cdkR ctkR), slkR⟩)
    (ckR : PySem.W.codeIn K cdkR "Read.kind" = true)
    (ekR : PySem.W.keepIn K (.ref fkR) = true)
    (nM : PySem.W.nsIn K mainGlobals "Mean" = some (some (.ref CM)))
    (pgM : PySem.W.plainGet K CM Str.empty = true)
    (hdM : PySem.W.hasDictIn K CM = true)
    (poM : PySem.W.plainOver K CM = true)
    (saM : PySem.W.findIn K (.ref CM) "__setattr__" = some (some (.builtin "object.__setattr__")))
    (mkM : PySem.W.makesIn K CM = true)
    (kcM : PySem.W.keepIn K (.ref CM) = true)
    (nFM : PySem.W.findIn K (.ref CM) "first" = some none)
    (nLM : PySem.W.findIn K (.ref CM) "last" = some none)
    (akM : PySem.W.findIn K (.ref CM) "kind" = some (some (.ref fkM)))
    (jkM : PySem.W.isFn K (.ref fkM) = true)
    (lkM : K.lookup fkM = some ⟨ockM, odkM, .func (PySem.W.fnOf "kind" "Mean.kind" (defArgs m_Mean_kind) (defBody m_Mean_kind) (defScope m_Mean_kind) .none kVkM dckM pmkM ankM cdkM ctkM), slkM⟩)
    (ckM : PySem.W.codeIn K cdkM "Mean.kind" = true)
    (ekM : PySem.W.keepIn K (.ref fkM) = true)
    (nC : PySem.W.nsIn K mainGlobals "Change" = some (some (.ref CC)))
    (pgC : PySem.W.plainGet K CC Str.empty = true)
    (hdC : PySem.W.hasDictIn K CC = true)
    (poC : PySem.W.plainOver K CC = true)
    (saC : PySem.W.findIn K (.ref CC) "__setattr__" = some (some (.builtin "object.__setattr__")))
    (mkC : PySem.W.makesIn K CC = true)
    (kcC : PySem.W.keepIn K (.ref CC) = true)
    (nFC : PySem.W.findIn K (.ref CC) "first" = some none)
    (nLC : PySem.W.findIn K (.ref CC) "last" = some none)
    (akC : PySem.W.findIn K (.ref CC) "kind" = some (some (.ref fkC)))
    (jkC : PySem.W.isFn K (.ref fkC) = true)
    (lkC : K.lookup fkC = some ⟨ockC, odkC, .func (PySem.W.fnOf "kind" "Change.kind" (defArgs m_Change_kind) (defBody m_Change_kind) (defScope m_Change_kind) .none kVkC dckC pmkC ankC cdkC ctkC), slkC⟩)
    (ckC : PySem.W.codeIn K cdkC "Change.kind" = true)
    (ekC : PySem.W.keepIn K (.ref fkC) = true)
    (aiR : PySem.W.findIn K (.ref CR) "__init__" = some (some (.ref fi)))
    (aiM : PySem.W.findIn K (.ref CM) "__init__" = some (some (.ref fi)))
    (aiC : PySem.W.findIn K (.ref CC) "__init__" = some (some (.ref fi)))
    (ji : PySem.W.isFn K (.ref fi) = true)
    (li : K.lookup fi = some ⟨oci, odi, .func (PySem.W.fnOf "__init__" "Lock.__init__" (defArgs m_Lock_init) (defBody m_Lock_init) (defScope m_Lock_init) .none kVi dci pmi ani cdi cti), sli⟩)
    (ci : PySem.W.codeIn K cdi "Lock.__init__" = true)
    (ei : PySem.W.keepIn K (.ref fi) = true)
    (atR : PySem.W.findIn K (.ref CR) "told" = some (some (.ref ft)))
    (atM : PySem.W.findIn K (.ref CM) "told" = some (some (.ref ft)))
    (atC : PySem.W.findIn K (.ref CC) "told" = some (some (.ref ft)))
    (jt : PySem.W.isFn K (.ref ft) = true)
    (lt : K.lookup ft = some ⟨oct, odt, .func (PySem.W.fnOf "told" "Lock.told" (defArgs m_Lock_told) (defBody m_Lock_told) (defScope m_Lock_told) .none kVt dct pmt ant cdt ctt), slt⟩)
    (ct : PySem.W.codeIn K cdt "Lock.told" = true)
    (et : PySem.W.keepIn K (.ref ft) = true)
    (abR : PySem.W.findIn K (.ref CR) "beside" = some (some (.ref fb)))
    (abM : PySem.W.findIn K (.ref CM) "beside" = some (some (.ref fb)))
    (abC : PySem.W.findIn K (.ref CC) "beside" = some (some (.ref fb)))
    (jb : PySem.W.isFn K (.ref fb) = true)
    (lb : K.lookup fb = some ⟨ocb, odb, .func (PySem.W.fnOf "beside" "Lock.beside" (defArgs m_Lock_beside) (defBody m_Lock_beside) (defScope m_Lock_beside) .none kVb dcb pmb anb cdb ctb), slb⟩)
    (cb : PySem.W.codeIn K cdb "Lock.beside" = true)
    (eb : PySem.W.keepIn K (.ref fb) = true)
    (avR : PySem.W.findIn K (.ref CR) "covers" = some (some (.ref fv)))
    (avM : PySem.W.findIn K (.ref CM) "covers" = some (some (.ref fv)))
    (avC : PySem.W.findIn K (.ref CC) "covers" = some (some (.ref fv)))
    (jv : PySem.W.isFn K (.ref fv) = true)
    (lv : K.lookup fv = some ⟨ocv, odv, .func (PySem.W.fnOf "covers" "Lock.covers" (defArgs m_Lock_covers) (defBody m_Lock_covers) (defScope m_Lock_covers) .none kVv dcv pmv anv cdv ctv), slv⟩)
    (cv : PySem.W.codeIn K cdv "Lock.covers" = true)
    (ev : PySem.W.keepIn K (.ref fv) = true)
    (nL : PySem.W.nsIn K mainGlobals "Locks" = some (some (.ref CL)))
    (pgL : PySem.W.plainGet K CL Str.empty = true)
    (hdL : PySem.W.hasDictIn K CL = true)
    (poL : PySem.W.plainOver K CL = true)
    (saL : PySem.W.findIn K (.ref CL) "__setattr__" = some (some (.builtin "object.__setattr__")))
    (mkL : PySem.W.makesIn K CL = true)
    (kcL : PySem.W.keepIn K (.ref CL) = true)
    (nP : PySem.W.findIn K (.ref CL) "pairs" = some none)
    (nKL : PySem.W.findIn K (.ref CL) "kind" = some none)
    (azinit : PySem.W.findIn K (.ref CL) "__init__" = some (some (.ref fzinit)))
    (jzinit : PySem.W.isFn K (.ref fzinit) = true)
    (lzinit : K.lookup fzinit = some ⟨oczinit, odzinit, .func (PySem.W.fnOf "__init__" "Locks.__init__" (defArgs m_Locks_init) (defBody m_Locks_init) (defScope m_Locks_init) .none kVzinit dczinit pmzinit anzinit cdzinit ctzinit), slzinit⟩)
    (czinit : PySem.W.codeIn K cdzinit "Locks.__init__" = true)
    (ezinit : PySem.W.keepIn K (.ref fzinit) = true)
    (azhinderer : PySem.W.findIn K (.ref CL) "hinderer" = some (some (.ref fzhinderer)))
    (jzhinderer : PySem.W.isFn K (.ref fzhinderer) = true)
    (lzhinderer : K.lookup fzhinderer = some ⟨oczhinderer, odzhinderer, .func (PySem.W.fnOf "hinderer" "Locks.hinderer" (defArgs m_Locks_hinderer) (defBody m_Locks_hinderer) (defScope m_Locks_hinderer) .none kVzhinderer dczhinderer pmzhinderer anzhinderer cdzhinderer ctzhinderer), slzhinderer⟩)
    (czhinderer : PySem.W.codeIn K cdzhinderer "Locks.hinderer" = true)
    (ezhinderer : PySem.W.keepIn K (.ref fzhinderer) = true)
    (azheldpairs : PySem.W.findIn K (.ref CL) "held_pairs" = some (some (.ref fzheldpairs)))
    (jzheldpairs : PySem.W.isFn K (.ref fzheldpairs) = true)
    (lzheldpairs : K.lookup fzheldpairs = some ⟨oczheldpairs, odzheldpairs, .func (PySem.W.fnOf "held_pairs" "Locks.held_pairs" (defArgs m_Locks_held_pairs) (defBody m_Locks_held_pairs) (defScope m_Locks_held_pairs) .none kVzheldpairs dczheldpairs pmzheldpairs anzheldpairs cdzheldpairs ctzheldpairs), slzheldpairs⟩)
    (czheldpairs : PySem.W.codeIn K cdzheldpairs "Locks.held_pairs" = true)
    (ezheldpairs : PySem.W.keepIn K (.ref fzheldpairs) = true)
    (azwaitingpairs : PySem.W.findIn K (.ref CL) "waiting_pairs" = some (some (.ref fzwaitingpairs)))
    (jzwaitingpairs : PySem.W.isFn K (.ref fzwaitingpairs) = true)
    (lzwaitingpairs : K.lookup fzwaitingpairs = some ⟨oczwaitingpairs, odzwaitingpairs, .func (PySem.W.fnOf "waiting_pairs" "Locks.waiting_pairs" (defArgs m_Locks_waiting_pairs) (defBody m_Locks_waiting_pairs) (defScope m_Locks_waiting_pairs) .none kVzwaitingpairs dczwaitingpairs pmzwaitingpairs anzwaitingpairs cdzwaitingpairs ctzwaitingpairs), slzwaitingpairs⟩)
    (czwaitingpairs : PySem.W.codeIn K cdzwaitingpairs "Locks.waiting_pairs" = true)
    (ezwaitingpairs : PySem.W.keepIn K (.ref fzwaitingpairs) = true)
    (azheld : PySem.W.findIn K (.ref CL) "held" = some (some (.ref fzheld)))
    (jzheld : PySem.W.isFn K (.ref fzheld) = true)
    (lzheld : K.lookup fzheld = some ⟨oczheld, odzheld, .func (PySem.W.fnOf "held" "Locks.held" (defArgs m_Locks_held) (defBody m_Locks_held) (defScope m_Locks_held) .none kVzheld dczheld pmzheld anzheld cdzheld ctzheld), slzheld⟩)
    (czheld : PySem.W.codeIn K cdzheld "Locks.held" = true)
    (ezheld : PySem.W.keepIn K (.ref fzheld) = true)
    (azwaiting : PySem.W.findIn K (.ref CL) "waiting" = some (some (.ref fzwaiting)))
    (jzwaiting : PySem.W.isFn K (.ref fzwaiting) = true)
    (lzwaiting : K.lookup fzwaiting = some ⟨oczwaiting, odzwaiting, .func (PySem.W.fnOf "waiting" "Locks.waiting" (defArgs m_Locks_waiting) (defBody m_Locks_waiting) (defScope m_Locks_waiting) .none kVzwaiting dczwaiting pmzwaiting anzwaiting cdzwaiting ctzwaiting), slzwaiting⟩)
    (czwaiting : PySem.W.codeIn K cdzwaiting "Locks.waiting" = true)
    (ezwaiting : PySem.W.keepIn K (.ref fzwaiting) = true)
    (azwaitingplace : PySem.W.findIn K (.ref CL) "waiting_place" = some (some (.ref fzwaitingplace)))
    (jzwaitingplace : PySem.W.isFn K (.ref fzwaitingplace) = true)
    (lzwaitingplace : K.lookup fzwaitingplace = some ⟨oczwaitingplace, odzwaitingplace, .func (PySem.W.fnOf "waiting_place" "Locks.waiting_place" (defArgs m_Locks_waiting_place) (defBody m_Locks_waiting_place) (defScope m_Locks_waiting_place) .none kVzwaitingplace dczwaitingplace pmzwaitingplace anzwaitingplace cdzwaitingplace ctzwaitingplace), slzwaitingplace⟩)
    (czwaitingplace : PySem.W.codeIn K cdzwaitingplace "Locks.waiting_place" = true)
    (ezwaitingplace : PySem.W.keepIn K (.ref fzwaitingplace) = true)
    (azask : PySem.W.findIn K (.ref CL) "ask" = some (some (.ref fzask)))
    (jzask : PySem.W.isFn K (.ref fzask) = true)
    (lzask : K.lookup fzask = some ⟨oczask, odzask, .func (PySem.W.fnOf "ask" "Locks.ask" (defArgs m_Locks_ask) (defBody m_Locks_ask) (defScope m_Locks_ask) .none kVzask dczask pmzask anzask cdzask ctzask), slzask⟩)
    (czask : PySem.W.codeIn K cdzask "Locks.ask" = true)
    (ezask : PySem.W.keepIn K (.ref fzask) = true)
    (azfree : PySem.W.findIn K (.ref CL) "free" = some (some (.ref fzfree)))
    (jzfree : PySem.W.isFn K (.ref fzfree) = true)
    (lzfree : K.lookup fzfree = some ⟨oczfree, odzfree, .func (PySem.W.fnOf "free" "Locks.free" (defArgs m_Locks_free) (defBody m_Locks_free) (defScope m_Locks_free) .none kVzfree dczfree pmzfree anzfree cdzfree ctzfree), slzfree⟩)
    (czfree : PySem.W.codeIn K cdzfree "Locks.free" = true)
    (ezfree : PySem.W.keepIn K (.ref fzfree) = true)
    (aA : PySem.W.nsIn K mainGlobals "_law_cell_at" = some (some (.ref fA)))
    (lA : K.lookup fA = some ⟨ocA, odA, .func (PySem.W.fnOf "_law_cell_at" "_law_cell_at" (defArgs s__law_cell_at) (defBody s__law_cell_at) (defScope s__law_cell_at) .none kVA dcA pmA anA cdA ctA), slA⟩)
    (cA : PySem.W.codeIn K cdA "_law_cell_at" = true)
    (eA : PySem.W.keepIn K (.ref fA) = true)
    (aO : PySem.W.nsIn K mainGlobals "lock_of" = some (some (.ref fO)))
    (lO : K.lookup fO = some ⟨ocO, odO, .func (PySem.W.fnOf "lock_of" "lock_of" (defArgs s_lock_of) (defBody s_lock_of) (defScope s_lock_of) .none kVO dcO pmO anO cdO ctO), slO⟩)
    (cO : PySem.W.codeIn K cdO "lock_of" = true)
    (eO : PySem.W.keepIn K (.ref fO) = true)
    (aT_ : PySem.W.nsIn K mainGlobals "_law_told" = some (some (.ref fT_)))
    (lT_ : K.lookup fT_ = some ⟨ocT_, odT_, .func (PySem.W.fnOf "_law_told" "_law_told" (defArgs s__law_told) (defBody s__law_told) (defScope s__law_told) .none kVT_ dcT_ pmT_ anT_ cdT_ ctT_), slT_⟩)
    (cT_ : PySem.W.codeIn K cdT_ "_law_told" = true)
    (eT_ : PySem.W.keepIn K (.ref fT_) = true)
    (aN : PySem.W.nsIn K mainGlobals "_law_names" = some (some (.ref fN)))
    (lN : K.lookup fN = some ⟨ocN, odN, .func (PySem.W.fnOf "_law_names" "_law_names" (defArgs s__law_names) (defBody s__law_names) (defScope s__law_names) .none kVN dcN pmN anN cdN ctN), slN⟩)
    (cN : PySem.W.codeIn K cdN "_law_names" = true)
    (eN : PySem.W.keepIn K (.ref fN) = true)
    (aD : PySem.W.nsIn K mainGlobals "_law_beside" = some (some (.ref fD)))
    (lD : K.lookup fD = some ⟨ocD, odD, .func (PySem.W.fnOf "_law_beside" "_law_beside" (defArgs s__law_beside) (defBody s__law_beside) (defScope s__law_beside) .none kVD dcD pmD anD cdD ctD), slD⟩)
    (cD : PySem.W.codeIn K cdD "_law_beside" = true)
    (eD : PySem.W.keepIn K (.ref fD) = true)
    (aX_ : PySem.W.nsIn K mainGlobals "_law_hindered" = some (some (.ref fX_)))
    (lX_ : K.lookup fX_ = some ⟨ocX_, odX_, .func (PySem.W.fnOf "_law_hindered" "_law_hindered" (defArgs s__law_hindered) (defBody s__law_hindered) (defScope s__law_hindered) .none kVX_ dcX_ pmX_ anX_ cdX_ ctX_), slX_⟩)
    (cX_ : PySem.W.codeIn K cdX_ "_law_hindered" = true)
    (eX_ : PySem.W.keepIn K (.ref fX_) = true)
    (aR_ : PySem.W.nsIn K mainGlobals "_law_refused" = some (some (.ref fR_)))
    (lR_ : K.lookup fR_ = some ⟨ocR_, odR_, .func (PySem.W.fnOf "_law_refused" "_law_refused" (defArgs s__law_refused) (defBody s__law_refused) (defScope s__law_refused) .none kVR_ dcR_ pmR_ anR_ cdR_ ctR_), slR_⟩)
    (cR_ : PySem.W.codeIn K cdR_ "_law_refused" = true)
    (eR_ : PySem.W.keepIn K (.ref fR_) = true)
    (aY_ : PySem.W.nsIn K mainGlobals "_law_asked" = some (some (.ref fY_)))
    (lY_ : K.lookup fY_ = some ⟨ocY_, odY_, .func (PySem.W.fnOf "_law_asked" "_law_asked" (defArgs s__law_asked) (defBody s__law_asked) (defScope s__law_asked) .none kVY_ dcY_ pmY_ anY_ cdY_ ctY_), slY_⟩)
    (cY_ : PySem.W.codeIn K cdY_ "_law_asked" = true)
    (eY_ : PySem.W.keepIn K (.ref fY_) = true)
    (aZ : PySem.W.nsIn K mainGlobals "law" = some (some (.ref fZ)))
    (lZ : K.lookup fZ = some ⟨ocZ, odZ, .func (PySem.W.fnOf "law" "law" (defArgs s_law) (defBody s_law) (defScope s_law) .none kVZ dcZ pmZ anZ cdZ ctZ), slZ⟩)
    (cZ : PySem.W.codeIn K cdZ "law" = true)
    (eZ : PySem.W.keepIn K (.ref fZ) = true)
    (y_isinstance : PySem.W.nsIn K mainGlobals "isinstance" = some none)
    (y_int : PySem.W.nsIn K mainGlobals "int" = some none)
    (y_bool : PySem.W.nsIn K mainGlobals "bool" = some none)
    (y_str : PySem.W.nsIn K mainGlobals "str" = some none)
    (y_len : PySem.W.nsIn K mainGlobals "len" = some none)
    (y_range : PySem.W.nsIn K mainGlobals "range" = some none)
    (y_tuple : PySem.W.nsIn K mainGlobals "tuple" = some none)
    (y_list : PySem.W.nsIn K mainGlobals "list" = some none)
    (y_any : PySem.W.nsIn K mainGlobals "any" = some none)
    (y_all : PySem.W.nsIn K mainGlobals "all" = some none)
    (y_max : PySem.W.nsIn K mainGlobals "max" = some none)
    (y_sorted : PySem.W.nsIn K mainGlobals "sorted" = some none)
    (nS : PySem.W.nsIn K mainGlobals "SHARING" = some (some (.ref aS)))
    (lS : K.lookup aS = some ⟨.type "tuple", oS, .seq #[.ref b0, .ref b1, .ref b2] vS, sS⟩)
    (lS0 : K.lookup b0 = some ⟨.type "tuple", o0, .seq #[.str "read" t0, .str "read" t1] v0, s0⟩)
    (lS1 : K.lookup b1 = some ⟨.type "tuple", o1, .seq #[.str "read" t2, .str "mean" t3] v1, s1⟩)
    (lS2 : K.lookup b2 = some ⟨.type "tuple", o2, .seq #[.str "mean" t4, .str "read" t5] v2, s2⟩)
    (nRk : PySem.W.nsIn K mainGlobals "RANKS" = some (some (.ref aRk)))
    (lRk : K.lookup aRk = some ⟨.type "dict", none, .dict esR epR, #[]⟩)
    (qRk : (aRk == sysModules) = false)
    (tRk : PyProof.Rows.KTD.rowsLook datL esR.toList ranksD = true)
    (zW : PySem.W.nsIn K mainGlobals "Waiting" = some (some (.ref CWt)))
    (zxW : PySem.W.excIn K CWt bmV "ValueError.__new__" = true)
    (zP : PySem.W.nsIn K mainGlobals "PactError" = some (some (.ref CPe)))
    (zxP : PySem.W.excIn K CPe bmV "ValueError.__new__" = true)
    (zsub : PySem.W.mroIn K CWt (.ref CPe) = some true)
    (zv : PySem.W.nsIn K mainGlobals "ValueError" = some none)
    (zkV : PySem.W.kitOne K (.ref CWt) (.type "ValueError") = some true)
    (zA : PySem.W.findIn K (.ref CWt) "__getattribute__" = some (some (.builtin "BaseException.__getattribute__")))
    (zB : PySem.W.findIn K (.ref CWt) "__getattr__" = some none)
    (zC : PySem.W.findIn K (.ref CWt) "__class__" = some (some (.builtin "object.__class__")))
    (zD : PySem.W.specialIn K (.builtin "object.__class__") "__get__" = some (some (.builtin "getset_descriptor.__get__")))
    (zE : PySem.W.takesIn K (.builtin "object.__class__") = some true)
    (zF : PySem.W.mroIn K CWt (.type "object") = some true)
    (zG : PySem.W.mroIn K CWt (.type "BaseException") = some true)
    (ze1 : PySem.W.nsIn K mainGlobals "Fallen" = some (some (.ref E1)))
    (zk1 : PySem.W.kitOne K (.ref CWt) (.ref E1) = some false)
    (ze2 : PySem.W.nsIn K mainGlobals "NoHouse" = some (some (.ref E2)))
    (zk2 : PySem.W.kitOne K (.ref CWt) (.ref E2) = some false)
    (ze3 : PySem.W.nsIn K mainGlobals "NoLetter" = some (some (.ref E3)))
    (zk3 : PySem.W.kitOne K (.ref CWt) (.ref E3) = some false)
    (ze4 : PySem.W.nsIn K mainGlobals "NoNeed" = some (some (.ref E4)))
    (zk4 : PySem.W.kitOne K (.ref CWt) (.ref E4) = some false)
    (ze5 : PySem.W.nsIn K mainGlobals "NotBound" = some (some (.ref E5)))
    (zk5 : PySem.W.kitOne K (.ref CWt) (.ref E5) = some false)
    (ze6 : PySem.W.nsIn K mainGlobals "NoThing" = some (some (.ref E6)))
    (zk6 : PySem.W.kitOne K (.ref CWt) (.ref E6) = some false)
    (ze7 : PySem.W.nsIn K mainGlobals "Standing" = some (some (.ref E7)))
    (zk7 : PySem.W.kitOne K (.ref CWt) (.ref E7) = some false)
    (ze8 : PySem.W.nsIn K mainGlobals "NoText" = some (some (.ref E8)))
    (zk8 : PySem.W.kitOne K (.ref CWt) (.ref E8) = some false)
    (ze9 : PySem.W.nsIn K mainGlobals "NoPlace" = some (some (.ref E9)))
    (zk9 : PySem.W.kitOne K (.ref CWt) (.ref E9) = some false)
    (ze10 : PySem.W.nsIn K mainGlobals "NoWayBack" = some (some (.ref E10)))
    (zk10 : PySem.W.kitOne K (.ref CWt) (.ref E10) = some false)
    (ze11 : PySem.W.nsIn K mainGlobals "NoFit" = some (some (.ref E11)))
    (zk11 : PySem.W.kitOne K (.ref CWt) (.ref E11) = some false) :
    ∃ fd : FuncData, (∀ (s : Shared) (v : Value), BindsTo s fd ⟨[v], []⟩ [("_law_script", v)]) ∧ ∀ base : Heap, K.In base → base.Ns mainGlobals mg → FnOk l.prog w K mg base CX0 25 fa fd ["_law_script"] (spLaw K) := by
  have e := hfa.symm.trans (PySem.W.mg_of X G aZ)
  cases e
  have B : TxB mg := ⟨PySem.W.mg_none_of X G y_isinstance, PySem.W.mg_none_of X G y_int, PySem.W.mg_none_of X G y_bool, PySem.W.mg_none_of X G y_str, PySem.W.mg_none_of X G y_len, PySem.W.mg_none_of X G y_range, PySem.W.mg_none_of X G y_tuple, PySem.W.mg_none_of X G y_list, PySem.W.mg_none_of X G y_any, PySem.W.mg_none_of X G y_all, PySem.W.mg_none_of X G y_max, PySem.W.mg_none_of X G y_sorted⟩
  have T : TxK K (kmk CR CM CC) := ⟨fun k => match k with | .read => ⟨pgR, hdR, poR, saR⟩ | .mean => ⟨pgM, hdM, poM, saM⟩ | .change => ⟨pgC, hdC, poC, saC⟩, fun k => match k with | .read => nFR | .mean => nFM | .change => nFC, fun k => match k with | .read => nLR | .mean => nLM | .change => nLC⟩
  have mgC : ∀ k, mg (kdN k) = some (.ref (kmk CR CM CC k)) := fun k => match k with | .read => PySem.W.mg_of X G nR | .mean => PySem.W.mg_of X G nM | .change => PySem.W.mg_of X G nC
  have S : TxS K mg := ⟨⟨aS, b0, b1, b2, PySem.W.mg_of X G nS, modT3 lS, modT2 lS0, modT2 lS1, modT2 lS2⟩⟩
  have R : TxR K mg := ⟨⟨aRk, PySem.W.mg_of X G nRk, tab_mk lRk qRk tRk⟩⟩
  have L : TxL K (kmk CR CM CC) CL := ⟨⟨pgL, hdL, poL, saL⟩, nP, fun k e => match k with | .read => (by have e' : CR = CL := e; rw [← e', akR] at nKL; cases nKL) | .mean => (by have e' : CM = CL := e; rw [← e', akM] at nKL; cases nKL) | .change => (by have e' : CC = CL := e; rw [← e', akC] at nKL; cases nKL)⟩
  have FkR := fun_mk (st := m_Read_kind) lkR ckR ekR
  have bkR := FkR.binds (ps := ["self"]) fun _ _ _ _ _ _ us hl => match us, hl with | [_], _ => rfl
  have FkM := fun_mk (st := m_Mean_kind) lkM ckM ekM
  have bkM := FkM.binds (ps := ["self"]) fun _ _ _ _ _ _ us hl => match us, hl with | [_], _ => rfl
  have FkC := fun_mk (st := m_Change_kind) lkC ckC ekC
  have bkC := FkC.binds (ps := ["self"]) fun _ _ _ _ _ _ us hl => match us, hl with | [_], _ => rfl
  have Fi := fun_mk (st := m_Lock_init) li ci ei
  have bi := Fi.binds (ps := ["self", "first", "last"]) fun _ _ _ _ _ _ us hl => match us, hl with | [_, _, _], _ => rfl
  have Ft := fun_mk (st := m_Lock_told) lt ct et
  have bt := Ft.binds (ps := ["self"]) fun _ _ _ _ _ _ us hl => match us, hl with | [_], _ => rfl
  have Fb := fun_mk (st := m_Lock_beside) lb cb eb
  have bb := Fb.binds (ps := ["self", "other"]) fun _ _ _ _ _ _ us hl => match us, hl with | [_, _], _ => rfl
  have Fv := fun_mk (st := m_Lock_covers) lv cv ev
  have bv := Fv.binds (ps := ["self", "other"]) fun _ _ _ _ _ _ us hl => match us, hl with | [_, _], _ => rfl
  have Fzinit := fun_mk (st := m_Locks_init) lzinit czinit ezinit
  have bzinit := Fzinit.binds (ps := ["self"]) fun _ _ _ _ _ _ us hl => match us, hl with | [_], _ => rfl
  have Fzhinderer := fun_mk (st := m_Locks_hinderer) lzhinderer czhinderer ezhinderer
  have bzhinderer := Fzhinderer.binds (ps := ["self", "place"]) fun _ _ _ _ _ _ us hl => match us, hl with | [_, _], _ => rfl
  have Fzheldpairs := fun_mk (st := m_Locks_held_pairs) lzheldpairs czheldpairs ezheldpairs
  have bzheldpairs := Fzheldpairs.binds (ps := ["self"]) fun _ _ _ _ _ _ us hl => match us, hl with | [_], _ => rfl
  have Fzwaitingpairs := fun_mk (st := m_Locks_waiting_pairs) lzwaitingpairs czwaitingpairs ezwaitingpairs
  have bzwaitingpairs := Fzwaitingpairs.binds (ps := ["self"]) fun _ _ _ _ _ _ us hl => match us, hl with | [_], _ => rfl
  have Fzheld := fun_mk (st := m_Locks_held) lzheld czheld ezheld
  have bzheld := Fzheld.binds (ps := ["self"]) fun _ _ _ _ _ _ us hl => match us, hl with | [_], _ => rfl
  have Fzwaiting := fun_mk (st := m_Locks_waiting) lzwaiting czwaiting ezwaiting
  have bzwaiting := Fzwaiting.binds (ps := ["self"]) fun _ _ _ _ _ _ us hl => match us, hl with | [_], _ => rfl
  have Fzwaitingplace := fun_mk (st := m_Locks_waiting_place) lzwaitingplace czwaitingplace ezwaitingplace
  have bzwaitingplace := Fzwaitingplace.binds (ps := ["self", "p"]) fun _ _ _ _ _ _ us hl => match us, hl with | [_, _], _ => rfl
  have Fzask := fun_mk (st := m_Locks_ask) lzask czask ezask
  have bzask := Fzask.binds (ps := ["self", "p", "lock"]) fun _ _ _ _ _ _ us hl => match us, hl with | [_, _, _], _ => rfl
  have Fzfree := fun_mk (st := m_Locks_free) lzfree czfree ezfree
  have bzfree := Fzfree.binds (ps := ["self", "p"]) fun _ _ _ _ _ _ us hl => match us, hl with | [_, _], _ => rfl
  have FA := fun_mk (st := s__law_cell_at) lA cA eA
  have bA := FA.binds (ps := ["_law_script", "_law_k"]) fun _ _ _ _ _ _ us hl => match us, hl with | [_, _], _ => rfl
  have mA : mg "_law_cell_at" = some (.ref fA) := PySem.W.mg_of X G aA
  have FO := fun_mk (st := s_lock_of) lO cO eO
  have bO := FO.binds (ps := ["told"]) fun _ _ _ _ _ _ us hl => match us, hl with | [_], _ => rfl
  have mO : mg "lock_of" = some (.ref fO) := PySem.W.mg_of X G aO
  have FT_ := fun_mk (st := s__law_told) lT_ cT_ eT_
  have bT_ := FT_.binds (ps := ["_law_cell", "_law_base"]) fun _ _ _ _ _ _ us hl => match us, hl with | [_, _], _ => rfl
  have mT_ : mg "_law_told" = some (.ref fT_) := PySem.W.mg_of X G aT_
  have FN := fun_mk (st := s__law_names) lN cN eN
  have bN := FN.binds (ps := ["_law_cell"]) fun _ _ _ _ _ _ us hl => match us, hl with | [_], _ => rfl
  have mN : mg "_law_names" = some (.ref fN) := PySem.W.mg_of X G aN
  have FD := fun_mk (st := s__law_beside) lD cD eD
  have bD := FD.binds (ps := ["_law_one", "_law_other"]) fun _ _ _ _ _ _ us hl => match us, hl with | [_, _], _ => rfl
  have mD : mg "_law_beside" = some (.ref fD) := PySem.W.mg_of X G aD
  have FX_ := fun_mk (st := s__law_hindered) lX_ cX_ eX_
  have bX_ := FX_.binds (ps := ["_law_held", "_law_waiting"]) fun _ _ _ _ _ _ us hl => match us, hl with | [_, _], _ => rfl
  have mX_ : mg "_law_hindered" = some (.ref fX_) := PySem.W.mg_of X G aX_
  have FR_ := fun_mk (st := s__law_refused) lR_ cR_ eR_
  have bR_ := FR_.binds (ps := ["_law_locks", "_law_p", "_law_told_here"]) fun _ _ _ _ _ _ us hl => match us, hl with | [_, _, _], _ => rfl
  have mR_ : mg "_law_refused" = some (.ref fR_) := PySem.W.mg_of X G aR_
  have FY_ := fun_mk (st := s__law_asked) lY_ cY_ eY_
  have bY_ := FY_.binds (ps := ["_law_locks", "_law_p", "_law_told_here"]) fun _ _ _ _ _ _ us hl => match us, hl with | [_, _, _], _ => rfl
  have mY_ : mg "_law_asked" = some (.ref fY_) := PySem.W.mg_of X G aY_
  have FZ := fun_mk (st := s_law) lZ cZ eZ
  refine ⟨PySem.W.fnOf "law" "law" (defArgs s_law) (defBody s_law) (defScope s_law) .none kVZ dcZ pmZ anZ cdZ ctZ, fun s v => .of_eq rfl, fun base _ _ => ?_⟩
  have GK : ∀ k, GM l.prog w K mg base CX0 1 (kmk CR CM CC k) "kind" ["self"] (spKind k) := fun k => match k with | .read => ⟨fkR, _, ok_rk FkR, bkR, ⟨akR, jkR, ekR⟩⟩ | .mean => ⟨fkM, _, ok_mk FkM, bkM, ⟨akM, jkM, ekM⟩⟩ | .change => ⟨fkC, _, ok_ck FkC, bkC, ⟨akC, jkC, ekC⟩⟩
  have Mk : ∀ k, Mk K (kmk CR CM CC k) fi := fun k => match k with | .read => ⟨mkR, aiR, ji, kcR⟩ | .mean => ⟨mkM, aiM, ji, kcM⟩ | .change => ⟨mkC, aiC, ji, kcC⟩
  have Gt : ∀ k, GM l.prog w K mg base CX0 2 (kmk CR CM CC k) "told" ["self"] (spTold (kmk CR CM CC)) := fun k => match k with | .read => ⟨ft, _, ok_told Ft T GK, bt, ⟨atR, jt, et⟩⟩ | .mean => ⟨ft, _, ok_told Ft T GK, bt, ⟨atM, jt, et⟩⟩ | .change => ⟨ft, _, ok_told Ft T GK, bt, ⟨atC, jt, et⟩⟩
  have Gb : ∀ k, GM l.prog w K mg base CX0 2 (kmk CR CM CC k) "beside" ["self", "other"] (spBeside (kmk CR CM CC)) := fun k => match k with | .read => ⟨fb, _, ok_beside Fb T S GK, bb, ⟨abR, jb, eb⟩⟩ | .mean => ⟨fb, _, ok_beside Fb T S GK, bb, ⟨abM, jb, eb⟩⟩ | .change => ⟨fb, _, ok_beside Fb T S GK, bb, ⟨abC, jb, eb⟩⟩
  have Gv : ∀ k, GM l.prog w K mg base CX0 2 (kmk CR CM CC k) "covers" ["self", "other"] (spCovers (kmk CR CM CC)) := fun k => match k with | .read => ⟨fv, _, ok_covers Fv T R GK, bv, ⟨avR, jv, ev⟩⟩ | .mean => ⟨fv, _, ok_covers Fv T R GK, bv, ⟨avM, jv, ev⟩⟩ | .change => ⟨fv, _, ok_covers Fv T R GK, bv, ⟨avC, jv, ev⟩⟩
  have GA : GF l.prog w K mg base CX0 1 "_law_cell_at" ["_law_script", "_law_k"] (spCell K) := ⟨fA, _, ok_cell FA B, bA, eA, mA⟩
  have GI := ok_linit (P := l.prog) (w := w) (mg := mg) (base := base) Fi T
  have GO : GF l.prog w K mg base CX0 3 "lock_of" ["told"] (spLockOf (kmk CR CM CC) K) := ⟨fO, _, ok_lockof FO T mgC Mk GI bi, bO, eO, mO⟩
  have GT_ : GF l.prog w K mg base CX0 1 "_law_told" ["_law_cell", "_law_base"] (spLTold K) := ⟨fT_, _, ok_ltold FT_, bT_, eT_, mT_⟩
  have GN : GF l.prog w K mg base CX0 1 "_law_names" ["_law_cell"] (spNames K) := ⟨fN, _, ok_lnames FN, bN, eN, mN⟩
  have GD : GF l.prog w K mg base CX0 1 "_law_beside" ["_law_one", "_law_other"] (spLBeside K) := ⟨fD, _, ok_lbeside FD B, bD, eD, mD⟩
  have ML : L2.Mk K CL fzinit := ⟨mkL, azinit, jzinit, kcL⟩
  have mgL : mg "Locks" = some (.ref CL) := PySem.W.mg_of X G nL
  have GLI := ok_lsinit (P := l.prog) (w := w) (mg := mg) (base := base) Fzinit L
  have Gzhinderer : GM l.prog w K mg base CX0 3 CL "hinderer" ["self", "place"] (spHind (kmk CR CM CC) CL K) := ⟨fzhinderer, _, ok_hind Fzhinderer B T L Gb, bzhinderer, ⟨azhinderer, jzhinderer, ezhinderer⟩⟩
  have Gzheldpairs : GM l.prog w K mg base CX0 4 CL "held_pairs" ["self"] (spPairs (kmk CR CM CC) CL K heldL) := ⟨fzheldpairs, _, ok_heldp Fzheldpairs B L Gzhinderer, bzheldpairs, ⟨azheldpairs, jzheldpairs, ezheldpairs⟩⟩
  have Gzwaitingpairs : GM l.prog w K mg base CX0 4 CL "waiting_pairs" ["self"] (spPairs (kmk CR CM CC) CL K waitL) := ⟨fzwaitingpairs, _, ok_waitp Fzwaitingpairs B L Gzhinderer, bzwaitingpairs, ⟨azwaitingpairs, jzwaitingpairs, ezwaitingpairs⟩⟩
  have Gzheld : GM l.prog w K mg base CX0 5 CL "held" ["self"] (spTolds (kmk CR CM CC) CL K heldL) := ⟨fzheld, _, ok_held Fzheld T L Gzheldpairs Gt, bzheld, ⟨azheld, jzheld, ezheld⟩⟩
  have Gzwaiting : GM l.prog w K mg base CX0 5 CL "waiting" ["self"] (spTolds (kmk CR CM CC) CL K waitL) := ⟨fzwaiting, _, ok_waiting Fzwaiting T L Gzwaitingpairs Gt, bzwaiting, ⟨azwaiting, jzwaiting, ezwaiting⟩⟩
  have Gzwaitingplace : GM l.prog w K mg base CX0 4 CL "waiting_place" ["self", "p"] (spWPlace (kmk CR CM CC) CL K) := ⟨fzwaitingplace, _, ok_wplace Fzwaitingplace B L Gzhinderer, bzwaitingplace, ⟨azwaitingplace, jzwaitingplace, ezwaitingplace⟩⟩
  have Gzask : GM l.prog w K mg base CX0 21 CL "ask" ["self", "p", "lock"] (spAsk (kmk CR CM CC) CL K) := ⟨fzask, _, ok_ask Fzask B T L Gv Gzhinderer Gzwaitingplace, bzask, ⟨azask, jzask, ezask⟩⟩
  have Gzfree : GM l.prog w K mg base CX0 5 CL "free" ["self", "p"] (spFree (kmk CR CM CC) CL K) := ⟨fzfree, _, ok_free Fzfree L Gzwaitingpairs, bzfree, ⟨azfree, jzfree, ezfree⟩⟩
  have Y : TxE K mg CWt CPe E1 E2 E3 E4 E5 E6 E7 E8 E9 E10 E11 := ⟨PySem.W.mg_of X G zW, zxW, PySem.W.mg_of X G zP, zxP, zsub, PySem.W.mg_none_of X G zv, zkV, (by unfold PySem.W.kitOne; rw [if_pos (by simp)]), ⟨zA, zB, zC, zD, zE, zF, zG⟩, PySem.W.mg_of X G ze1, PySem.W.mg_of X G ze2, PySem.W.mg_of X G ze3, PySem.W.mg_of X G ze4, PySem.W.mg_of X G ze5, PySem.W.mg_of X G ze6, PySem.W.mg_of X G ze7, PySem.W.mg_of X G ze8, PySem.W.mg_of X G ze9, PySem.W.mg_of X G ze10, PySem.W.mg_of X G ze11, (by simp only [List.map_cons, List.map_nil, PySem.W.kitAny, zk1, zk2, zk3, zk4, zk5, zk6, zk7]), (by simp only [List.map_cons, List.map_nil, PySem.W.kitAny, zk8, zk9, zk10, zk11])⟩
  have GAE := ok_askE (P := l.prog) (w := w) (base := base) Fzask L Y.mW Y.xW Gzwaitingplace
  have HB := fun (b : Heap) (_ : Mod K mg b) => soft (P := l.prog) (w := w) (base := b) B T L S FkR bkR ⟨akR, jkR, ekR⟩ FkM bkM ⟨akM, jkM, ekM⟩ FkC bkC ⟨akC, jkC, ekC⟩ Ft bt (fun k => match k with | .read => ⟨atR, jt, et⟩ | .mean => ⟨atM, jt, et⟩ | .change => ⟨atC, jt, et⟩) Fb bb (fun k => match k with | .read => ⟨abR, jb, eb⟩ | .mean => ⟨abM, jb, eb⟩ | .change => ⟨abC, jb, eb⟩) Fzhinderer bzhinderer ⟨azhinderer, jzhinderer, ezhinderer⟩ Fzheldpairs bzheldpairs ⟨azheldpairs, jzheldpairs, ezheldpairs⟩ Fzwaitingpairs bzwaitingpairs ⟨azwaitingpairs, jzwaitingpairs, ezwaitingpairs⟩ Fzheld Fzwaiting
  have GX_ : GF l.prog w K mg base CX0 21 "_law_hindered" ["_law_held", "_law_waiting"] (spHindered K) := ⟨fX_, _, ok_hindered FX_ B GD, bX_, eX_, mX_⟩
  have GR_ : GF l.prog w K mg base CX0 23 "_law_refused" ["_law_locks", "_law_p", "_law_told_here"] (spRefused (kmk CR CM CC) CL K) := ⟨fR_, _, ok_refused FR_ B L Y GO Gzheld Gzwaiting ⟨azask, jzask, ezask⟩ GAE bzask ⟨azheld, jzheld, ezheld⟩ (fun b m => (HB b m).1) bzheld ⟨azwaiting, jzwaiting, ezwaiting⟩ (fun b m => (HB b m).2) bzwaiting, bR_, eR_, mR_⟩
  have GY_ : GF l.prog w K mg base CX0 24 "_law_asked" ["_law_locks", "_law_p", "_law_told_here"] (spAsked (kmk CR CM CC) CL K) := ⟨fY_, _, ok_asked FY_ B L GO Gzwaiting Gzask GR_, bY_, eY_, mY_⟩
  exact ok_law FZ B T L ML mgL GLI bzinit GA GT_ GN GX_ GY_ Gzheld Gzwaiting Gzfree
theorem walk {l : PySem.W.OpenLaw} {q : Program} {loose : List Str} {XP : (Str → Option Value) → Heap → Prop} {YP : World → Heap → Prop} {d : DefRec} {K : Params → PySem.W.Frag} (hn : l.most = some 63) (hdf : d.params.defaults = [])
    (hY : ∀ (w : World) (h : Heap), YP w h → (K w.params).In h)
    (F : ∀ (w : World) (mg : Str → Option Value) (fa : Addr) (h : Heap), (K w.params).In h → h.Ns mainGlobals mg → mg d.name = some (.ref fa) →
      ∃ fd : FuncData, (∀ (s : Shared) (u : Value), BindsTo s fd ⟨[u], []⟩ [("_law_script", u)]) ∧ ∀ base : Heap, (K w.params).In base → base.Ns mainGlobals mg → FnOk l.prog w (K w.params) mg base CX0 25 fa fd ["_law_script"] (spLaw (K w.params))) :
    PySem.W.WalkO q loose XP YP l.row.toRowW d [] (fun f vs => PySem.call f vs) :=
  L2.walk_of (n := 63) (k := 25) (x := "_law_script") (CX := fun _ => CX0) (sp := fun w => spLaw (K w.params)) hn (by decide) hdf ⟨fun _ => rfl, by decide, by decide⟩ hY F (fun _ _ a ns hl _ hS => ⟨a, ns, rfl, hS, hl, fun _ => rfl⟩) fun _ _ _ _ _ z => z
end K15
open PySem PySem.W PyProof.Rows
set_option maxRecDepth 100000 in
set_option maxHeartbeats 0 in
theorem PySem.Challenge.cw_pactroom_k15_who_waits_is_hindered_holds : PySem.Challenge.rw_pactroom_k15_who_waits_is_hindered.Holds := by
  w_on; o_law
  refine holds_open (q := Q.qv) (loose := Q.lo) (Xt := Q.Xt) (XP := XL Q.qv Q.lvv) (Yf := Hook.obs (kHook Q.Kf Q.Ka Q.ke)) (Ya := Hook.val (kHook Q.Kf Q.Ka Q.ke)) (YP := Hook.says (kHook Q.Kf Q.Ka Q.ke)) (N := 9886) Q.left (Hook.of (kHook Q.Kf Q.Ka Q.ke)) (Hook.keeps (kHook Q.Kf Q.Ka Q.ke)) (fun s e => xl_of s (Bool.and_eq_true_iff.mp e).1) XL.keeps (by rfl) (by rfl) (by rfl) (fun s e => recFacts_of (Bool.and_eq_true_iff.mp e).2) (by rfl) (by first | assumption | decide +kernel) (by decide +kernel) ⟨rfl, rfl, rfl, rfl, rfl, by decide +kernel⟩ ?hw ?hc
  (case hw => w_witness2)
  k_fill
  refine K15.walk (l := PySem.Challenge.rw_pactroom_k15_who_waits_is_hindered) rfl rfl (fun w h Y => PySem.W.kIn_of Y) ?F
  case F =>
    intro w mg fa h KX G hmg
    refine' K15.all_mk KX G hmg ?nR ?pgR ?hdR ?poR ?saR ?mkR ?kcR ?nFR ?nLR ?akR ?jkR ?lkR ?ckR ?ekR ?nM ?pgM ?hdM ?poM ?saM ?mkM ?kcM ?nFM ?nLM ?akM ?jkM ?lkM ?ckM ?ekM ?nC ?pgC ?hdC ?poC ?saC ?mkC ?kcC ?nFC ?nLC ?akC ?jkC ?lkC ?ckC ?ekC ?aiR ?aiM ?aiC ?ji ?li ?ci ?ei ?atR ?atM ?atC ?jt ?lt ?ct ?et ?abR ?abM ?abC ?jb ?lb ?cb ?eb ?avR ?avM ?avC ?jv ?lv ?cv ?ev ?nL ?pgL ?hdL ?poL ?saL ?mkL ?kcL ?nP ?nKL ?azinit ?jzinit ?lzinit ?czinit ?ezinit ?azhinderer ?jzhinderer ?lzhinderer ?czhinderer ?ezhinderer ?azheldpairs ?jzheldpairs ?lzheldpairs ?czheldpairs ?ezheldpairs ?azwaitingpairs ?jzwaitingpairs ?lzwaitingpairs ?czwaitingpairs ?ezwaitingpairs ?azheld ?jzheld ?lzheld ?czheld ?ezheld ?azwaiting ?jzwaiting ?lzwaiting ?czwaiting ?ezwaiting ?azwaitingplace ?jzwaitingplace ?lzwaitingplace ?czwaitingplace ?ezwaitingplace ?azask ?jzask ?lzask ?czask ?ezask ?azfree ?jzfree ?lzfree ?czfree ?ezfree ?aA ?lA ?cA ?eA ?aO ?lO ?cO ?eO ?aT_ ?lT_ ?cT_ ?eT_ ?aN ?lN ?cN ?eN ?aD ?lD ?cD ?eD ?aX_ ?lX_ ?cX_ ?eX_ ?aR_ ?lR_ ?cR_ ?eR_ ?aY_ ?lY_ ?cY_ ?eY_ ?aZ ?lZ ?cZ ?eZ ?y_isinstance ?y_int ?y_bool ?y_str ?y_len ?y_range ?y_tuple ?y_list ?y_any ?y_all ?y_max ?y_sorted ?nS ?lS ?lS0 ?lS1 ?lS2 ?nRk ?lRk ?qRk ?tRk ?zW ?zxW ?zP ?zxP ?zsub ?zv ?zkV ?zA ?zB ?zC ?zD ?zE ?zF ?zG ?ze1 ?zk1 ?ze2 ?zk2 ?ze3 ?zk3 ?ze4 ?zk4 ?ze5 ?zk5 ?ze6 ?zk6 ?ze7 ?zk7 ?ze8 ?zk8 ?ze9 ?zk9 ?ze10 ?zk10 ?ze11 ?zk11
    (case nR => k_is)
    (case pgR => k_is)
    (case hdR => k_is)
    (case poR => k_is)
    (case saR => k_is)
    (case mkR => k_is)
    (case kcR => k_is)
    (case nFR => k_is)
    (case nLR => k_is)
    (case akR => k_is)
    (case jkR => k_is)
    (case lkR => k_is)
    (case ckR => k_is)
    (case ekR => k_is)
    (case nM => k_is)
    (case pgM => k_is)
    (case hdM => k_is)
    (case poM => k_is)
    (case saM => k_is)
    (case mkM => k_is)
    (case kcM => k_is)
    (case nFM => k_is)
    (case nLM => k_is)
    (case akM => k_is)
    (case jkM => k_is)
    (case lkM => k_is)
    (case ckM => k_is)
    (case ekM => k_is)
    (case nC => k_is)
    (case pgC => k_is)
    (case hdC => k_is)
    (case poC => k_is)
    (case saC => k_is)
    (case mkC => k_is)
    (case kcC => k_is)
    (case nFC => k_is)
    (case nLC => k_is)
    (case akC => k_is)
    (case jkC => k_is)
    (case lkC => k_is)
    (case ckC => k_is)
    (case ekC => k_is)
    (case aiR => k_is)
    (case aiM => k_is)
    (case aiC => k_is)
    (case ji => k_is)
    (case li => k_is)
    (case ci => k_is)
    (case ei => k_is)
    (case atR => k_is)
    (case atM => k_is)
    (case atC => k_is)
    (case jt => k_is)
    (case lt => k_is)
    (case ct => k_is)
    (case et => k_is)
    (case abR => k_is)
    (case abM => k_is)
    (case abC => k_is)
    (case jb => k_is)
    (case lb => k_is)
    (case cb => k_is)
    (case eb => k_is)
    (case avR => k_is)
    (case avM => k_is)
    (case avC => k_is)
    (case jv => k_is)
    (case lv => k_is)
    (case cv => k_is)
    (case ev => k_is)
    (case nL => k_is)
    (case pgL => k_is)
    (case hdL => k_is)
    (case poL => k_is)
    (case saL => k_is)
    (case mkL => k_is)
    (case kcL => k_is)
    (case nP => k_is)
    (case nKL => k_is)
    (case azinit => k_is)
    (case jzinit => k_is)
    (case lzinit => k_is)
    (case czinit => k_is)
    (case ezinit => k_is)
    (case azhinderer => k_is)
    (case jzhinderer => k_is)
    (case lzhinderer => k_is)
    (case czhinderer => k_is)
    (case ezhinderer => k_is)
    (case azheldpairs => k_is)
    (case jzheldpairs => k_is)
    (case lzheldpairs => k_is)
    (case czheldpairs => k_is)
    (case ezheldpairs => k_is)
    (case azwaitingpairs => k_is)
    (case jzwaitingpairs => k_is)
    (case lzwaitingpairs => k_is)
    (case czwaitingpairs => k_is)
    (case ezwaitingpairs => k_is)
    (case azheld => k_is)
    (case jzheld => k_is)
    (case lzheld => k_is)
    (case czheld => k_is)
    (case ezheld => k_is)
    (case azwaiting => k_is)
    (case jzwaiting => k_is)
    (case lzwaiting => k_is)
    (case czwaiting => k_is)
    (case ezwaiting => k_is)
    (case azwaitingplace => k_is)
    (case jzwaitingplace => k_is)
    (case lzwaitingplace => k_is)
    (case czwaitingplace => k_is)
    (case ezwaitingplace => k_is)
    (case azask => k_is)
    (case jzask => k_is)
    (case lzask => k_is)
    (case czask => k_is)
    (case ezask => k_is)
    (case azfree => k_is)
    (case jzfree => k_is)
    (case lzfree => k_is)
    (case czfree => k_is)
    (case ezfree => k_is)
    (case aA => k_is)
    (case lA => k_is)
    (case cA => k_is)
    (case eA => k_is)
    (case aO => k_is)
    (case lO => k_is)
    (case cO => k_is)
    (case eO => k_is)
    (case aT_ => k_is)
    (case lT_ => k_is)
    (case cT_ => k_is)
    (case eT_ => k_is)
    (case aN => k_is)
    (case lN => k_is)
    (case cN => k_is)
    (case eN => k_is)
    (case aD => k_is)
    (case lD => k_is)
    (case cD => k_is)
    (case eD => k_is)
    (case aX_ => k_is)
    (case lX_ => k_is)
    (case cX_ => k_is)
    (case eX_ => k_is)
    (case aR_ => k_is)
    (case lR_ => k_is)
    (case cR_ => k_is)
    (case eR_ => k_is)
    (case aY_ => k_is)
    (case lY_ => k_is)
    (case cY_ => k_is)
    (case eY_ => k_is)
    (case aZ => k_is)
    (case lZ => k_is)
    (case cZ => k_is)
    (case eZ => k_is)
    (case y_isinstance => k_is)
    (case y_int => k_is)
    (case y_bool => k_is)
    (case y_str => k_is)
    (case y_len => k_is)
    (case y_range => k_is)
    (case y_tuple => k_is)
    (case y_list => k_is)
    (case y_any => k_is)
    (case y_all => k_is)
    (case y_max => k_is)
    (case y_sorted => k_is)
    (case nS => k_is)
    (case lS => k_is)
    (case lS0 => k_is)
    (case lS1 => k_is)
    (case lS2 => k_is)
    (case nRk => k_is)
    (case lRk => k_is)
    (case qRk => rfl)
    (case tRk => kernel_rfl)
    (case zW => k_is)
    (case zxW => k_exc)
    (case zP => k_is)
    (case zxP => k_exc)
    (case zsub => k_is)
    (case zv => k_is)
    (case zkV => kit_is)
    (case zA => k_is)
    (case zB => k_is)
    (case zC => k_is)
    (case zD => k_is)
    (case zE => k_is)
    (case zF => k_is)
    (case zG => k_is)
    (case ze1 => k_is)
    (case zk1 => kit_is)
    (case ze2 => k_is)
    (case zk2 => kit_is)
    (case ze3 => k_is)
    (case zk3 => kit_is)
    (case ze4 => k_is)
    (case zk4 => kit_is)
    (case ze5 => k_is)
    (case zk5 => kit_is)
    (case ze6 => k_is)
    (case zk6 => kit_is)
    (case ze7 => k_is)
    (case zk7 => kit_is)
    (case ze8 => k_is)
    (case zk8 => kit_is)
    (case ze9 => k_is)
    (case zk9 => kit_is)
    (case ze10 => k_is)
    (case zk10 => kit_is)
    (case ze11 => k_is)
    (case zk11 => kit_is)
#print axioms PySem.Challenge.cw_pactroom_k15_who_waits_is_hindered_holds

