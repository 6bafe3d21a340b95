import PyProof.Rows.All
import Wide.All
import OpenK.AllK
import Wide.FinOn
import Lean
import PyProof.EqAt
import PyProof.EqKinds
import PyProof.TupleCall
import PyProof.StationsW
import PyProof.ExcClass2
import PyProof.InstStoreFacts
import PySem.Challenge.RW_pactroom_k25_no_pact
set_option Elab.async false
set_option linter.all false
set_option maxRecDepth 100000
namespace L2
open PySem PySem.Spec PyProof.Rows
def NoCtx (h : Heap) (x : Addr) : Prop := ∃ ox fs, h.get? x = some ox ∧ ox.data = .fields fs ∧ fs[2]? = some .none
theorem NoCtx.keeps {h h' : Heap} {x : Addr} (n : NoCtx h x) (k : ∀ o, h.get? x = some o → h'.get? x = some o) : NoCtx h' x := by
  obtain ⟨ox, fs, e, d, z⟩ := n
  exact ⟨ox, fs, k _ e, d, z⟩
def CtxV (h : Heap) : Nat → Value → Prop
  | 0, v => v = .none
  | n + 1, v => v = .none ∨ ∃ c oc fs v', v = .ref c ∧ h.get? c = some oc ∧ oc.data = .fields fs ∧ fs[2]? = some v' ∧ CtxV h n v'
def CtxOf (h : Heap) (x : Addr) : Prop := ∃ ox fs v, h.get? x = some ox ∧ ox.data = .fields fs ∧ fs[2]? = some v ∧ CtxV h 2 v
theorem CtxV.keeps {h h' : Heap} : ∀ {n : Nat} {v : Value}, CtxV h n v → (∀ b o fs v, h.get? b = some o → o.data = .fields fs → fs[2]? = some v → (v = .none ∨ ∃ c, v = .ref c) → h'.get? b = some o) → CtxV h' n v
  | 0, _, x, _ => x
  | _ + 1, _, .inl x, _ => .inl x
  | n + 1, _, .inr ⟨c, oc, fs, v', e, ec, d, z, r⟩, k => .inr ⟨c, oc, fs, v', e, k c oc fs v' ec d z (by
      cases n with
      | zero => exact .inl r
      | succ n => rcases r with r | ⟨c, _, _, _, r, _⟩
                  · exact .inl r
                  · exact .inr ⟨c, r⟩), d, z, r.keeps k⟩
theorem CtxV.kind {h : Heap} {n : Nat} {v : Value} (x : CtxV h n v) : v = .none ∨ ∃ c, v = .ref c := by
  cases n with
  | zero => exact .inl x
  | succ n => rcases x with r | ⟨c, _, _, _, r, _⟩
              · exact .inl r
              · exact .inr ⟨c, r⟩
theorem CtxOf.keepsF {h h' : Heap} {x : Addr} (n : CtxOf h x) (k : ∀ b o fs v, h.get? b = some o → o.data = .fields fs → fs[2]? = some v → (v = .none ∨ ∃ c, v = .ref c) → h'.get? b = some o) : CtxOf h' x := by
  obtain ⟨ox, fs, v, e, d, z, c⟩ := n
  exact ⟨ox, fs, v, k _ _ _ _ e d z c.kind, d, z, c.keeps k⟩
def QtH (A : Around) (h : Heap) : Prop := A.handled = none ∨ ∃ x, A.handled = some (.ref x) ∧ CtxOf h x
theorem QtH.keepsF {A : Around} {h h' : Heap} (q : QtH A h) (k : ∀ b o fs v, h.get? b = some o → o.data = .fields fs → fs[2]? = some v → (v = .none ∨ ∃ c, v = .ref c) → h'.get? b = some o) : QtH A h' :=
  q.imp id fun ⟨x, e, n⟩ => ⟨x, e, n.keepsF k⟩
theorem QtH.keeps {A : Around} {h h' : Heap} (q : QtH A h) (k : ∀ b o, h.get? b = some o → h'.get? b = some o) : QtH A h' := q.keepsF fun b o _ _ e _ _ _ => k b o e
section
variable {prog : Program} {w : World} {A : Around} {E : Value → Shared → Prop} {s : Shared}
theorem unchain_end {e sl : Value} {tg : Bool} {o : Addr} {oo : Obj} {fs : Array Value} {R : Result → Shared → Prop} (ho : s.heap.get? o = some oo) (hd : oo.data = .fields fs) (hz : fs[2]? = some .none) (q : R (.ok (.ret .none)) s) :
    codeAny (model prog w) A (.builtin "proto.unchain" ⟨[e, .ref o, sl, .bool tg], []⟩) R s := by
  refine codeAny_builtin (entryFor_of_tree (b := Builtin.«proto.unchain») (by kernel_rfl)) ?_
  show wpAny _ _ (field (.ref o) 2 >>= _) _ _ s
  refine wpAny_bind (wpAny_field ho hd hz ?_)
  exact wpAny_pure q
theorem unchain_step {e c o : Addr} {sl : Value} {tg : Bool} {oo : Obj} {fs : Array Value} {R : Result → Shared → Prop} (ho : s.heap.get? o = some oo) (hd : oo.data = .fields fs) (hz : fs[2]? = some (.ref c)) (ne : c ≠ e)
    (hsl : tg = true → ∃ so os gs v, sl = .ref so ∧ s.heap.get? so = some os ∧ os.data = .fields gs ∧ gs[2]? = some v) (q : R (.ok (.ret .none)) s)
    (next : ∀ sl', (tg = false → sl' = sl) → codeAny (model prog w) A (.builtin "proto.unchain" ⟨[.ref e, .ref c, sl', .bool !tg], []⟩) R s) :
    codeAny (model prog w) A (.builtin "proto.unchain" ⟨[.ref e, .ref o, sl, .bool tg], []⟩) R s := by
  refine codeAny_builtin (entryFor_of_tree (b := Builtin.«proto.unchain») (by kernel_rfl)) ?_
  show wpAny _ _ (field (.ref o) 2 >>= _) _ _ s
  refine wpAny_bind (wpAny_field ho hd hz ?_)
  rw [if_neg (show ¬ ((Value.ref c == Value.none) = true) from fun z => by cases z)]
  rw [if_neg (show ¬ ((Value.ref c == Value.ref e) = true) from by simp; exact ne)]
  split
  · exact wpAny_bind (wpAny_rule (wpAny_pure q))
  cases tg with
  | false =>
    refine wpAny_bind (wpAny_pure (wpAny_pure ⟨by kernel_rfl, next _ fun _ => rfl⟩))
  | true =>
    obtain ⟨so, os, gs, v, rfl, h1, h2, h3⟩ := hsl rfl
    refine wpAny_bind (wpAny_field h1 h2 h3 (wpAny_pure ⟨by kernel_rfl, next _ fun z => by cases z⟩))
theorem unchain_ctx {h0 : Heap} {x e : Addr} {Q : Value → Shared → Prop} (n : CtxOf h0 x) (kp : ∀ b o, h0.get? b = some o → s.heap.get? b = some o) (fr : h0.get? e = none) (q : Q .none s) :
    wpAny (model prog w) A (runValue (.builtin "proto.unchain" ⟨[.ref e, .ref x, .ref x, .bool false], []⟩)) Q E s := by
  obtain ⟨ox, fs, v, hx, hd, h2, c⟩ := n
  have nf : ∀ {c : Addr} {o : Obj}, h0.get? c = some o → c ≠ e := fun q z => by rw [z, fr] at q; cases q
  refine wpAny_runValue ?_
  rcases c with rfl | ⟨c1, o1, f1, v1, rfl, e1, d1, z1, c⟩
  · exact unchain_end (kp _ _ hx) hd h2 q
  refine unchain_step (kp _ _ hx) hd h2 (nf e1) (fun z => by cases z) q fun sl hsl => ?_
  obtain rfl := hsl rfl
  rcases c with rfl | ⟨c2, o2, f2, v2, rfl, e2, d2, z2, c⟩
  · exact unchain_end (kp _ _ e1) d1 z1 q
  refine unchain_step (kp _ _ e1) d1 z1 (nf e2) (fun _ => ⟨x, ox, fs, _, rfl, kp _ _ hx, hd, h2⟩) q fun sl _ => ?_
  have c : v2 = .none := c
  subst c
  exact unchain_end (kp _ _ e2) d2 z2 q
theorem stop_raise {α : Type} {Q : α → Shared → Prop} (hq : QtH A s.heap)
    (h : ∀ h' e, (∀ b o, s.heap.get? b = some o → h'.get? b = some o) → (∃ oe, h'.get? e = some oe ∧ oe.cls = .type "StopIteration") → E (.ref e) { s with heap := h' }) :
    wpAny (model prog w) A (newExc (.type "StopIteration") [] >>= fun e => (raiseNew e : Sem α)) Q E s := by
  refine wpAny_bind ?_; simp only [newExc, newTuple]
  refine wpAny_bind (wpAny_newObj_type ?_ (by size_fits)); refine wpAny_bind (m := firstArgMember _ _) (wpAny_of_eq (a := Value.none) (by first | rfl | (simp only [firstArgMember]; rfl)) ?_)
  refine wpAny_newObj_type ?_ (by size_fits); simp only [raiseNew]
  refine wpAny_bind (wpAny_handled ?_)
  have kp : ∀ (u v : Obj) b o, s.heap.get? b = some o → ((s.heap.push u).push v).get? b = some o := fun u v b o e => Heap.get?_push_of_some _ (Heap.get?_push_of_some _ e)
  rcases hq with hh | ⟨x, hh, n⟩
  · rw [hh]; exact wpAny_bind (wpAny_pure (wpAny_throw (h _ _ (kp _ _) ⟨_, Heap.get?_push_size _ rfl, rfl⟩)))
  · rw [hh]
    have xl : x < s.heap.objs.size := by
      obtain ⟨ox, _, _, e, _⟩ := id n
      exact Heap.lt_size e
    dsimp only
    rw [if_pos (by simp; exact Nat.ne_of_lt (Nat.lt_succ_of_lt xl))]
    refine wpAny_bind (wpAny_holding (unchain_ctx n (kp _ _) (by
      cases z : s.heap.get? (s.heap.push _).objs.size with
      | none => rfl
      | some o => exact absurd (Heap.lt_size z) (by rw [Heap.size_push]; exact Nat.not_lt.mpr (Nat.le_succ _))) ?_))
    refine wpAny_bind ?_
    simp only [updateField]
    refine wpAny_bind (wpAny_load (Heap.get?_push_size _ rfl) ?_)
    dsimp only
    rw [if_pos (by simp; exact Nat.lt_of_lt_of_le (show 2 < 6 by decide) (Nat.le_add_right _ _))]
    refine wpAny_update (Heap.get?_push_size _ rfl) (wpAny_throw (h _ _ (fun b o eb => ?_) ⟨_, Heap.get?_update_self _ (Heap.get?_push_size _ rfl) rfl, rfl⟩))
    have hb := Heap.lt_size eb
    rw [Heap.get?_update_other _ _ (by rw [Heap.size_push]; exact Nat.ne_of_gt (Nat.lt_succ_of_lt hb))]
    exact kp _ _ b o eb
theorem list_endQ {it l : Addr} {i : Nat} {items : Array Value} {Q : Option Value → Shared → Prop} (hq : QtH A s.heap) (hit : s.heap.IsListIter it l i) (hl : s.heap.IsList l items) (hx : items[i]? = none)
    (h : ∀ h', Heap.ExtBut it s.heap h' → Q none { s with heap := h' }) : wpAny (model prog w) A (pyNext (.ref it)) Q E s := by
  obtain ⟨oi, ei, ci, di⟩ := id hit
  obtain ⟨ol, el, _, nl, dl⟩ := hl
  unfold pyNext; refine wpAny_bind (wpAny_attempt (wpAny_callSpecial?_slot (name := Str.ofString "__next__") hit.typeIs slot_listiter_next (wpAny_call_entry slot_listiter_next hit.typeIs entry_listiter_next ?_ (args_listiter_next _))))
  show wpAny _ _ (field (.ref it) 0 >>= _) _ _ s; refine wpAny_bind (wpAny_field ei di (x := .ref l) rfl ?_)
  show wpAny _ _ (if (Value.ref l == Value.none) = true then _ else _) _ _ s; rw [if_neg (show ¬ ((Value.ref l == Value.none) = true) from fun z => by cases z)]
  show wpAny _ _ (field (.ref it) 1 >>= _) _ _ s; refine wpAny_bind (wpAny_field ei di (x := .int i 0) rfl ?_)
  show wpAny _ _ (seqItems? (.ref l) >>= _) _ _ s; refine wpAny_bind (wpAny_seqItems el dl ?_)
  simp only [Int.toNat_natCast, hx]; refine wpAny_bind (wpAny_rule (wpAny_bind (wpAny_setField ei di (by simp) ?_)))
  have kb : Heap.ExtBut it s.heap (s.heap.update it (Obj.mapFields fun a => a.setIfInBounds 0 Value.none)) := (Heap.SameBut.update ..).extBut
  refine stop_raise (s := { s with heap := s.heap.update it (Obj.mapFields fun a => a.setIfInBounds 0 Value.none) }) ?_ fun h' e kp ⟨oe, eo, ec⟩ => ?_
  · refine hq.keepsF fun b o fs v eb db zb _ => ?_
    rw [Heap.get?_update_other _ _ fun z => ?_]
    · exact eb
    · rw [← z, ei] at eb
      cases eb
      rw [di] at db
      cases db
      cases zb
  · refine wpAny_bind (wpAny_isInstance (T := "StopIteration") (b := true) ⟨_, eo, ec⟩ isSubtype_stop ?_)
    exact wpAny_pure (h h' fun b o nb eb => kp b o (kb b o nb eb))
theorem tuple_endQ {it l : Addr} {i : Nat} {items : Array Value} {Q : Option Value → Shared → Prop} (hq : QtH A s.heap) (hit : s.heap.IsTupleIter it l i) (hl : s.heap.IsTuple l items) (hx : items[i]? = none)
    (h : ∀ h', Heap.ExtBut it s.heap h' → Q none { s with heap := h' }) : wpAny (model prog w) A (pyNext (.ref it)) Q E s := by
  obtain ⟨oi, ei, ci, di⟩ := id hit
  obtain ⟨ol, el, _, nl, dl⟩ := hl
  unfold pyNext; refine wpAny_bind (wpAny_attempt (wpAny_callSpecial?_slot (name := Str.ofString "__next__") hit.typeIs F.slot_tuple_iterator_next (wpAny_call_entry F.slot_tuple_iterator_next hit.typeIs F.entry_tuple_iterator_next ?_ (F.args_tuple_iterator_next_1 _))))
  show wpAny _ _ (field (.ref it) 0 >>= _) _ _ s; refine wpAny_bind (wpAny_field ei di (x := .ref l) rfl ?_)
  show wpAny _ _ (if (Value.ref l == Value.none) = true then _ else _) _ _ s; rw [if_neg (show ¬ ((Value.ref l == Value.none) = true) from fun z => by cases z)]
  show wpAny _ _ (field (.ref it) 1 >>= _) _ _ s; refine wpAny_bind (wpAny_field ei di (x := .int i 0) rfl ?_)
  show wpAny _ _ (seqItems? (.ref l) >>= _) _ _ s; refine wpAny_bind (wpAny_seqItems el dl ?_)
  simp only [Int.toNat_natCast, hx]; refine wpAny_bind (wpAny_rule (wpAny_bind (wpAny_setField ei di (by simp) ?_)))
  have kb : Heap.ExtBut it s.heap (s.heap.update it (Obj.mapFields fun a => a.setIfInBounds 0 Value.none)) := (Heap.SameBut.update ..).extBut
  refine stop_raise (s := { s with heap := s.heap.update it (Obj.mapFields fun a => a.setIfInBounds 0 Value.none) }) ?_ fun h' e kp ⟨oe, eo, ec⟩ => ?_
  · refine hq.keepsF fun b o fs v eb db zb _ => ?_
    rw [Heap.get?_update_other _ _ fun z => ?_]
    · exact eb
    · rw [← z, ei] at eb
      cases eb
      rw [di] at db
      cases db
      cases zb
  · refine wpAny_bind (wpAny_isInstance (T := "StopIteration") (b := true) ⟨_, eo, ec⟩ isSubtype_stop ?_)
    exact wpAny_pure (h h' fun b o nb eb => kp b o (kb b o nb eb))
theorem range_endQ {it : Addr} {x left step : Int} {Q : Option Value → Shared → Prop} (hq : QtH A s.heap) (hit : IsRangeIter s.heap it x left step) (hl : left ≤ 0)
    (h : ∀ h', Heap.ExtBut it s.heap h' → Q none { s with heap := h' }) : wpAny (model prog w) A (pyNext (.ref it)) Q E s := by
  have ty : s.TypeIs (.ref it) "range_iterator" := ⟨_, hit, rfl⟩
  unfold pyNext; refine wpAny_bind (wpAny_attempt (wpAny_callSpecial?_slot (name := Str.ofString "__next__") ty F.slot_range_iterator_next (wpAny_call_entry F.slot_range_iterator_next ty F.entry_range_iterator_next ?_ (F.args_range_iterator_next_1 _))))
  show wpAny _ _ (field (.ref it) 0 >>= _) _ _ s; refine wpAny_bind (wpAny_field hit rfl (x := rawInt x) rfl ?_)
  show wpAny _ _ (field (.ref it) 1 >>= _) _ _ s; refine wpAny_bind (wpAny_field hit rfl (x := rawInt left) rfl ?_)
  show wpAny _ _ (field (.ref it) 2 >>= _) _ _ s; refine wpAny_bind (wpAny_field hit rfl (x := rawInt step) rfl ?_)
  show wpAny _ _ (if left ≤ 0 then _ else _) _ _ s; rw [if_pos hl]
  refine wpAny_bind (wpAny_rule (wpAny_bind (stop_raise hq fun h' e kp ⟨oe, eo, ec⟩ => ?_)))
  refine wpAny_bind (wpAny_isInstance (T := "StopIteration") (b := true) ⟨_, eo, ec⟩ isSubtype_stop ?_)
  exact wpAny_pure (h h' fun b o _ eb => kp b o eb)
theorem ascii_endQ {it : Addr} {x : Str} {t : Tok} {i : Nat} {Q : Option Value → Shared → Prop} (hq : QtH A s.heap) (hit : s.heap.IsStrIter it "str_ascii_iterator" x t i) (hx : x.cps[i]? = none)
    (h : ∀ h', Heap.ExtBut it s.heap h' → Q none { s with heap := h' }) : wpAny (model prog w) A (pyNext (.ref it)) Q E s := by
  obtain ⟨oi, ei, ci, di⟩ := id hit
  unfold pyNext; refine wpAny_bind (wpAny_attempt (wpAny_callSpecial?_slot (name := Str.ofString "__next__") hit.typeIs F.slot_str_ascii_iterator_next (wpAny_call_entry F.slot_str_ascii_iterator_next hit.typeIs F.entry_str_ascii_iterator_next ?_ (F.args_str_ascii_iterator_next_1 _))))
  show wpAny _ _ (field (.ref it) 0 >>= _) _ _ s; refine wpAny_bind (wpAny_field ei di (x := .str x t) rfl ?_)
  show wpAny _ _ (field (.ref it) 1 >>= _) _ _ s; refine wpAny_bind (wpAny_field ei di (x := .int i 0) rfl ?_)
  simp only [Int.toNat_natCast, hx]; refine wpAny_bind (wpAny_rule (wpAny_bind (wpAny_setField ei di (by simp) (wpAny_bind (wpAny_letGo ?_)))))
  have kb : Heap.ExtBut it s.heap (s.heap.update it (Obj.mapFields fun a => a.setIfInBounds 0 Value.none)) := (Heap.SameBut.update ..).extBut
  refine stop_raise (s := { s with heap := s.heap.update it (Obj.mapFields fun a => a.setIfInBounds 0 Value.none) }) ?_ fun h' e kp ⟨oe, eo, ec⟩ => ?_
  · refine hq.keepsF fun b o fs v eb db zb _ => ?_
    rw [Heap.get?_update_other _ _ fun z => ?_]
    · exact eb
    · rw [← z, ei] at eb
      cases eb
      rw [di] at db
      cases db
      cases zb
  · refine wpAny_bind (wpAny_isInstance (T := "StopIteration") (b := true) ⟨_, eo, ec⟩ isSubtype_stop ?_)
    exact wpAny_pure (h h' fun b o nb eb => kp b o (kb b o nb eb))
theorem wide_endQ {it : Addr} {x : Str} {t : Tok} {i : Nat} {Q : Option Value → Shared → Prop} (hq : QtH A s.heap) (hit : s.heap.IsStrIter it "str_iterator" x t i) (hx : x.cps[i]? = none)
    (h : ∀ h', Heap.ExtBut it s.heap h' → Q none { s with heap := h' }) : wpAny (model prog w) A (pyNext (.ref it)) Q E s := by
  obtain ⟨oi, ei, ci, di⟩ := id hit
  unfold pyNext; refine wpAny_bind (wpAny_attempt (wpAny_callSpecial?_slot (name := Str.ofString "__next__") hit.typeIs F.slot_str_iterator_next (wpAny_call_entry F.slot_str_iterator_next hit.typeIs F.entry_str_iterator_next ?_ (F.args_str_iterator_next_1 _))))
  show wpAny _ _ (field (.ref it) 0 >>= _) _ _ s; refine wpAny_bind (wpAny_field ei di (x := .str x t) rfl ?_)
  show wpAny _ _ (field (.ref it) 1 >>= _) _ _ s; refine wpAny_bind (wpAny_field ei di (x := .int i 0) rfl ?_)
  simp only [Int.toNat_natCast, hx]; refine wpAny_bind (wpAny_rule (wpAny_bind (wpAny_setField ei di (by simp) (wpAny_bind (wpAny_letGo ?_)))))
  have kb : Heap.ExtBut it s.heap (s.heap.update it (Obj.mapFields fun a => a.setIfInBounds 0 Value.none)) := (Heap.SameBut.update ..).extBut
  refine stop_raise (s := { s with heap := s.heap.update it (Obj.mapFields fun a => a.setIfInBounds 0 Value.none) }) ?_ fun h' e kp ⟨oe, eo, ec⟩ => ?_
  · refine hq.keepsF fun b o fs v eb db zb _ => ?_
    rw [Heap.get?_update_other _ _ fun z => ?_]
    · exact eb
    · rw [← z, ei] at eb
      cases eb
      rw [di] at db
      cases db
      cases zb
  · refine wpAny_bind (wpAny_isInstance (T := "StopIteration") (b := true) ⟨_, eo, ec⟩ isSubtype_stop ?_)
    exact wpAny_pure (h h' fun b o nb eb => kp b o (kb b o nb eb))
end
end L2
namespace L2
open PySem PySem.Spec PyProof.Rows
abbrev Key := Sum Int Str
def keyIs : Key → Value → Bool
  | .inl k, v => Value.isInt k v
  | .inr x, v => Value.isStrOf x v
def keyH (w : World) : Key → Int
  | .inl k => hashInt k
  | .inr x => hashStr w x
theorem keyIs_shape : ∀ {k : Key} {v : Value}, keyIs k v = true → (∃ i t, k = Sum.inl i ∧ v = Value.int i t) ∨ (∃ x t, k = Sum.inr x ∧ v = Value.str x t)
  | .inl i, v, h => by
    obtain ⟨t, e⟩ := Value.isInt_shape (k := i) (v := v) h
    exact .inl ⟨i, t, rfl, e⟩
  | .inr x, v, h => by
    obtain ⟨t, e⟩ := Value.isStrOf_shape (x := x) (v := v) h
    exact .inr ⟨x, t, rfl, e⟩
theorem keyIs_int (i : Int) (t : Tok) : keyIs (.inl i) (.int i t) = true := by simp [keyIs, Value.isInt]
theorem keyIs_str (x : Str) (t : Tok) : keyIs (.inr x) (.str x t) = true := by simp [keyIs, Value.isStrOf]
theorem key_ll (a b : Int) : decide ((Sum.inl a : Key) = Sum.inl b) = (a == b) := by
  by_cases e : a = b
  · subst e; simp
  · have h : ¬ (Sum.inl a : Key) = Sum.inl b := fun q => e (Sum.inl.inj q)
    rw [decide_eq_false h]
    exact (beq_eq_false_iff_ne.mpr e).symm
theorem key_rr (a b : Str) : decide ((Sum.inr a : Key) = Sum.inr b) = decide (a = b) := by
  by_cases e : a = b
  · subst e; simp
  · have h : ¬ (Sum.inr a : Key) = Sum.inr b := fun q => e (Sum.inr.inj q)
    rw [decide_eq_false h, decide_eq_false e]
theorem key_lr (a : Int) (b : Str) : decide ((Sum.inl a : Key) = Sum.inr b) = false := decide_eq_false (fun q => nomatch q)
theorem key_rl (a : Str) (b : Int) : decide ((Sum.inr a : Key) = Sum.inl b) = false := decide_eq_false (fun q => nomatch q)
def mixKind (prog : Program) (w : World) : PySem.KeyKind prog w Key where
  is := keyIs
  hash := keyH w
  inj := fun v a b ha hb => by
    rcases keyIs_shape ha with ⟨i, t, rfl, rfl⟩ | ⟨x, t, rfl, rfl⟩
    · rcases keyIs_shape hb with ⟨j, u, rfl, e⟩ | ⟨y, u, rfl, e⟩
      · injection e with e1 _; rw [e1]
      · exact nomatch e
    · rcases keyIs_shape hb with ⟨j, u, rfl, e⟩ | ⟨y, u, rfl, e⟩
      · exact nomatch e
      · injection e with e1 _; rw [e1]
  byValue := fun k v h => by
    rcases keyIs_shape h with ⟨i, t, rfl, rfl⟩ | ⟨x, t, rfl, rfl⟩ <;> rfl
  pyHash := fun hv h => by
    rcases keyIs_shape hv with ⟨i, t, rfl, rfl⟩ | ⟨x, t, rfl, rfl⟩
    · exact wpAny_pyHash_int h
    · exact wpAny_pyHash_str h
  eqBool := fun hu hv h => by
    rcases keyIs_shape hu with ⟨i, t, rfl, rfl⟩ | ⟨x, t, rfl, rfl⟩
    · rcases keyIs_shape hv with ⟨j, u, rfl, rfl⟩ | ⟨y, u, rfl, rfl⟩
      · rw [key_ll] at h; exact wpAny_eqBool_int h
      · rw [key_lr] at h; exact SeqAt.EqAt.int_str i t y u _ _ _ _ h
    · rcases keyIs_shape hv with ⟨j, u, rfl, rfl⟩ | ⟨y, u, rfl, rfl⟩
      · rw [key_rl] at h; exact SeqAt.EqAt.str_int x t j u _ _ _ _ h
      · rw [key_rr] at h; exact wpAny_eqBool_str h
  «strs» := fun k x t v h => by
    rcases keyIs_shape h with ⟨i, u, rfl, e⟩ | ⟨y, u, rfl, e⟩
    · exact nomatch e
    · injection e with e1 _
      subst e1
      cases v <;> rfl
theorem mixKind_int (prog : Program) (w : World) (i : Int) (t : Tok) : (mixKind prog w).is (.inl i) (.int i t) = true := keyIs_int i t
theorem mixKind_str (prog : Program) (w : World) (x : Str) (t : Tok) : (mixKind prog w).is (.inr x) (.str x t) = true := keyIs_str x t
end L2
namespace L2
open PySem PySem.Spec PyProof.Rows
inductive V where
  | non | bl (b : Bool) | int (i : Int) | str (x : Str) | byt (b : Array UInt8) | flt (b : UInt64) | ref (a : Addr) | ty (n : String)
  deriving DecidableEq
def RelV : V → Value → Prop
  | .non, u => u = Value.none
  | .bl b, u => u = Value.bool b
  | .int i, u => ∃ t, u = Value.int i t
  | .str x, u => ∃ t, u = Value.str x t
  | .byt b, u => ∃ t, u = Value.bytes b t
  | .flt b, u => ∃ t, u = Value.float b t
  | .ref a, u => u = Value.ref a
  | .ty n, u => u = Value.type n
abbrev Vals : List V → List Value → Prop := Paired RelV
theorem Vals.length {xs : List V} {us : List Value} (r : Vals xs us) : xs.length = us.length := Paired.length r
theorem Vals.get : ∀ {xs : List V} {us : List Value} {i : Nat} {x : V}, Vals xs us → xs[i]? = some x → ∃ u, us[i]? = some u ∧ RelV x u
  | _, _, _, _, .nil, e => by simp at e
  | _, _, 0, _, .cons r _, e => by simp at e; subst e; exact ⟨_, rfl, r⟩
  | _, _, i + 1, x, .cons _ t, e => by
    obtain ⟨u, h1, h2⟩ := Vals.get (i := i) (x := x) t (by simpa using e)
    exact ⟨u, by simpa using h1, h2⟩
theorem Vals.set {x : V} {u : Value} (r : RelV x u) : ∀ {xs : List V} {us : List Value} (i : Nat), Vals xs us → Vals (xs.set i x) (us.set i u)
  | _, _, _, .nil => .nil
  | _, _, 0, .cons _ t => .cons r t
  | _, _, i + 1, .cons q t => .cons q (Vals.set r i t)
theorem Vals.append : ∀ {xs ys : List V} {us ws : List Value}, Vals xs us → Vals ys ws → Vals (xs ++ ys) (us ++ ws)
  | _, _, _, _, .nil, s => s
  | _, _, _, _, .cons r t, s => .cons r (Vals.append t s)
theorem Vals.take : ∀ {xs : List V} {us : List Value} (n : Nat), Vals xs us → Vals (xs.take n) (us.take n)
  | _, _, 0, _ => .nil
  | _, _, _ + 1, .nil => .nil
  | _, _, n + 1, .cons r t => .cons r (Vals.take n t)
theorem Vals.drop : ∀ {xs : List V} {us : List Value} (n : Nat), Vals xs us → Vals (xs.drop n) (us.drop n)
  | _, _, 0, r => r
  | _, _, _ + 1, .nil => .nil
  | _, _, n + 1, .cons _ t => Vals.drop n t
def RelO : Option V → Option Value → Prop
  | some v, some u => RelV v u
  | none, none => True
  | _, _ => False
def KV {κ : Type} : List (κ × V) → List (κ × Value) → Prop := Paired fun (p : κ × V) (q : κ × Value) => p.1 = q.1 ∧ RelV p.2 q.2
def kV : Key → V
  | .inl i => .int i
  | .inr x => .str x
inductive HO where
  | lst (xs : List V)
  | tup (xs : List V)
  | dK (kvs : List (Key × V)) | dT (kvs : List (List Key × V))
  | set (S : Int → Bool) (n : Nat)
  | ins (C dx : Addr) (fs : List (Str × V))
  | own (x : Addr)
  | xd (fs : List (Str × V))
  | met (f x : Addr)
  | rng (lo hi : Int)
  | frz (o : Obj) (u : HO)
  | tbl (ps : Array Value)
  | ext (φ : Heap → Prop)
abbrev Hp := Addr → Option HO
def upd (H : Hp) (a : Addr) (o : HO) : Hp := fun b => if b = a then some o else H b
theorem upd_same {H : Hp} {a : Addr} {o : HO} : upd H a o a = some o := by unfold upd; rw [if_pos rfl]
theorem upd_ne {H : Hp} {a b : Addr} {o : HO} (h : b ≠ a) : upd H a o b = H b := by unfold upd; rw [if_neg h]
theorem upd_upd {H : Hp} {a : Addr} {o u : HO} : upd (upd H a o) a u = upd H a u := by
  funext b; unfold upd; split <;> rfl
theorem ne_of_none {H : Hp} {a b : Addr} {o : HO} (h : H a = some o) (h' : H b = none) : a ≠ b := by
  intro e; subst e; rw [h] at h'; cases h'
section
variable (P : Program) (w : World)
def ObjOk (H : Hp) (h : Heap) (a : Addr) : HO → Prop
  | .lst xs => xs.length ≤ sizeLine ∧ ∃ (its : List Value) (n : Nat), Vals xs its ∧ h.get? a = some { cls := .type "list", data := .seq its.toArray n }
  | .tup xs => xs.length ≤ sizeLine ∧ ∃ its : List Value, Vals xs its ∧ IsTup h a its.toArray
  | .dK kvs => kvs.length ≤ sizeLine ∧ (a == sysModules) = false ∧ ∃ vs, KV kvs vs ∧ h.DictOf (mixKind P w) a vs
  | .dT kvs => kvs.length ≤ sizeLine ∧ (a == sysModules) = false ∧ ∃ xs : List (List Key × Addr × Value),
      Paired (fun (p : List Key × V) (q : List Key × Addr × Value) => p.1 = q.1 ∧ H q.2.1 = some (.tup (p.1.map kV)) ∧ RelV p.2 q.2.2) kvs xs ∧
      ∃ o es ep, h.get? a = some o ∧ o.ExactDict ∧ o.data = .dict es ep ∧ es.toList = xs.map (entryOfKey (tupleKind (mixKind P w))) ∧ (xs.map (·.1)).Nodup
  | .set S n => h.SetOf (intKind P w) a S n
  | .ins C dx fs => H dx = some (.own a) ∧ fs.length ≤ 1000 ∧ dx ≠ a ∧ h.get? a = some (PySem.W.instObj C dx) ∧
      ∃ mA, h.Ns1 dx mA ∧ (∀ f, RelO (fs.lookup f) (mA f)) ∧ PySem.Within mA (fs.map (·.1))
  | .own _ => ∃ o, h.get? a = some o
  | .xd fs => ∃ mA, h.Ns1 a mA ∧ ∀ f, RelO (fs.lookup f) (mA f)
  | .rng lo hi => ∃ t u v, h.get? a = some { cls := .type "range", data := .fields #[.int lo t, .int hi u, .int 1 v] }
  | .frz o u => h.get? a = some o ∧ ObjOk H h a u
  | .tbl ps => h.get? a = some { cls := .none, data := .fields ps }
  | .met f x => h.get? a = some (PySem.W.methodObj (.ref f) (.ref x))
  | .ext φ => φ h ∧ (∃ o, h.get? a = some o) ∧ ∀ h1 h2 : Heap, φ h1 → (∀ o, h1.get? a = some o → h2.get? a = some o) → φ h2
def HOk (H : Hp) (h : Heap) : Prop := ∀ a o, H a = some o → ObjOk P w H h a o
end
section
variable {P : Program} {w : World} {H H' : Hp} {h h' : Heap} {a : Addr} {o : HO}
theorem ObjOk.lt (x : ObjOk P w H h a o) : a < h.objs.size := by
  cases o with
  | lst xs => obtain ⟨_, _, _, _, e⟩ := x; exact Heap.lt_size e
  | tup xs => obtain ⟨_, _, _, p⟩ := x; exact p.lt
  | dK kvs => obtain ⟨_, _, _, _, o, _, _, e, _⟩ := x; exact Heap.lt_size e
  | dT kvs => obtain ⟨_, _, _, _, o, _, _, e, _⟩ := x; exact Heap.lt_size e
  | set S n => obtain ⟨o, _, _, _, e, _⟩ := x; exact Heap.lt_size e
  | ins C dx fs => obtain ⟨_, _, _, e, _⟩ := x; exact Heap.lt_size e
  | own y => obtain ⟨_, e⟩ := x; exact Heap.lt_size e
  | xd fs => obtain ⟨_, ⟨_, _, _, e, _⟩, _⟩ := x; exact Heap.lt_size e
  | rng lo hi => obtain ⟨_, _, _, e⟩ := x; exact Heap.lt_size e
  | frz ob u => obtain ⟨e, _⟩ := x; exact Heap.lt_size e
  | tbl ps => exact Heap.lt_size (show h.get? a = some _ from x)
  | met f y => exact Heap.lt_size (show h.get? a = some _ from x)
  | ext φ => obtain ⟨_, ⟨_, e⟩, _⟩ := x; exact Heap.lt_size e
theorem Paired.mapP {α β : Type} {F G : α → β → Prop} : ∀ {l₁ : List α} {l₂ : List β}, Paired F l₁ l₂ → (∀ a b, F a b → G a b) → Paired G l₁ l₂
  | _, _, .nil, _ => .nil
  | _, _, .cons r t, f => .cons (f _ _ r) (Paired.mapP t f)
theorem ObjOk.stay (x : ObjOk P w H h a o) (k : ∀ b u, (b = a ∨ H b = some (.own a)) → h.get? b = some u → h'.get? b = some u)
    (ho : ∀ b, H b = some (.own a) → H' b = some (.own a)) (ht : ∀ b xs, H b = some (.tup xs) → H' b = some (.tup xs)) : ObjOk P w H' h' a o := by
  induction o with
  | lst xs => obtain ⟨z, its, n, r, e⟩ := x; exact ⟨z, its, n, r, k _ _ (.inl rfl) e⟩
  | tup xs => obtain ⟨z, its, r, ob, e, c⟩ := x; exact ⟨z, its, r, ob, k _ _ (.inl rfl) e, c⟩
  | dK kvs => obtain ⟨z, y, vs, r, ob, es, ep, e, c⟩ := x; exact ⟨z, y, vs, r, ob, es, ep, k _ _ (.inl rfl) e, c⟩
  | dT kvs =>
    obtain ⟨z, y, xs, r, ob, es, ep, e, c⟩ := x
    exact ⟨z, y, xs, Paired.mapP r fun p q z => ⟨z.1, ht _ _ z.2.1, z.2.2⟩, ob, es, ep, k _ _ (.inl rfl) e, c⟩
  | set S n => obtain ⟨ob, es, ep, t, e, c⟩ := x; exact ⟨ob, es, ep, t, k _ _ (.inl rfl) e, c⟩
  | ins C dx fs =>
    obtain ⟨d, z, ne, e, mA, ⟨od, es, ep, e2, c⟩, r⟩ := x
    exact ⟨ho _ d, z, ne, k _ _ (.inl rfl) e, mA, ⟨od, es, ep, k _ _ (.inr d) e2, c⟩, r⟩
  | own y => obtain ⟨ob, e⟩ := x; exact ⟨ob, k _ _ (.inl rfl) e⟩
  | xd fs => obtain ⟨mA, ⟨od, es, ep, e, c⟩, r⟩ := x; exact ⟨mA, ⟨od, es, ep, k _ _ (.inl rfl) e, c⟩, r⟩
  | rng lo hi => obtain ⟨t, u, v, e⟩ := x; exact ⟨t, u, v, k _ _ (.inl rfl) e⟩
  | frz ob u ih => obtain ⟨e, q⟩ := x; exact ⟨k _ _ (.inl rfl) e, ih q⟩
  | tbl ps =>
    have e : h.get? a = some { cls := .none, data := .fields ps } := x
    show h'.get? a = some { cls := .none, data := .fields ps }
    exact k a _ (.inl rfl) e
  | met f y =>
    have e : h.get? a = some (PySem.W.methodObj (.ref f) (.ref y)) := x
    show h'.get? a = some (PySem.W.methodObj (.ref f) (.ref y))
    exact k a _ (.inl rfl) e
  | ext φ => obtain ⟨p, ⟨o, e⟩, st⟩ := x; exact ⟨st _ _ p fun o q => k _ _ (.inl rfl) q, ⟨o, k _ _ (.inl rfl) e⟩, st⟩
theorem HOk.lt (x : HOk P w H h) (e : H a = some o) : a < h.objs.size := (x a o e).lt
theorem HOk.fresh (x : HOk P w H h) (e : h.objs.size ≤ a) : H a = none := by
  cases q : H a with
  | none => rfl
  | some u => exact absurd (Nat.lt_of_lt_of_le (x.lt q) e) (Nat.lt_irrefl _)
theorem HOk.kept (x : HOk P w H h) (k : ∀ b u, h.get? b = some u → h'.get? b = some u) : HOk P w H h' := fun a o e =>
  (x a o e).stay (fun b u _ q => k b u q) (fun _ q => q) fun _ _ q => q
theorem HOk.laid (x : HOk P w H h) (k : ∀ b u, h.get? b = some u → h'.get? b = some u) (hp : h.objs.size ≤ a) (new : ObjOk P w (upd H a o) h' a o) : HOk P w (upd H a o) h' := fun b u e => by
  have hn := x.fresh hp
  by_cases hb : b = a
  · subst hb; rw [upd_same] at e; cases e; exact new
  · rw [upd_ne hb] at e
    exact (x b u e).stay (fun c v _ q => k c v q) (fun c q => by rw [upd_ne (ne_of_none q hn)]; exact q) fun c xs q => by rw [upd_ne (ne_of_none q hn)]; exact q
end
def Rd (H : Hp) (a : Addr) (u : HO) : Prop := H a = some u ∨ ∃ o, H a = some (.frz o u)
theorem Rd.ok {P : Program} {w : World} {H : Hp} {h : Heap} {a : Addr} {u : HO} (r : Rd H a u) (x : HOk P w H h) : ObjOk P w H h a u := by
  rcases r with r | ⟨o, r⟩
  · exact x a u r
  · obtain ⟨_, q⟩ := x a _ r
    exact q
def Mut : Option HO → Prop
  | some (.lst _) => True
  | some (.dK _) => True
  | some (.dT _) => True
  | some (.set _ _) => True
  | some (.ins _ _ _) => True
  | some (.ext _) => True
  | _ => False
section
variable {P : Program} {w : World} {H : Hp} {h h' : Heap} {x e : Addr} {o' : HO}
theorem HOk.write (ok : HOk P w H h) (mu : Mut (H x)) (he : e = x ∨ H e = some (.own x)) (k : ∀ b u, b ≠ e → h.get? b = some u → h'.get? b = some u) (heo : ∃ u, h'.get? e = some u)
    (new : ObjOk P w (upd H x o') h' x o') : HOk P w (upd H x o') h' := fun b u q => by
  have nown : ∀ c y, H c = some (.own y) → c ≠ x := fun c y r z => by subst z; rw [r] at mu; exact mu
  have ntup : ∀ c xs, H c = some (.tup xs) → c ≠ x := fun c xs r z => by subst z; rw [r] at mu; exact mu
  by_cases hb : b = x
  · subst hb; rw [upd_same] at q; cases q; exact new
  · rw [upd_ne hb] at q
    by_cases hbe : b = e
    · have q' : H b = some (.own x) := by
        rcases he with z | z
        · exact absurd (hbe.trans z) hb
        · rw [hbe]; exact z
      rw [q] at q'; cases q'
      obtain ⟨v, hv⟩ := heo
      exact ⟨v, by rw [hbe]; exact hv⟩
    · refine (ok b u q).stay (fun c v hc r => k c v ?_ r) (fun c r => by rw [upd_ne (nown c b r)]; exact r) fun c xs r => by rw [upd_ne (ntup c xs r)]; exact r
      rcases hc with rfl | hc
      · exact hbe
      · rintro rfl
        rcases he with z | z
        · exact nown c b hc z
        · rw [hc] at z; cases z; exact hb rfl
end
structure Un (fs ex : List Addr) (H H' : Hp) (h h' : Heap) : Prop where
  keep : ∀ b o, h.get? b = some o → H b = none → b ∉ fs → b ∉ ex → h'.get? b = some o
  slot : ∀ b o, h.get? b = some o → H b = none → b ∈ fs → b ∉ ex → ∃ sl, h'.get? b = some { o with slots := sl }
  free : ∀ b o, h.get? b = some o → H b = none → b ∉ ex → H' b = none
  there : ∀ b o, h.get? b = some o → b ∉ ex → ∃ o', h'.get? b = some o'
  tups : ∀ b xs, H b = some (.tup xs) → H' b = some (.tup xs)
  frzs : ∀ b o u, H b = some (.frz o u) → H' b = some (.frz o u)
  tbls : ∀ b ps, H b = some (.tbl ps) → ∃ more, H' b = some (.tbl (ps ++ more))
section
variable {fs fs' ex ex' : List Addr} {H H1 H2 : Hp} {h h1 h2 h' : Heap} {a x e : Addr} {o : HO}
theorem Un.any (u : Un fs ex H H1 h h1) {b : Addr} {ob : Obj} (q : h.get? b = some ob) (n : H b = none) (hx : b ∉ ex) : ∃ sl, h1.get? b = some { ob with slots := sl } := by
  by_cases hb : b ∈ fs
  · exact u.slot b ob q n hb hx
  · exact ⟨ob.slots, u.keep b ob q n hb hx⟩
theorem Un.kept (k : ∀ b u, h.get? b = some u → h'.get? b = some u) : Un fs ex H H h h' :=
  ⟨fun b ob q _ _ _ => k b ob q, fun b ob q _ _ _ => ⟨ob.slots, k b ob q⟩, fun _ _ _ n _ => n, fun b ob q _ => ⟨ob, k b ob q⟩, fun _ _ q => q, fun _ _ _ q => q, fun _ ps q => ⟨#[], by rw [q]; simp⟩⟩
theorem Un.refl : Un fs ex H H h h := Un.kept fun _ _ q => q
theorem Un.laid (k : ∀ b u, h.get? b = some u → h'.get? b = some u) (hp : h.objs.size ≤ a) (hn : H a = none) : Un fs ex H (upd H a o) h h' where
  keep := fun b u q _ _ _ => k b u q
  slot := fun b u q _ _ _ => ⟨u.slots, k b u q⟩
  free := fun b u q n _ => by rw [upd_ne (Nat.ne_of_lt (Nat.lt_of_lt_of_le (Heap.lt_size q) hp))]; exact n
  there := fun b u q _ => ⟨u, k b u q⟩
  tups := fun b xs q => by rw [upd_ne (ne_of_none q hn)]; exact q
  frzs := fun b u xs q => by rw [upd_ne (ne_of_none q hn)]; exact q
  tbls := fun b ps q => ⟨#[], by rw [upd_ne (ne_of_none q hn), q]; simp⟩
theorem Un.write (mu : Mut (H x)) (he : e = x ∨ H e = some (.own x)) (k : ∀ b u, b ≠ e → h.get? b = some u → h'.get? b = some u) (heo : ∃ u, h'.get? e = some u) : Un fs ex H (upd H x o) h h' := by
  have hx : ∀ b, H b = none → b ≠ x := fun b n z => by subst z; rw [n] at mu; exact mu
  have hb : ∀ b, H b = none → b ≠ e := fun b n z => by
    subst z
    rcases he with r | r
    · exact hx b n r
    · rw [n] at r; cases r
  have hm : ∀ b u, H b = some u → ¬ Mut (some u) → b ≠ x := fun b u q nm z => by subst z; rw [q] at mu; exact nm mu
  refine ⟨fun b u q n _ _ => k b u (hb b n) q, fun b u q n _ _ => ⟨u.slots, k b u (hb b n) q⟩, fun b u q n _ => by rw [upd_ne (hx b n)]; exact n, fun b u q _ => ?_,
    fun b xs q => by rw [upd_ne (hm b _ q fun z => z)]; exact q, fun b u xs q => by rw [upd_ne (hm b _ q fun z => z)]; exact q, fun b ps q => ⟨#[], by rw [upd_ne (hm b _ q fun z => z), q]; simp⟩⟩
  by_cases hbe : b = e
  · subst hbe; exact heo
  · exact ⟨u, k b u hbe q⟩
end
def trk (h : Heap) (H : Hp) : List Addr := (List.range h.objs.size).filter fun a => (H a).isSome
def hidT (h : Heap) (H : Hp) : Heap := PySem.W.hideAll h (trk h H)
theorem hidT_size (h : Heap) (H : Hp) : (hidT h H).objs.size = h.objs.size := PySem.W.hideAll_size _ _
theorem hidT_get {h : Heap} {H : Hp} {b : Addr} {o : Obj} (e : h.get? b = some o) (n : H b = none) : (hidT h H).get? b = some o :=
  PySem.W.hideAll_get _ e fun hm => by
    have q : (H b).isSome = true := (List.mem_filter.mp hm).2
    rw [n] at q; simp at q
theorem of_hidT {h : Heap} {H : Hp} {b : Addr} {o : Obj} (e : (hidT h H).get? b = some o) : h.get? b = some o ∧ H b = none := by
  have e' : h.get? b = some o := PySem.W.of_hideAll (trk h H) e
  refine ⟨e', ?_⟩
  cases q : H b with
  | none => rfl
  | some x =>
    have hm : b ∈ trk h H := List.mem_filter.mpr ⟨List.mem_range.mpr (Heap.lt_size e'), by simp [q]⟩
    have z : (hidT h H).get? b = none := PySem.W.hideAll_none (trk h H) hm
    rw [z] at e; cases e
end L2
namespace L2
open PySem PySem.Spec PyProof.Rows
structure Mod (K : PySem.W.Frag) (mg : Str → Option Value) (base : Heap) : Prop where
  kin : K.In base
  glob : base.Ns mainGlobals mg
  blt : ∃ mb, base.Ns builtinsNs mb ∧ ∀ x : Str, x ≠ "__name__" → mb x = bootBuiltins x
  nolimit : base.NoLimit
structure Cx where
  prog : Program
  w : World
  K : PySem.W.Frag
  mg : Str → Option Value
  base : Heap
  A : Around
  N : List Str
  s₀ : Shared
  H₀ : Hp
  env : Env
  outer : List Env
  stack : List Env
  ex : List Addr
  fn : Str → Bool
  calm : Bool
  pn : List (Addr × Obj)
  xe : Value → Shared → Prop
def frs (l : List Env) : List Addr := l.filterMap (·.frame)
abbrev Cx.fs (X : Cx) : List Addr := frs X.outer
def Vis (sc : Scope) (x : Str) : Prop := sc.names.lookup x = some .local ∨ sc.names.lookup x = some .cell ∨ sc.names.lookup x = some .free
def Loc (sc : Scope) (x : Str) : Prop := sc.names.lookup x = some .local ∨ sc.names.lookup x = some .cell
def Look (env : Env) (h : Heap) (m : Str → Option Value) (x : Str) (u : Value) : Prop :=
  (env.kindOf x = some .local ∧ m x = some u) ∨ ((env.kindOf x = some .cell ∨ env.kindOf x = some .free) ∧ ∃ c, env.cells.lookup x = some c ∧ h.IsCell c (some u))
structure Cx.Ok (X : Cx) : Prop where
  mod : Mod X.K X.mg X.base
  kind : X.env.scope.kind = .function
  glob : X.env.globals = mainGlobals
  blt : X.env.builtins = builtinsNs
  above : X.s₀.heap.objs.size ≤ X.env.locals
  inj : ∀ x y c, X.env.cells.lookup x = some c → X.env.cells.lookup y = some c → x = y
  has : ∀ x, (X.env.kindOf x = some .cell ∨ X.env.kindOf x = some .free) → ∃ c, X.env.cells.lookup x = some c
  cab : ∀ x c, X.fn x = true → X.env.cells.lookup x = some c → X.s₀.heap.objs.size ≤ c
  hd : X.calm = true → QtH X.A X.base
  frames : X.A.frames = some X.stack
  stk : X.stack = X.outer ∨ (X.stack = X.env :: X.outer ∧ X.env.frame = some X.env.locals)
  exf : ∀ b ∈ X.ex, b ≠ X.env.locals ∧ ∀ x c, X.env.cells.lookup x = some c → c ≠ b
  bs : ∀ b o, X.base.get? b = some o → X.s₀.heap.get? b = some o ∧ X.H₀ b = none
  bsz : X.base.objs.size ≤ X.s₀.heap.objs.size
  noex : ∀ b o, X.base.get? b = some o → b ∉ X.ex
  exfs : ∀ b ∈ X.ex, b ∉ X.fs
  funs : X.s₀.heap.FunFrames X.base X.outer
  frf : ∀ b ∈ X.fs, X.H₀ b = none
structure Inv (X : Cx) (pins : List (Addr × Obj)) (σ : List (Option V)) (H : Hp) (s : Shared) : Prop where
  ok : X.Ok
  os : s.os = X.s₀.os
  bare : AllBare s.gens
  base : Un X.fs X.ex X.H₀ H X.s₀.heap s.heap
  loc : ∃ m, s.heap.Ns X.env.locals m ∧ ∀ (i : Nat) (x : Str) (v : V), X.N[i]? = some x → σ[i]? = some (some v) → Vis X.env.scope x → ∃ u, RelV v u ∧ Look X.env s.heap m x u
  cell : ∀ x c, X.env.cells.lookup x = some c → ∃ v, s.heap.IsCell c v
  free : H X.env.locals = none
  freeC : ∀ x c, X.env.cells.lookup x = some c → H c = none
  pin : ∀ p ∈ X.pn ++ pins, s.heap.get? p.1 = some p.2 ∧ H p.1 = none ∧ p.1 ≠ X.env.locals ∧ p.1 ∉ X.fs ∧ ∀ v, p.2.data ≠ .cell v
  hok : HOk X.prog X.w H s.heap
  len : σ.length = X.N.length
section
variable {X : Cx} {pins : List (Addr × Obj)} {σ : List (Option V)} {H H' : Hp} {s : Shared} {h' : Heap}
theorem Cx.Ok.nofr (ok : X.Ok) {b : Addr} {o : Obj} (e : X.base.get? b = some o) : b ∉ X.fs := fun hb => by
  have := (ok.funs.mem hb).1
  rw [e] at this; cases this
theorem Inv.bs (I : Inv X pins σ H s) : ∀ b o, X.base.get? b = some o → s.heap.get? b = some o ∧ H b = none := fun b o e =>
  ⟨I.base.keep b o (I.ok.bs b o e).1 (I.ok.bs b o e).2 (I.ok.nofr e) (I.ok.noex b o e), I.base.free b o (I.ok.bs b o e).1 (I.ok.bs b o e).2 (I.ok.noex b o e)⟩
theorem Inv.bk (I : Inv X pins σ H s) : ∀ b o, X.base.get? b = some o → s.heap.get? b = some o := fun b o e => (I.bs b o e).1
theorem Inv.mod (I : Inv X pins σ H s) : Mod X.K X.mg X.base := I.ok.mod
theorem Inv.qt (I : Inv X pins σ H s) (hc : X.calm = true) : QtH X.A s.heap := (I.ok.hd hc).keeps I.bk
theorem Inv.kIn (I : Inv X pins σ H s) : X.K.In s.heap := I.ok.mod.kin.keeps I.bk
theorem Inv.lt (I : Inv X pins σ H s) : X.env.locals < s.heap.objs.size := let ⟨_, hn, _⟩ := I.loc; hn.lt
theorem Inv.sz (I : Inv X pins σ H s) : X.s₀.heap.objs.size ≤ s.heap.objs.size := Nat.le_trans I.ok.above (Nat.le_of_lt I.lt)
theorem Inv.nofs (I : Inv X pins σ H s) {a : Addr} (h : s.heap.objs.size ≤ a) : a ∉ X.fs := fun hb => by
  obtain ⟨_, o, ho, _⟩ := I.ok.funs.mem hb
  exact absurd (Nat.lt_of_lt_of_le (Heap.lt_size ho) (Nat.le_trans I.sz h)) (Nat.lt_irrefl _)
theorem Inv.cne (I : Inv X pins σ H s) : ∀ x c, X.env.cells.lookup x = some c → c ≠ X.env.locals := fun x c e z => by
  obtain ⟨v, o, ho, hd⟩ := I.cell x c e
  obtain ⟨m, ⟨o', es, ep, ho', hd', _⟩, _⟩ := I.loc
  rw [z, ho'] at ho; cases ho; rw [hd'] at hd; cases hd
theorem Inv.funs (I : Inv X pins σ H s) : s.heap.FunFrames X.base X.outer := by
  have all : ∀ (l : List Env), (∀ b ∈ frs l, b ∈ X.fs) → X.s₀.heap.FunFrames X.base l → s.heap.FunFrames X.base l := by
    intro l
    induction l with
    | nil => intro _ _; trivial
    | cons env r ih =>
      intro hs hl
      obtain ⟨hk, ⟨L, o, hf, hn, ho, hd⟩, hr⟩ := hl
      have hL : L ∈ X.fs := hs L (by unfold frs; rw [List.filterMap_cons, hf]; exact List.mem_cons_self)
      obtain ⟨sl, e⟩ := I.base.slot L o ho (I.ok.frf L hL) hL fun z => I.ok.exfs L z hL
      exact ⟨hk, ⟨L, _, hf, hn, e, hd⟩, ih (fun b hb => hs b (by unfold frs; rw [List.filterMap_cons, hf]; exact List.mem_cons_of_mem _ hb)) hr⟩
  exact all X.outer (fun _ hb => hb) I.ok.funs
theorem Inv.stack (I : Inv X pins σ H s) : s.heap.FunFrames X.base X.stack := by
  rcases I.ok.stk with e | ⟨e, hf⟩
  · rw [e]; exact I.funs
  · rw [e]
    obtain ⟨m, hn, _⟩ := I.loc
    refine .cons (by rw [I.ok.kind]; decide) hf hn ?_ I.funs
    exact Heap.get?_none_of_le (Nat.le_trans I.ok.bsz I.ok.above)
theorem Inv.stkSub (I : Inv X pins σ H s) : ∀ b ∈ frs X.stack, b ∈ X.env.locals :: X.fs := fun b hb => by
  rcases I.ok.stk with e | ⟨e, hf⟩
  · rw [e] at hb; exact List.mem_cons_of_mem _ hb
  · rw [e] at hb
    unfold frs at hb
    rw [List.filterMap_cons, hf] at hb
    exact hb
theorem Inv.stkFree (I : Inv X pins σ H s) : ∀ b ∈ frs X.stack, H b = none := fun b hb => by
  rcases List.mem_cons.mp (I.stkSub b hb) with e | hb
  · rw [e]; exact I.free
  · obtain ⟨_, o, ho, _⟩ := I.ok.funs.mem hb
    exact I.base.free b o ho (I.ok.frf b hb) fun z => I.ok.exfs b z hb
theorem Inv.step {g' : Array GenState} {t' : Nat} {d' : Drawn} {ch : List Addr} (I : Inv X pins σ H s)
    (hch : ∀ b ∈ ch, (b ∈ X.ex ∨ X.s₀.heap.objs.size ≤ b) ∧ b ≠ X.env.locals ∧ (∀ x c, X.env.cells.lookup x = some c → c ≠ b) ∧ ∀ p ∈ X.pn ++ pins, p.1 ≠ b)
    (keep : ∀ b o, b ≠ X.env.locals → b ∉ X.fs → b ∉ ch → s.heap.get? b = some o → H b = none → h'.get? b = some o)
    (slot : ∀ b o, b ≠ X.env.locals → b ∈ X.fs → b ∉ ch → s.heap.get? b = some o → H b = none → ∃ sl, h'.get? b = some { o with slots := sl }) (free : ∀ b o, b ∉ ch → s.heap.get? b = some o → H b = none → H' b = none)
    (there : ∀ b o, b ∉ ch → s.heap.get? b = some o → ∃ o', h'.get? b = some o')
    (tups : ∀ b xs, H b = some (.tup xs) → H' b = some (.tup xs)) (frzs : ∀ b o u, H b = some (.frz o u) → H' b = some (.frz o u)) (tbls : ∀ b ps, H b = some (.tbl ps) → ∃ more, H' b = some (.tbl (ps ++ more)))
    (ns : ∀ m, s.heap.Ns X.env.locals m → h'.Ns X.env.locals m) (hok : HOk X.prog X.w H' h') (hg : AllBare g') :
    Inv X pins σ H' { s with heap := h', gens := g', drawn := d', toks := t' } := by
  have neL : ∀ b o, X.s₀.heap.get? b = some o → b ≠ X.env.locals := fun b o e => Nat.ne_of_lt (Nat.lt_of_lt_of_le (Heap.lt_size e) I.ok.above)
  have neC : ∀ b o, X.s₀.heap.get? b = some o → b ∉ X.ex → b ∉ ch := fun b o e hx hb => by
    rcases (hch b hb).1 with z | z
    · exact hx z
    · exact absurd (Nat.lt_of_lt_of_le (Heap.lt_size e) z) (Nat.lt_irrefl _)
  have cellK : ∀ x c, X.env.cells.lookup x = some c → ∀ v, s.heap.IsCell c v → h'.IsCell c v := fun x c e v ⟨o, ho, hd⟩ => by
    have nch : c ∉ ch := fun z => (hch c z).2.2.1 x c e rfl
    by_cases hc : c ∈ X.fs
    · obtain ⟨sl, q⟩ := slot c o (I.cne x c e) hc nch ho (I.freeC x c e)
      exact ⟨_, q, hd⟩
    · exact ⟨o, keep c o (I.cne x c e) hc nch ho (I.freeC x c e), hd⟩
  refine ⟨I.ok, I.os, hg, ⟨fun b o e n hb hx => ?_, fun b o e n hb hx => ?_, fun b o e n hx => ?_, fun b o e hx => ?_, fun b xs e => tups b xs (I.base.tups b xs e), fun b o xs e => frzs b o xs (I.base.frzs b o xs e), fun b ps e => ?_⟩, ?_, fun x c e => ?_, ?_, fun x c e => ?_, fun p hp => ?_, hok, I.len⟩
  · exact keep b o (neL b o e) hb (neC b o e hx) (I.base.keep b o e n hb hx) (I.base.free b o e n hx)
  · obtain ⟨sl, e1⟩ := I.base.slot b o e n hb hx
    obtain ⟨sl', e2⟩ := slot b _ (neL b o e) hb (neC b o e hx) e1 (I.base.free b o e n hx)
    exact ⟨sl', e2⟩
  · obtain ⟨o', e1⟩ := I.base.there b o e hx
    exact free b o' (neC b o e hx) e1 (I.base.free b o e n hx)
  · obtain ⟨o', e1⟩ := I.base.there b o e hx
    exact there b o' (neC b o e hx) e1
  · obtain ⟨m1, e1⟩ := I.base.tbls b ps e
    obtain ⟨m2, e2⟩ := tbls b _ e1
    exact ⟨m1 ++ m2, by rw [e2, Array.append_assoc]⟩
  · obtain ⟨m, hn, hl⟩ := I.loc
    refine ⟨m, ns m hn, fun i x v e1 e2 e3 => ?_⟩
    obtain ⟨u, r, l⟩ := hl i x v e1 e2 e3
    refine ⟨u, r, ?_⟩
    rcases l with l | ⟨k, c, e, z⟩
    · exact .inl l
    · exact .inr ⟨k, c, e, cellK x c e _ z⟩
  · obtain ⟨v, z⟩ := I.cell x c e
    exact ⟨v, cellK x c e v z⟩
  · obtain ⟨m, ⟨o, _, _, ho, _⟩, _⟩ := I.loc
    exact free _ o (fun z => (hch _ z).2.1 rfl) ho I.free
  · obtain ⟨v, o, ho, hd⟩ := I.cell x c e
    exact free c o (fun z => (hch c z).2.2.1 x c e rfl) ho (I.freeC x c e)
  · obtain ⟨e, n, ne, nf, d⟩ := I.pin p hp
    have nch : p.1 ∉ ch := fun z => (hch p.1 z).2.2.2 p hp rfl
    exact ⟨keep p.1 p.2 ne nf nch e n, free p.1 p.2 nch e n, ne, nf, d⟩
theorem Inv.un {t' : Nat} (I : Inv X pins σ H s) (u : Un X.fs [] H H' s.heap h') (hok : HOk X.prog X.w H' h') : Inv X pins σ H' { s with heap := h', toks := t' } := by
  obtain ⟨m, ⟨o, es, ep, ho, r⟩, _⟩ := id I.loc
  obtain ⟨sl, hL⟩ := u.any ho I.free (by simp)
  exact I.step (g' := s.gens) (d' := s.drawn) (ch := []) (fun _ z => nomatch z) (fun b o _ hb _ e n => u.keep b o e n hb (by simp)) (fun b o _ hb _ e n => u.slot b o e n hb (by simp)) (fun b o _ e n => u.free b o e n (by simp)) (fun b o _ e => u.there b o e (by simp)) u.tups u.frzs u.tbls (fun m' hm => by
    obtain ⟨o', es', ep', ho', r'⟩ := hm
    rw [ho] at ho'; cases ho'
    exact ⟨_, es', ep', hL, r'⟩) hok I.bare
theorem Inv.call {g' : Array GenState} {t' : Nat} {d' : Drawn} {ch : List Addr} (I : Inv X pins σ H s) (u : Un (frs X.stack) ch H H' s.heap h') (hok : HOk X.prog X.w H' h') (hg : AllBare g')
    (hch : ∀ b ∈ ch, (b ∈ X.ex ∨ X.s₀.heap.objs.size ≤ b) ∧ b ≠ X.env.locals ∧ (∀ x c, X.env.cells.lookup x = some c → c ≠ b) ∧ ∀ p ∈ X.pn ++ pins, p.1 ≠ b) :
    Inv X pins σ H' { s with heap := h', gens := g', drawn := d', toks := t' } := by
  obtain ⟨m, ⟨o, es, ep, ho, r⟩, _⟩ := id I.loc
  obtain ⟨sl, hL⟩ := u.any ho I.free fun z => (hch _ z).2.1 rfl
  exact I.step (ch := ch) hch (fun b o hL hb hc e n => u.keep b o e n (fun z => (List.mem_cons.mp (I.stkSub b z)).elim hL hb) hc) (fun b o _ _ hc e n => u.any e n hc) (fun b o hc e n => u.free b o e n hc) (fun b o hc e => u.there b o e hc) u.tups u.frzs u.tbls (fun m' hm => by
    obtain ⟨o', es', ep', ho', r'⟩ := hm
    rw [ho] at ho'; cases ho'
    exact ⟨_, es', ep', hL, r'⟩) hok hg
theorem Inv.turned {t' : Nat} {it : Addr} (I : Inv X pins σ H s) (k : ∀ b o, b ≠ it → s.heap.get? b = some o → h'.get? b = some o) (hn : H it = none) (hL : it ≠ X.env.locals)
    (h1 : it ∈ X.ex ∨ X.s₀.heap.objs.size ≤ it) (h2 : ∀ x c, X.env.cells.lookup x = some c → c ≠ it) (h3 : ∀ p ∈ X.pn ++ pins, p.1 ≠ it) : Inv X pins σ H { s with heap := h', toks := t' } := by
  have nit : ∀ b u, H b = some u → b ≠ it := fun b u e z => by rw [z, hn] at e; cases e
  refine I.step (g' := s.gens) (d' := s.drawn) (ch := [it]) (fun b hb => ?_) (fun b o _ _ hc e _ => k b o (fun z => hc (by simp [z])) e) (fun b o _ _ hc e _ => ⟨o.slots, k b o (fun z => hc (by simp [z])) e⟩) (fun _ _ _ _ n => n)
    (fun b o hc e => ⟨o, k b o (fun z => hc (by simp [z])) e⟩) (fun _ _ e => e) (fun _ _ _ e => e) (fun b ps e => ⟨#[], by rw [e]; simp⟩) (fun m hm => ?_) (fun b u e => ?_) I.bare
  · have e : b = it := by simpa using hb
    subst e
    exact ⟨h1, hL, h2, h3⟩
  · obtain ⟨o, es, ep, ho, r⟩ := hm
    exact ⟨o, es, ep, k _ o (Ne.symm hL) ho, r⟩
  · refine (I.hok b u e).stay (fun c v hc q => k c v ?_ q) (fun _ q => q) fun _ _ q => q
    rcases hc with z | z
    · rw [z]; exact nit b u e
    · exact nit c _ z
theorem Inv.tok (I : Inv X pins σ H s) (t : Nat) : Inv X pins σ H { s with toks := t } := I.un (h' := s.heap) (t' := t) Un.refl I.hok
theorem Inv.kept {t' : Nat} (I : Inv X pins σ H s) (k : ∀ b u, s.heap.get? b = some u → h'.get? b = some u) : Inv X pins σ H { s with heap := h', toks := t' } := I.un (Un.kept k) (I.hok.kept k)
theorem Inv.laid {a : Addr} {o : HO} {t' : Nat} (I : Inv X pins σ H s) (k : ∀ b u, s.heap.get? b = some u → h'.get? b = some u) (hp : s.heap.objs.size ≤ a) (new : ObjOk X.prog X.w (upd H a o) h' a o) :
    Inv X pins σ (upd H a o) { s with heap := h', toks := t' } := I.un (Un.laid k hp (I.hok.fresh hp)) (I.hok.laid k hp new)
theorem Inv.write {x e : Addr} {o : HO} {t' : Nat} (I : Inv X pins σ H s) (mu : Mut (H x)) (he : e = x ∨ H e = some (.own x)) (k : ∀ b u, b ≠ e → s.heap.get? b = some u → h'.get? b = some u) (heo : ∃ u, h'.get? e = some u)
    (new : ObjOk X.prog X.w (upd H x o) h' x o) : Inv X pins σ (upd H x o) { s with heap := h', toks := t' } := I.un (Un.write mu he k heo) (I.hok.write mu he k heo new)
theorem Inv.weak {σ' : List (Option V)} (I : Inv X pins σ H s) (hl : σ'.length = σ.length) (w : ∀ (i : Nat) v, σ'[i]? = some (some v) → σ[i]? = some (some v)) : Inv X pins σ' H s :=
  ⟨I.ok, I.os, I.bare, I.base, let ⟨m, hn, hl'⟩ := I.loc; ⟨m, hn, fun i x v e1 e2 e3 => hl' i x v e1 (w i v e2) e3⟩, I.cell, I.free, I.freeC, I.pin, I.hok, hl.trans I.len⟩
theorem Inv.pins_of {pins' : List (Addr × Obj)} (I : Inv X pins σ H s) (h : ∀ p ∈ pins', s.heap.get? p.1 = some p.2 ∧ H p.1 = none ∧ p.1 ≠ X.env.locals ∧ p.1 ∉ X.fs ∧ ∀ v, p.2.data ≠ .cell v) : Inv X pins' σ H s :=
  ⟨I.ok, I.os, I.bare, I.base, I.loc, I.cell, I.free, I.freeC, fun p hp => (List.mem_append.mp hp).elim (fun z => I.pin p (List.mem_append_left _ z)) (h p), I.hok, I.len⟩
theorem nodup_ix {N : List Str} (hN : N.Nodup) {i j : Nat} {x : Str} (a : N[i]? = some x) (b : N[j]? = some x) : i = j := by
  obtain ⟨h1, e1⟩ := List.getElem?_eq_some_iff.mp a
  obtain ⟨h2, e2⟩ := List.getElem?_eq_some_iff.mp b
  exact (List.getElem_inj hN).mp (e1.trans e2.symm)
theorem store_ok2 {M : Model} {A : Around} {E : Value → Shared → Prop} {i : Nat} {x : Str} {v : V} {u : Value} {Q : Unit → Shared → Prop} (I : Inv X pins σ H s) (hN : X.N.Nodup) (hi : X.N[i]? = some x) (hx : Loc X.env.scope x) (r : RelV v u)
    (h : ∀ s', Inv X pins (σ.set i (some v)) H s' → (∃ a, Heap.SameBut a s.heap s'.heap ∧ (a = X.env.locals ∨ X.env.cells.lookup x = some a)) → Q () s') (hf : X.fn x = true ∨ X.env.scope.names.lookup x = some .local := by first | exact .inl rfl | exact .inr rfl | assumption) : wpAny M A (storeName X.env x u) Q E s := by
  obtain ⟨m, hn, hl⟩ := id I.loc
  have hcls : (X.env.scope.kind == .class || (X.env.scope.kind == .module && X.env.locals != X.env.globals)) = false := by rw [I.ok.kind]; rfl
  have hiσ : i < σ.length := by rw [I.len]; exact (List.getElem?_eq_some_iff.mp hi).1
  have cne := I.cne
  have tracked : ∀ {a : Addr} {h' : Heap}, (∃ o, s.heap.get? a = some o ∧ H a = none) → Heap.SameBut a s.heap h' → HOk X.prog X.w H h' := fun {a h'} ha hs b ob e => by
    obtain ⟨_, _, hfree⟩ := ha
    refine (I.hok b ob e).stay (fun c w' hc q => (hs.2 c ?_).trans q) (fun _ q => q) fun _ _ q => q
    rintro rfl
    rcases hc with rfl | hc
    · rw [hfree] at e; cases e
    · rw [hfree] at hc; cases hc
  rcases hx with hk | hk
  · refine wpAny_storeName_local hk hn (fun h' hn' hs => ?_) hcls
    obtain ⟨oL, _, _, hoL, _⟩ := id hn
    refine h _ ⟨I.ok, I.os, I.bare, ⟨fun b o e n hb hx => ?_, fun b o e n hb hx => ?_, I.base.free, fun b o e hx => ?_, I.base.tups, I.base.frzs, I.base.tbls⟩, ⟨_, hn', fun j y v' e1 e2 e3 => ?_⟩, fun y c e => ?_, I.free, I.freeC, fun p hp => ?_, tracked ⟨oL, hoL, I.free⟩ hs, by simpa using I.len⟩ ⟨_, hs, .inl rfl⟩
    · exact (hs.2 b (Nat.ne_of_lt (Nat.lt_of_lt_of_le (Heap.lt_size e) I.ok.above))).trans (I.base.keep b o e n hb hx)
    · obtain ⟨sl, e1⟩ := I.base.slot b o e n hb hx
      exact ⟨sl, (hs.2 b (Nat.ne_of_lt (Nat.lt_of_lt_of_le (Heap.lt_size e) I.ok.above))).trans e1⟩
    · obtain ⟨o', e1⟩ := I.base.there b o e hx
      exact ⟨o', (hs.2 b (Nat.ne_of_lt (Nat.lt_of_lt_of_le (Heap.lt_size e) I.ok.above))).trans e1⟩
    · by_cases hj : j = i
      · subst hj
        rw [hi] at e1; cases e1
        rw [List.getElem?_set_self hiσ] at e2
        cases e2
        exact ⟨u, r, .inl ⟨hk, by simp⟩⟩
      · rw [List.getElem?_set_ne (Ne.symm hj)] at e2
        obtain ⟨u', r', q⟩ := hl j y v' e1 e2 e3
        refine ⟨u', r', ?_⟩
        rcases q with ⟨k, e⟩ | ⟨k, c, e, z⟩
        · refine .inl ⟨k, ?_⟩
          have : y ≠ x := fun e => hj (nodup_ix hN e1 (e ▸ hi))
          simp [this, e]
        · exact .inr ⟨k, c, e, z.sameBut hs (cne y c e)⟩
    · obtain ⟨w', z⟩ := I.cell y c e
      exact ⟨w', z.sameBut hs (cne y c e)⟩
    · obtain ⟨e, n, ne, nf, d⟩ := I.pin p hp
      exact ⟨(hs.2 p.1 ne).trans e, n, ne, nf, d⟩
  · have hfn : X.fn x = true := by
      rcases hf with z | z
      · exact z
      · rw [z] at hk; cases hk
    obtain ⟨c, hc⟩ := I.ok.has x (.inl hk)
    obtain ⟨w', z⟩ := I.cell x c hc
    refine wpAny_storeName_cell I.ok.kind hk hc z (fun h' hc' hs => ?_)
    obtain ⟨oc, hoc, hocd⟩ := id z
    refine h { s with heap := h' } ⟨I.ok, I.os, I.bare, ⟨fun b o e n hb hx => ?_, fun b o e n hb hx => ?_, I.base.free, fun b o e hx => ?_, I.base.tups, I.base.frzs, I.base.tbls⟩, ⟨m, hn.sameBut hs (Ne.symm (cne x c hc)), fun j y v' e1 e2 e3 => ?_⟩, fun y c' e => ?_, I.free, I.freeC, fun p hp => ?_, tracked ⟨oc, hoc, I.freeC x c hc⟩ hs, by simpa using I.len⟩ ⟨c, hs, .inr hc⟩
    · exact (hs.2 b (Nat.ne_of_lt (Nat.lt_of_lt_of_le (Heap.lt_size e) (I.ok.cab x c hfn hc)))).trans (I.base.keep b o e n hb hx)
    · obtain ⟨sl, e1⟩ := I.base.slot b o e n hb hx
      exact ⟨sl, (hs.2 b (Nat.ne_of_lt (Nat.lt_of_lt_of_le (Heap.lt_size e) (I.ok.cab x c hfn hc)))).trans e1⟩
    · obtain ⟨o', e1⟩ := I.base.there b o e hx
      exact ⟨o', (hs.2 b (Nat.ne_of_lt (Nat.lt_of_lt_of_le (Heap.lt_size e) (I.ok.cab x c hfn hc)))).trans e1⟩
    · by_cases hj : j = i
      · subst hj
        rw [hi] at e1; cases e1
        rw [List.getElem?_set_self hiσ] at e2
        cases e2
        exact ⟨u, r, .inr ⟨.inl hk, c, hc, hc'⟩⟩
      · rw [List.getElem?_set_ne (Ne.symm hj)] at e2
        obtain ⟨u', r', q⟩ := hl j y v' e1 e2 e3
        refine ⟨u', r', ?_⟩
        rcases q with q | ⟨k, c', e, z'⟩
        · exact .inl q
        · refine .inr ⟨k, c', e, z'.sameBut hs ?_⟩
          rintro rfl
          exact hj (nodup_ix hN e1 (I.ok.inj _ _ _ e hc ▸ hi))
    · by_cases hcc : c' = c
      · subst hcc; exact ⟨_, hc'⟩
      · obtain ⟨w2, z2⟩ := I.cell y c' e
        exact ⟨w2, z2.sameBut hs hcc⟩
    · obtain ⟨e, n, ne, nf, d⟩ := I.pin p hp
      refine ⟨(hs.2 p.1 ?_).trans e, n, ne, nf, d⟩
      intro q
      rw [q, hoc] at e
      have q' : oc = p.2 := Option.some.inj e
      exact d w' (by rw [← q']; exact hocd)
theorem store_ok {M : Model} {A : Around} {E : Value → Shared → Prop} {i : Nat} {x : Str} {v : V} {u : Value} {Q : Unit → Shared → Prop} (I : Inv X pins σ H s) (hN : X.N.Nodup) (hi : X.N[i]? = some x) (hx : Loc X.env.scope x) (r : RelV v u)
    (h : ∀ s', Inv X pins (σ.set i (some v)) H s' → Q () s') (hf : X.fn x = true ∨ X.env.scope.names.lookup x = some .local := by first | exact .inl rfl | exact .inr rfl | assumption) : wpAny M A (storeName X.env x u) Q E s :=
  store_ok2 I hN hi hx r (fun s' I' _ => h s' I') hf
theorem Inv.call' {s' : Shared} {ch : List Addr} (I : Inv X pins σ H s) (ho : s'.os = s.os) (u : Un (frs X.stack) ch H H' s.heap s'.heap) (hok : HOk X.prog X.w H' s'.heap) (hg : AllBare s'.gens)
    (hch : ∀ b ∈ ch, (b ∈ X.ex ∨ X.s₀.heap.objs.size ≤ b) ∧ b ≠ X.env.locals ∧ (∀ x c, X.env.cells.lookup x = some c → c ≠ b) ∧ ∀ p ∈ X.pn ++ pins, p.1 ≠ b) : Inv X pins σ H' s' := by
  obtain ⟨h', g', d', t', o'⟩ := s'
  have e : o' = s.os := ho
  subst e
  exact I.call (g' := g') (t' := t') (d' := d') u hok hg hch
end
abbrev XK := Value → Option Addr → Hp → Prop
abbrev St := List (Option V)
abbrev VK := V → Hp → Prop
abbrev TE := St → Hp → VK → Prop
abbrev TT := St → Hp → (Bool → Hp → Prop) → Prop
abbrev TA := St → Hp → (List V → Hp → Prop) → Prop
structure Ends where
  nx : St → Hp → Prop
  rt : VK
  bk : St → Hp → Prop := fun _ _ => False
  ct : St → Hp → Prop := fun _ _ => False
abbrev TS := Ends → St → Hp → Prop
def EP (X : Cx) (pins : List (Addr × Obj)) (σ : St) (Q : VK) (u : Value) (s' : Shared) : Prop := ∃ v H', Inv X pins σ H' s' ∧ RelV v u ∧ Q v H'
def TP (X : Cx) (pins : List (Addr × Obj)) (σ : St) (Q : Bool → Hp → Prop) (b : Bool) (s' : Shared) : Prop := ∃ H', Inv X pins σ H' s' ∧ Q b H'
def AP (X : Cx) (pins : List (Addr × Obj)) (σ : St) (Q : List V → Hp → Prop) (us : List Value) (s' : Shared) : Prop := ∃ vs H', Inv X pins σ H' s' ∧ Vals vs us ∧ Q vs H'
def SP (X : Cx) (pins : List (Addr × Obj)) (D : Ends) (f : Flow) (s' : Shared) : Prop :=
  match f with
  | .next => ∃ σ' H', Inv X pins σ' H' s' ∧ D.nx σ' H'
  | .brk => ∃ σ' H', Inv X pins σ' H' s' ∧ D.bk σ' H'
  | .cont => ∃ σ' H', Inv X pins σ' H' s' ∧ D.ct σ' H'
  | .ret u => ∃ v σ' H', Inv X pins σ' H' s' ∧ RelV v u ∧ D.rt v H'
def PE (X : Cx) (e : Expr) (t : TE) : Prop :=
  ∀ (pins : List (Addr × Obj)) (s : Shared) (σ : St) (H : Hp) (Q : VK), Inv X pins σ H s → t σ H Q → wpAny (model X.prog X.w) X.A (eval e X.env) (EP X pins σ Q) X.xe s
def PT (X : Cx) (e : Expr) (t : TT) : Prop :=
  ∀ (pins : List (Addr × Obj)) (s : Shared) (σ : St) (H : Hp) (Q : Bool → Hp → Prop), Inv X pins σ H s → t σ H Q → wpAny (model X.prog X.w) X.A (isTrue e X.env (eval e X.env)) (TP X pins σ Q) X.xe s
def PW (X : Cx) (e : Expr) (t : TT) : Prop :=
  ∀ (whole : Sem Value) (pins : List (Addr × Obj)) (s : Shared) (σ : St) (H : Hp) (Q : Bool → Hp → Prop), Inv X pins σ H s → t σ H Q → wpAny (model X.prog X.w) X.A (isTrue e X.env whole) (TP X pins σ Q) X.xe s
theorem PW.pt {X : Cx} {e : Expr} {t : TT} (h : PW X e t) : PT X e t := h _
def PA (X : Cx) (es : List Expr) (t : TA) : Prop :=
  ∀ (pos : Pos) (pins : List (Addr × Obj)) (s : Shared) (σ : St) (H : Hp) (Q : List V → Hp → Prop), Inv X pins σ H s → t σ H Q → wpAny (model X.prog X.w) X.A (spliced (backTo pos (starEach es X.env))) (AP X pins σ Q) X.xe s
def PS (X : Cx) (st : Stmt) (t : TS) : Prop :=
  ∀ (pins : List (Addr × Obj)) (s : Shared) (σ : St) (H : Hp) (D : Ends), Inv X pins σ H s → t D σ H → wpAny (model X.prog X.w) X.A (exec st X.env) (SP X pins D) X.xe s
def PSs (X : Cx) (st : List Stmt) (t : TS) : Prop :=
  ∀ (pins : List (Addr × Obj)) (s : Shared) (σ : St) (H : Hp) (D : Ends), Inv X pins σ H s → t D σ H → wpAny (model X.prog X.w) X.A (execs st X.env) (SP X pins D) X.xe s
theorem thn {α : Type} {t : Sem α} {Q Q' : α → Shared → Prop} {M : Model} {A : Around} {E : Value → Shared → Prop} {s : Shared} (h : wpAny M A t Q E s) (hQ : ∀ a s, Q a s → Q' a s) : wpAny M A t Q' E s := wpAny_mono h hQ fun _ _ x => x
end L2
namespace L2
open PySem PySem.Spec PyProof.Rows
section
variable {X : Cx}
def tVar (i : Nat) : TE := fun σ H Q => ∃ v, σ[i]? = some (some v) ∧ Q v H
def tC (v : V) : TE := fun _ H Q => Q v H
theorem pe_var {i : Nat} {x : Str} {pos : Pos} (hN : X.N[i]? = some x) (hv : Vis X.env.scope x) (hd : (x == ("__debug__" : Str)) = false := by decide) (hcd : (x == ("__classdict__" : Str)) = false := by decide) : PE X (.Name x pos) (tVar i) := by
  intro pins s σ H Q I h
  obtain ⟨v, e, h⟩ := h
  obtain ⟨m, hn, hl⟩ := I.loc
  obtain ⟨u, r, l⟩ := hl i x v hN e hv
  have fin : EP X pins σ Q u s := ⟨v, H, I, r, h⟩
  rcases l with ⟨hk, hm⟩ | ⟨hk, c, hc, hcell⟩
  · exact wpAny_Name (wpAny_loadName_local I.ok.kind hk hn hm fin) hd
  · rcases hk with hk | hk
    · exact wpAny_Name (wpAny_loadName_cell I.ok.kind hk hc hcell fin) hd
    · exact wpAny_Name (wpAny_loadName_free I.ok.kind hk hc hcell fin hcd) hd
theorem pe_int {i j pos} : PE X (.Constant (.int i) j pos) (tC (.int i)) := fun _ _ _ H _ I h => wpAny_Constant_int ⟨.int i, H, I.tok _, ⟨_, rfl⟩, h⟩
theorem pe_bl {b j pos} : PE X (.Constant (.bool b) j pos) (tC (.bl b)) := fun _ _ _ H _ I h => Constant_bool ⟨.bl b, H, I, rfl, h⟩
theorem pe_non {j pos} : PE X (.Constant .none j pos) (tC .non) := fun _ _ _ H _ I h => Constant_none ⟨.non, H, I, rfl, h⟩
theorem pe_str {x j pos} : PE X (.Constant (.str x) j pos) (tC (.str x)) := fun _ _ _ H _ I h => Calls.Constant_str ⟨.str x, H, I.tok _, ⟨_, rfl⟩, h⟩
def Gl (X : Cx) (x : Str) : Prop := X.env.kindOf x = some .globalImplicit
theorem ld_glob {E : Value → Shared → Prop} {pins : List (Addr × Obj)} {s : Shared} {σ : St} {H : Hp} {x : Str} {u : Value} {pos : Pos} {Q : Value → Shared → Prop} (I : Inv X pins σ H s) (hg : Gl X x) (hm : X.mg x = some u) (h : Q u s)
    (hd : (x == ("__debug__" : Str)) = false := by decide) : wpAny (model X.prog X.w) X.A (eval (.Name x pos) X.env) Q E s :=
  Calls.Name_function_global I.ok.kind hg (Calls.loadGlobal_global (by rw [I.ok.glob]; exact I.mod.glob.keeps I.bk) hm h) hd
theorem ld_blt {E : Value → Shared → Prop} {pins : List (Addr × Obj)} {s : Shared} {σ : St} {H : Hp} {x : Str} {u : Value} {pos : Pos} {Q : Value → Shared → Prop} (I : Inv X pins σ H s) (hg : Gl X x) (hm : X.mg x = none) (hv : bootBuiltins x = some u) (h : Q u s)
    (hn : x ≠ "__name__" := by decide) (hd : (x == ("__debug__" : Str)) = false := by decide) : wpAny (model X.prog X.w) X.A (eval (.Name x pos) X.env) Q E s := by
  obtain ⟨mb, h1, h2⟩ := I.mod.blt
  exact Calls.Name_function_global I.ok.kind hg (Calls.loadGlobal_builtin (by rw [I.ok.glob]; exact I.mod.glob.keeps I.bk) hm (by rw [I.ok.blt]; exact h1.keeps I.bk) ((h2 x hn).trans hv) h) hd
theorem pe_glob {x : Str} {v : V} {u : Value} {pos : Pos} (hg : Gl X x) (hm : X.mg x = some u) (r : RelV v u) (hd : (x == ("__debug__" : Str)) = false := by decide) : PE X (.Name x pos) (tC v) :=
  fun _ _ _ H _ I h => ld_glob I hg hm ⟨v, H, I, r, h⟩ hd
theorem pe_bltn {x : Str} {v : V} {u : Value} {pos : Pos} (hg : Gl X x) (hm : X.mg x = none) (hv : bootBuiltins x = some u) (r : RelV v u) (hn : x ≠ "__name__" := by decide) (hd : (x == ("__debug__" : Str)) = false := by decide) : PE X (.Name x pos) (tC v) :=
  fun _ _ _ H _ I h => ld_blt I hg hm hv ⟨v, H, I, r, h⟩ hn hd
variable {a b : Expr} {ta tb : TE} {pos : Pos}
def tB (t : TE) : TT := fun σ H Q => t σ H fun x H1 => ∃ c, x = .bl c ∧ Q c H1
theorem pt_val {e : Expr} {t : TE} (h : PE X e t) (he : ∀ whole, isTrue e X.env whole = (do let v ← whole; standAt e.pos; holding [v] (truthy v)) := by intro _; rfl) : PT X e (tB t) := by
  intro pins s σ H Q I hw
  refine isTrue_plain (thn (h pins s σ H _ I hw) fun v s1 ⟨x, H1, I1, r1, q1⟩ => ?_) (he _)
  obtain ⟨d, rfl, q⟩ := q1
  cases r1
  exact wpAny_truthy_bool ⟨H1, I1, q⟩
variable {tA tB' : TT} {rest : List Expr}
def tAnd (t u : TT) : TT := fun σ H Q => t σ H fun c H1 => if c = true then u σ H1 Q else Q false H1
def tOr (t u : TT) : TT := fun σ H Q => t σ H fun c H1 => if c = true then Q true H1 else u σ H1 Q
def tNot (t : TT) : TT := fun σ H Q => t σ H fun c H1 => Q (!c) H1
theorem pw_and1 (ha : PT X a tA) : PW X (.BoolOp .And [a] pos) tA := by
  intro wh pins s σ H Q I h
  refine isTrue_and (thn (ha pins s σ H Q I h) fun c s1 e => ?_)
  cases c with
  | true => exact isTrue_and_nil e
  | false => exact e
theorem pw_or1 (ha : PT X a tA) : PW X (.BoolOp .Or [a] pos) tA := by
  intro wh pins s σ H Q I h
  refine isTrue_or (thn (ha pins s σ H Q I h) fun c s1 e => ?_)
  cases c with
  | false => exact isTrue_or_nil e
  | true => exact e
theorem pw_and (ha : PT X a tA) (hb : PW X (.BoolOp .And (b :: rest) pos) tB') : PW X (.BoolOp .And (a :: b :: rest) pos) (tAnd tA tB') := by
  intro wh pins s σ H Q I h
  refine isTrue_and (thn (ha pins s σ H _ I h) fun c s1 ⟨H1, I1, q1⟩ => ?_)
  cases c with
  | true => exact hb wh pins s1 σ H1 Q I1 q1
  | false => exact ⟨H1, I1, q1⟩
theorem pw_or (ha : PT X a tA) (hb : PW X (.BoolOp .Or (b :: rest) pos) tB') : PW X (.BoolOp .Or (a :: b :: rest) pos) (tOr tA tB') := by
  intro wh pins s σ H Q I h
  refine isTrue_or (thn (ha pins s σ H _ I h) fun c s1 ⟨H1, I1, q1⟩ => ?_)
  cases c with
  | true => exact ⟨H1, I1, q1⟩
  | false => exact hb wh pins s1 σ H1 Q I1 q1
theorem pt_not (ha : PT X a tA) : PT X (.UnaryOp .Not a pos) (tNot tA) := by
  intro pins s σ H Q I h
  exact isTrue_not (ha pins s σ H (fun c H1 => Q (!c) H1) I h)
def tAndV (ta tb : TE) : TE := fun σ H Q => ta σ H fun x H1 => ∃ c, x = .bl c ∧ if c = true then tb σ H1 Q else Q (.bl false) H1
def tOrV (ta tb : TE) : TE := fun σ H Q => ta σ H fun x H1 => ∃ c, x = .bl c ∧ if c = true then Q (.bl true) H1 else tb σ H1 Q
def tNotV (ta : TE) : TE := fun σ H Q => ta σ H fun x H1 => ∃ c, x = .bl c ∧ Q (.bl (!c)) H1
theorem pe_one {op} {t : TE} (h : PE X a t) : PE X (.BoolOp op [a] pos) t := fun pins s σ H Q I hw => BoolOp_one (h pins s σ H Q I hw)
theorem pe_and (ha : PE X a ta) (hb : PE X (.BoolOp .And (b :: rest) pos) tb) : PE X (.BoolOp .And (a :: b :: rest) pos) (tAndV ta tb) := by
  intro pins s σ H Q I h
  refine BoolOp_and (thn (ha pins s σ H _ I h) fun v s1 ⟨x, H1, I1, r1, q1⟩ => ?_)
  obtain ⟨c, rfl, q1⟩ := q1
  cases r1
  refine wpAny_truthy_bool ?_
  cases c with
  | true => exact hb pins s1 σ H1 Q I1 q1
  | false => exact ⟨.bl false, H1, I1, rfl, q1⟩
theorem pe_or (ha : PE X a ta) (hb : PE X (.BoolOp .Or (b :: rest) pos) tb) : PE X (.BoolOp .Or (a :: b :: rest) pos) (tOrV ta tb) := by
  intro pins s σ H Q I h
  refine BoolOp_or (thn (ha pins s σ H _ I h) fun v s1 ⟨x, H1, I1, r1, q1⟩ => ?_)
  obtain ⟨c, rfl, q1⟩ := q1
  cases r1
  refine wpAny_truthy_bool ?_
  cases c with
  | false => exact hb pins s1 σ H1 Q I1 q1
  | true => exact ⟨.bl true, H1, I1, rfl, q1⟩
theorem pe_not (ha : PE X a ta) : PE X (.UnaryOp .Not a pos) (tNotV ta) := by
  intro pins s σ H Q I h
  refine UnaryOp_ (thn (ha pins s σ H _ I h) fun v s1 ⟨x, H1, I1, r1, q1⟩ => ?_)
  obtain ⟨c, rfl, q1⟩ := q1
  cases r1
  exact not_of (wpAny_truthy_bool ⟨.bl (!c), H1, I1, rfl, q1⟩)
end
end L2
namespace L2
open PySem PySem.Spec PyProof.Rows
def SqL (K : PySem.W.Frag) (H : Hp) (a : Addr) (xs : List V) : Prop :=
  Rd H a (.lst xs) ∨
    ∃ (o : Obj) (its : Array Value) (n : Nat), K.lookup a = some o ∧ o.cls = .type "list" ∧ o.dict = none ∧ o.data = .seq its n ∧ its.size ≤ sizeLine ∧ Vals xs its.toList
def SqT (K : PySem.W.Frag) (H : Hp) (a : Addr) (xs : List V) : Prop :=
  Rd H a (.tup xs) ∨
    ∃ (o : Obj) (its : Array Value) (n : Nat), K.lookup a = some o ∧ o.cls = .type "tuple" ∧ o.data = .seq its n ∧ its.size ≤ sizeLine ∧ Vals xs its.toList
def absV : Value → Option V
  | .none => some .non
  | .bool b => some (.bl b)
  | .int i _ => some (.int i)
  | .str x _ => some (.str x)
  | .bytes b _ => some (.byt b)
  | .float b _ => some (.flt b)
  | .ref a => some (.ref a)
  | .type n => some (.ty n)
  | _ => none
theorem RelV.abs {x : V} {u : Value} (r : RelV x u) : absV u = some x := by
  cases x with
  | non => cases r; rfl
  | bl _ => cases r; rfl
  | int _ => obtain ⟨t, rfl⟩ := r; rfl
  | str _ => obtain ⟨t, rfl⟩ := r; rfl
  | byt _ => obtain ⟨t, rfl⟩ := r; rfl
  | flt _ => obtain ⟨t, rfl⟩ := r; rfl
  | ref _ => cases r; rfl
  | ty _ => cases r; rfl
theorem RelV.inj {x y : V} {u : Value} (r : RelV x u) (q : RelV y u) : x = y := Option.some.inj (r.abs.symm.trans q.abs)
theorem Vals.inj : ∀ {xs ys : List V} {us : List Value}, Vals xs us → Vals ys us → xs = ys
  | _, _, _, .nil, .nil => rfl
  | _, _, _, .cons r t, .cons r' t' => by rw [r.inj r', Vals.inj t t']
section
variable {X : Cx} {pins : List (Addr × Obj)} {σ : St} {H : Hp} {s : Shared} {a : Addr} {xs ys : List V}
theorem SqL.of {K : PySem.W.Frag} (h : H a = some (.lst xs)) : SqL K H a xs := .inl (.inl h)
theorem SqT.of {K : PySem.W.Frag} (h : H a = some (.tup xs)) : SqT K H a xs := .inl (.inl h)
theorem Inv.list (I : Inv X pins σ H s) (h : SqL X.K H a xs) : ∃ its : List Value, Vals xs its ∧ PlainL s.heap a its.toArray ∧ xs.length ≤ sizeLine := by
  rcases h with h | ⟨o, its, n, hk, hc, hd, hs, hz, r⟩
  · obtain ⟨z, its, n, r, e⟩ := h.ok I.hok
    exact ⟨its, r, ⟨_, n, e, rfl, rfl, rfl⟩, z⟩
  · refine ⟨its.toList, r, ⟨o, n, I.kIn a o hk, hc, hd, by simpa using hs⟩, ?_⟩
    have e := r.length
    simp only [Array.length_toList] at e
    omega
theorem Inv.tuple (I : Inv X pins σ H s) (h : SqT X.K H a xs) : ∃ its : List Value, Vals xs its ∧ IsTup s.heap a its.toArray ∧ xs.length ≤ sizeLine := by
  rcases h with h | ⟨o, its, n, hk, hc, hs, hz, r⟩
  · obtain ⟨z, its, r, p⟩ := h.ok I.hok
    exact ⟨its, r, p, z⟩
  · refine ⟨its.toList, r, ⟨o, I.kIn a o hk, hc, n, by simpa using hs⟩, ?_⟩
    have e := r.length
    simp only [Array.length_toList] at e
    omega
theorem Inv.list_inj (I : Inv X pins σ H s) (h : SqL X.K H a xs) (h' : SqL X.K H a ys) : xs = ys := by
  obtain ⟨its, r, ⟨o, n, e, _, _, d⟩, _⟩ := I.list h
  obtain ⟨its', r', ⟨o', n', e', _, _, d'⟩, _⟩ := I.list h'
  rw [e] at e'; cases e'
  rw [d] at d'
  injection d' with d1 _
  have : its = its' := by simpa using congrArg Array.toList d1
  subst this
  exact r.inj r'
theorem Inv.tuple_inj (I : Inv X pins σ H s) (h : SqT X.K H a xs) (h' : SqT X.K H a ys) : xs = ys := by
  obtain ⟨its, r, ⟨o, e, _, n, d⟩, _⟩ := I.tuple h
  obtain ⟨its', r', ⟨o', e', _, n', d'⟩, _⟩ := I.tuple h'
  rw [e] at e'; cases e'
  rw [d] at d'
  injection d' with d1 _
  have : its = its' := by simpa using congrArg Array.toList d1
  subst this
  exact r.inj r'
end
abbrev Cx.wish (X : Cx) (E : Value → Shared → Prop) : Cx := { X with xe := E }
abbrev Cx.nox (X : Cx) : Cx := X.wish fun _ _ => False
theorem Cx.Ok.wish {X : Cx} (ok : X.Ok) (E : Value → Shared → Prop) : (X.wish E).Ok :=
  ⟨ok.mod, ok.kind, ok.glob, ok.blt, ok.above, ok.inj, ok.has, ok.cab, ok.hd, ok.frames, ok.stk, ok.exf, ok.bs, ok.bsz, ok.noex, ok.exfs, ok.funs, ok.frf⟩
theorem Cx.Ok.unwish {X : Cx} {E : Value → Shared → Prop} (ok : (X.wish E).Ok) : X.Ok :=
  ⟨ok.mod, ok.kind, ok.glob, ok.blt, ok.above, ok.inj, ok.has, ok.cab, ok.hd, ok.frames, ok.stk, ok.exf, ok.bs, ok.bsz, ok.noex, ok.exfs, ok.funs, ok.frf⟩
section
variable {X : Cx} {pins : List (Addr × Obj)} {σ : St} {H : Hp} {s : Shared} {E : Value → Shared → Prop}
theorem Inv.wish (I : Inv X pins σ H s) (E : Value → Shared → Prop) : Inv (X.wish E) pins σ H s := ⟨I.ok.wish E, I.os, I.bare, I.base, I.loc, I.cell, I.free, I.freeC, I.pin, I.hok, I.len⟩
theorem Inv.unwish (I : Inv (X.wish E) pins σ H s) : Inv X pins σ H s := ⟨I.ok.unwish, I.os, I.bare, I.base, I.loc, I.cell, I.free, I.freeC, I.pin, I.hok, I.len⟩
theorem SP.unwish {D : Ends} {f : Flow} {s' : Shared} (h : SP (X.wish E) pins D f s') : SP X pins D f s' := by
  cases f with
  | next => obtain ⟨σ', H', I, q⟩ := h; exact ⟨σ', H', I.unwish, q⟩
  | brk => obtain ⟨σ', H', I, q⟩ := h; exact ⟨σ', H', I.unwish, q⟩
  | cont => obtain ⟨σ', H', I, q⟩ := h; exact ⟨σ', H', I.unwish, q⟩
  | ret u => obtain ⟨v, σ', H', I, r, q⟩ := h; exact ⟨v, σ', H', I.unwish, r, q⟩
theorem PSs.nox {st : List Stmt} {t : TS} (h : PSs X.nox st t) : PSs X st t := fun pins s σ H D I hw =>
  wpAny_mono (h pins s σ H D (I.wish _) hw) (fun _ _ q => q.unwish) fun _ _ z => False.elim z
end
section
variable {X : Cx} {st : Stmt} {rest : List Stmt} {t u : TS} {e : Expr} {te : TE} {pos : Pos}
def tNext : TS := fun D σ H => D.nx σ H
def tSeq (t u : TS) : TS := fun D σ H => t { D with nx := u D } σ H
theorem pss_nil : PSs X [] tNext := fun _ _ σ H _ I h => wpAny_execs_nil ⟨σ, H, I, h⟩
theorem pss_cons (h1 : PS X st t) (h2 : PSs X rest u) : PSs X (st :: rest) (tSeq t u) := by
  intro pins s σ H D I h
  refine wpAny_execs_cons (thn (h1 pins s σ H { D with nx := u D } I h) fun f s1 q => ?_)
  cases f with
  | next =>
    obtain ⟨σ', H', I', q⟩ := q
    exact h2 pins s1 σ' H' D I' q
  | ret v => exact q
  | brk => exact q
  | cont => exact q
theorem pss_one (h1 : PS X st t) : PSs X [st] t := by
  intro pins s σ H D I h
  refine wpAny_execs_cons (thn (h1 pins s σ H D I h) fun f s1 q => ?_)
  cases f with
  | next => exact wpAny_execs_nil q
  | ret v => exact q
  | brk => exact q
  | cont => exact q
theorem Inv.quiet {pins : List (Addr × Obj)} {σ : St} {H : Hp} {s : Shared} (I : Inv X pins σ H s) : interactive X.env = false := by simp [interactive, I.ok.kind]
def tDrop (te : TE) : TS := fun D σ H => te σ H fun _ H1 => D.nx σ H1
theorem ps_expr (he : PE X e te) (hs : swapsWith e none pos.line X.env = pure false := by rfl) : PS X (.Expr e pos) (tDrop te) := by
  intro pins s σ H D I h
  exact wpAny_Expr_any (thn (he pins s σ H _ I h) fun v s1 ⟨x, H1, I1, r1, q1⟩ => ⟨σ, H1, I1, q1⟩) I.quiet hs
def tRet (te : TE) : TS := fun D σ H => te σ H D.rt
theorem ps_ret (he : PE X e te) : PS X (.Return (some e) pos) (tRet te) := by
  intro pins s σ H D I h
  exact wpAny_Return_some (thn (he pins s σ H _ I h) fun v s1 ⟨x, H1, I1, r1, q1⟩ => ⟨x, σ, H1, I1, r1, q1⟩)
def tIfS (c : TT) (t u : TS) : TS := fun D σ H => c σ H fun b H1 => if b = true then t D σ H1 else u D σ H1
theorem ps_if {c : Expr} {a b : List Stmt} {tc : TT} (hc : PT X c tc) (ha : PSs X a t) (hb : PSs X b u) : PS X (.If c a b pos) (tIfS tc t u) := by
  intro pins s σ H D I h
  refine wpAny_If (thn (hc pins s σ H _ I h) fun d s1 ⟨H1, I1, q1⟩ => ?_)
  cases d with
  | true => exact ha pins s1 σ H1 D I1 q1
  | false => exact hb pins s1 σ H1 D I1 q1
def tNever : TS := fun _ _ _ => False
theorem pss_never {sts : List Stmt} : PSs X sts tNever := fun _ _ _ _ _ _ h => h.elim
end
abbrev TG := V → St → Hp → (St → Hp → Prop) → Prop
abbrev TGs := List V → St → Hp → (St → Hp → Prop) → Prop
def PG (X : Cx) (target : Expr) (t : TG) : Prop :=
  ∀ (pins : List (Addr × Obj)) (s : Shared) (σ : St) (H : Hp) (v : V) (u : Value) (Q : St → Hp → Prop), Inv X pins σ H s → RelV v u → t v σ H Q →
    wpAny (model X.prog X.w) X.A (assign target X.env u) (fun _ s' => ∃ σ' H', Inv X pins σ' H' s' ∧ Q σ' H') X.xe s
def PGs (X : Cx) (ts : List Expr) (t : TGs) : Prop :=
  ∀ (pins : List (Addr × Obj)) (s : Shared) (σ : St) (H : Hp) (vs : List V) (us : List Value) (Q : St → Hp → Prop), Inv X pins σ H s → Vals vs us → t vs σ H Q →
    wpAny (model X.prog X.w) X.A (assignInOrder ((assignEach ts X.env).map (·.2)) us) (fun _ s' => ∃ σ' H', Inv X pins σ' H' s' ∧ Q σ' H') X.xe s
abbrev TSet := V → V → V → Hp → (Hp → Prop) → Prop
def PSet (X : Cx) (t : TSet) : Prop :=
  ∀ (pins : List (Addr × Obj)) (s : Shared) (σ : St) (H : Hp) (o i v : V) (ov iv u : Value) (Q : Hp → Prop), Inv X pins σ H s → RelV o ov → RelV i iv → RelV v u → t o i v H Q →
    wpAny (model X.prog X.w) X.A (setItem ov iv u) (fun _ s' => ∃ H', Inv X pins σ H' s' ∧ Q H') X.xe s
section
variable {X : Cx} {pos : Pos}
def gName (i : Nat) : TG := fun v σ H Q => Q (σ.set i (some v)) H
theorem pg_name {i : Nat} {x : Str} (hN : X.N.Nodup) (hi : X.N[i]? = some x) (hx : Loc X.env.scope x) (hf : X.fn x = true ∨ X.env.scope.names.lookup x = some .local := by first | exact .inl rfl | exact .inr rfl | assumption) : PG X (.Name x pos) (gName i) := by
  intro pins s σ H v u Q I r h
  exact wpAny_assign_Name (store_ok I hN hi hx r (fun s' I' => ⟨_, H, I', h⟩) hf)
def gNil : TGs := fun vs σ H Q => vs = [] ∧ Q σ H
def gCons (t : TG) (u : TGs) : TGs := fun vs σ H Q => ∃ v r, vs = v :: r ∧ t v σ H fun σ' H' => u r σ' H' Q
theorem pgs_nil : PGs X [] gNil := by
  intro pins s σ H vs us Q I r h
  obtain ⟨e, h⟩ := h
  subst e
  cases r
  exact assignInOrder_nil ⟨σ, H, I, h⟩
theorem pgs_cons {e : Expr} {es : List Expr} {t : TG} {u : TGs} (h1 : PG X e t) (h2 : PGs X es u)
    (hs : (assignEach (e :: es) X.env).map (·.2) = assign e X.env :: (assignEach es X.env).map (·.2) := by rfl) : PGs X (e :: es) (gCons t u) := by
  intro pins s σ H vs us Q I r h
  obtain ⟨v, vr, e1, h⟩ := h
  subst e1
  cases r with
  | cons r rr =>
    rw [hs]
    refine assignInOrder_cons (thn (h1 pins s σ H _ _ _ I r h) fun _ s1 ⟨σ1, H1, I1, q1⟩ => ?_)
    exact h2 pins s1 σ1 H1 _ _ Q I1 rr q1
def gTup (K : PySem.W.Frag) (n : Nat) (t : TGs) : TG := fun v σ H Q => ∃ a xs, v = .ref a ∧ SqT K H a xs ∧ xs.length = n ∧ t xs σ H Q
theorem pg_tup {es : List Expr} {k : Nat} {t : TGs} {n : Nat} (hc : X.A.handled = none) (h : PGs X es t)
    (hn : (assignEach es X.env).length = n := by rfl) (hst : (assignEach es X.env).findIdx? (·.1) = none := by rfl) : PG X (.Tuple es k pos) (gTup X.K n t) := by
  intro pins s σ H v u Q I r hw
  obtain ⟨a, xs, e1, hq, hl, hw⟩ := hw
  subst e1
  cases r
  obtain ⟨its, rv, ht, hz⟩ := I.tuple hq
  refine assign_Tuple_tuple hc ht (by simp [hn, ← hl, rv.length]) hst fun h' hx => ?_
  have I1 : Inv X pins σ H { s with heap := h' } := I.kept (t' := s.toks) fun b o e => hx b o (Nat.ne_of_lt (Heap.lt_size e)) e
  exact h pins _ σ H xs _ Q I1 (by simpa using rv) hw
def gSub (to ti : TE) (t : TSet) : TG := fun v σ H Q => to σ H fun o H1 => ti σ H1 fun i H2 => t o i v H2 fun H3 => Q σ H3
theorem pg_sub {o i : Expr} {to ti : TE} {t : TSet} (ho : PE X o to) (hi : PE X i ti) (hs : PSet X t)
    (ha : ∀ v, assign (.Subscript o i pos) X.env v = (do
      let ov ← holding [v] (eval o X.env)
      let iv ← holding [v, ov] (eval i X.env)
      standAt pos
      holding [v, ov, iv] (setItem ov iv v)
      release [v, ov, iv] []) := by intro _; rfl) : PG X (.Subscript o i pos) (gSub to ti t) := by
  intro pins s σ H v u Q I r h
  rw [ha]
  refine wpAny_bind (wpAny_holding (thn (ho pins s σ H _ I h) fun ov s1 ⟨x, H1, I1, r1, q1⟩ => ?_))
  refine wpAny_bind (wpAny_holding (thn (hi pins s1 σ H1 _ I1 q1) fun iv s2 ⟨y, H2, I2, r2, q2⟩ => ?_))
  refine wpAny_bind (wpAny_standAt (wpAny_bind (wpAny_holding (thn (hs pins s2 σ H2 x y v ov iv u _ I2 r1 r2 r q2) fun _ s3 ⟨H3, I3, q3⟩ => ?_))))
  exact wpAny_release ⟨σ, H3, I3, q3⟩
def tAsg (te : TE) (g : TG) : TS := fun D σ H => te σ H fun x H1 => g x σ H1 D.nx
theorem ps_asg {tg e : Expr} {te : TE} {g : TG} (he : PE X e te) (hg : PG X tg g) (hs : swapsWithSole [tg] e pos.line X.env = pure false := by rfl) (hw : swappedStores [tg] e X.env = pure none := by rfl)
    (h1 : (assignEach [tg] X.env).map (·.2) = [assign tg X.env] := by rfl) : PS X (.Assign [tg] e pos) (tAsg te g) := by
  intro pins s σ H D I h
  refine wpAny_Assign_stores (thn (he pins s σ H _ I h) fun v s1 ⟨x, H1, I1, r1, q1⟩ => ?_) hs hw
  rw [h1]
  exact thn (hg pins s1 σ H1 x v _ I1 r1 q1) fun _ s2 q => q
theorem ps_set {i : Nat} {x : Str} {e : Expr} {te : TE} {pos' : Pos} (hN : X.N.Nodup) (hi : X.N[i]? = some x) (hx : Loc X.env.scope x) (he : PE X e te) (hs : swapsWith e (some (.Name x pos')) pos.line X.env = pure false := by rfl) (hf : X.fn x = true ∨ X.env.scope.names.lookup x = some .local := by first | exact .inl rfl | exact .inr rfl | assumption) :
    PS X (.Assign [.Name x pos'] e pos) (tAsg te (gName i)) := by
  intro pins s σ H D I h
  refine wpAny_Assign_Name (thn (he pins s σ H _ I h) fun v s1 ⟨y, H1, I1, r1, q1⟩ => ?_) hs
  exact store_ok I1 hN hi hx r1 (fun s2 I2 => ⟨_, H1, I2, q1⟩) hf
end
section
variable {X : Cx} {pos : Pos}
def tWhile (c : TT) (tb : TS) : TS := fun D σ H => ∃ W : Nat → St → Hp → Prop, (∃ m, W m σ H) ∧ ∀ m σ H, W m σ H →
  c σ H fun b H1 => if b = true then ∃ N : St → Hp → Prop, (∀ σ' H', N σ' H' → ∃ m', m' < m ∧ W m' σ' H') ∧ tb { D with nx := N, ct := N, bk := D.nx } σ H1 else D.nx σ H1
theorem ps_while {c : Expr} {body : List Stmt} {tc : TT} {tb : TS} (hp : PassesOwn (model X.prog X.w) X.A X.env X.xe) (hc : PT X c tc) (hb : PSs X body tb) : PS X (.While c body [] pos) (tWhile tc tb) := by
  intro pins s σ H D I h
  obtain ⟨W, ⟨m0, w0⟩, turn⟩ := h
  refine wpAny_While (codeAny_whileLoop (fun n s' => ∃ σ' H', Inv X pins σ' H' s' ∧ W n σ' H') ?_ m0 ⟨σ, H, I, w0⟩)
  rintro n s1 ⟨σ1, H1, I1, w1⟩
  refine wpAny_passesOwn hp (thn (hc pins s1 σ1 H1 _ I1 (turn n σ1 H1 w1)) fun b s2 ⟨H2, I2, q2⟩ => ?_)
  cases b with
  | true =>
    obtain ⟨N, hN, q2⟩ := q2
    rw [if_pos rfl]
    refine wpAny_passesOwn hp (thn (hb pins s2 σ1 H2 _ I2 q2) fun f s3 q3 => ?_)
    cases f with
    | next =>
      obtain ⟨σ3, H3, I3, n3⟩ := q3
      obtain ⟨m', hm, w3⟩ := hN σ3 H3 n3
      exact ⟨m', hm, σ3, H3, I3, w3⟩
    | cont =>
      obtain ⟨σ3, H3, I3, n3⟩ := q3
      obtain ⟨m', hm, w3⟩ := hN σ3 H3 n3
      exact ⟨m', hm, σ3, H3, I3, w3⟩
    | brk => exact q3
    | ret v => exact q3
  | false =>
    rw [if_neg Bool.false_ne_true]
    exact wpAny_execs_nil ⟨σ1, H2, I2, q2⟩
end
structure It where
  go : Nat → Hp → Prop
  yld : Nat → Hp → V → Hp → Prop
  stop : Nat → Hp → Prop
def FpOk (X : Cx) (pins : List (Addr × Obj)) (H : Hp) (b : Addr) : Prop :=
  H b = none ∧ b ≠ X.env.locals ∧ b ∉ X.fs ∧ (b ∈ X.ex ∨ X.s₀.heap.objs.size ≤ b) ∧ (∀ x c, X.env.cells.lookup x = some c → c ≠ b) ∧ ∀ p ∈ X.pn ++ pins, p.1 ≠ b
theorem Inv.fpOk {X : Cx} {pins : List (Addr × Obj)} {σ : St} {H H' : Hp} {s : Shared} {b : Addr} (I : Inv X pins σ H s) (hb : s.heap.objs.size ≤ b) (hn : H' b = none) : FpOk X pins H' b := by
  refine ⟨hn, Nat.ne_of_gt (Nat.lt_of_lt_of_le I.lt hb), I.nofs hb, .inr (Nat.le_trans I.sz hb), fun x c e z => ?_, fun p hp z => ?_⟩
  · obtain ⟨v, q⟩ := I.cell x c e
    exact absurd (Nat.lt_of_lt_of_le q.lt (by rw [z]; exact hb)) (Nat.lt_irrefl _)
  · exact absurd (Nat.lt_of_lt_of_le (Heap.lt_size (I.pin p hp).1) (by rw [z]; exact hb)) (Nat.lt_irrefl _)
structure Turn (P : Program) (w : World) (K : PySem.W.Frag) (tg : Expr) (J : It) (fp : List Addr) (it : Addr) (tn : Nat → Heap → Prop) : Prop where
  mem : it ∈ fp
  obj : ∀ i h, tn i h → ∀ b ∈ fp, ∃ o, h.get? b = some o ∧ ∀ v, o.data ≠ .cell v
  keep : ∀ i h h', tn i h → (∀ b ∈ fp, ∀ o, h.get? b = some o → h'.get? b = some o) → tn i h'
  item : ∀ (X : Cx), X.prog = P → X.w = w → X.K = K → X.calm = true → ∀ (i : Nat) (pins : List (Addr × Obj)) (s : Shared) (σ : St) (H : Hp) (E : Value → Shared → Prop), Inv X pins σ H s → (∀ b ∈ fp, FpOk X pins H b) → tn i s.heap → J.go i H →
    wpAny (model P w) X.A (pyNext (.ref it)) (fun r s1 => ∃ u, r = some u ∧
      wpAny (model P w) X.A (letOwnedTupleGo tg (.ref it) u) (fun _ s2 => ∃ x H', Inv X pins σ H' s2 ∧ RelV x u ∧ J.yld i H x H' ∧ tn (i + 1) s2.heap ∧ ∀ b ∈ fp, H' b = none) E s1) E s
  done : ∀ (X : Cx), X.prog = P → X.w = w → X.K = K → X.calm = true → ∀ (i : Nat) (pins : List (Addr × Obj)) (s : Shared) (σ : St) (H : Hp) (E : Value → Shared → Prop), Inv X pins σ H s → (∀ b ∈ fp, FpOk X pins H b) → tn i s.heap → J.stop i H →
    wpAny (model P w) X.A (pyNext (.ref it)) (fun r s1 => r = none ∧ Inv X pins σ H s1) E s
  self : ∀ (A : Around) (i : Nat) (s : Shared) (Q : Value → Shared → Prop) (E : Value → Shared → Prop), tn i s.heap → Q (.ref it) s → wpAny (model P w) A (pyIter (.ref it)) Q E s
abbrev TI := St → Hp → (It → Hp → Prop) → Prop
def PIE (X : Cx) (pins : List (Addr × Obj)) (σ : St) (tg : Expr) (R : It → Hp → Prop) (itv : Value) (s2 : Shared) : Prop :=
  ∃ (it : Addr) (fp : List Addr) (tn : Nat → Heap → Prop) (J : It) (H' : Hp), itv = .ref it ∧ Inv X pins σ H' s2 ∧ Turn X.prog X.w X.K tg J fp it tn ∧ tn 0 s2.heap ∧ (∀ b ∈ fp, FpOk X pins H' b) ∧ R J H'
def PI (X : Cx) (tg iter : Expr) (wi : TI) : Prop :=
  ∀ (pins : List (Addr × Obj)) (s : Shared) (σ : St) (H : Hp) (R : It → Hp → Prop), Inv X pins σ H s → wi σ H R →
    wpAny (model X.prog X.w) X.A (eval iter X.env) (fun v s1 => wpAny (model X.prog X.w) X.A (pyIter v) (PIE X pins σ tg R) X.xe s1) X.xe s
theorem go_of {M : Model} {A : Around} {E : Value → Shared → Prop} {s : Shared} {tg : Expr} {it : Addr} {u : Value} {o : Obj} {n : String} {vs : Array Value} {Q : Unit → Shared → Prop} (ho : s.heap.get? it = some o) (hc : o.cls = .type n) (hd : o.data = .fields vs)
    (hn : ["enumerate", "zip", "dict_itemiterator", "dict_reverseitemiterator", "odict_iterator", "itertools.zip_longest", "itertools.pairwise"].contains n = false) (hQ : Q () s) : wpAny M A (letOwnedTupleGo tg (.ref it) u) Q E s := by
  unfold letOwnedTupleGo
  cases tg <;> first
    | exact wpAny_pure hQ
    | (cases u <;> first
        | exact wpAny_pure hQ
        | (refine wpAny_bind (wpAny_load ho ?_)
           rw [hc, hd]
           show wpAny M A (if (["enumerate", "zip", "dict_itemiterator", "dict_reverseitemiterator", "odict_iterator", "itertools.zip_longest", "itertools.pairwise"].contains n && vs[0]? == some (rawInt _)) = true then _ else _) Q E s
           rw [if_neg (by intro h; rw [hn, Bool.false_and] at h; cases h)]
           exact wpAny_pure hQ))
def Itl (K : PySem.W.Frag) (a : Addr) : It :=
  ⟨fun i H => ∃ xs x, SqL K H a xs ∧ xs[i]? = some x, fun i H x H' => H' = H ∧ ∀ xs, SqL K H a xs → xs[i]? = some x, fun i H => ∃ xs, SqL K H a xs ∧ xs.length ≤ i⟩
def Itt (K : PySem.W.Frag) (a : Addr) : It :=
  ⟨fun i H => ∃ xs x, SqT K H a xs ∧ xs[i]? = some x, fun i H x H' => H' = H ∧ ∀ xs, SqT K H a xs → xs[i]? = some x, fun i H => ∃ xs, SqT K H a xs ∧ xs.length ≤ i⟩
def Itr (lo : Int) (n : Nat) : It := ⟨fun i _ => i < n, fun i H x H' => H' = H ∧ x = .int (lo + i), fun i _ => n ≤ i⟩
theorem turn_list {P : Program} {w : World} {K : PySem.W.Frag} {tg : Expr} (a it : Addr) : Turn P w K tg (Itl K a) [it] it (fun i h => h.IsListIter it a i) where
  mem := by simp
  obj := fun i h st b hb => by
    have e : b = it := by simpa using hb
    subst e
    obtain ⟨o, e, c, d⟩ := st
    exact ⟨o, e, fun v z => by rw [d] at z; cases z⟩
  keep := fun i h h' st k => st.at fun o e => k it (by simp) o e
  item := by
    intro X hP hw hK hc i pins s σ H E I hf st hg
    subst hP hw hK
    obtain ⟨xs, x, hq, hx⟩ := hg
    obtain ⟨its, rv, p, hz⟩ := I.list hq
    obtain ⟨u, hu, ru⟩ := rv.get hx
    obtain ⟨f0, f1, f2, f3, f4, f5⟩ := hf it (by simp)
    refine wpAny_pyNext_list_item st p.isList (x := u) (by simpa using hu) fun h' st' sb => ?_
    have I1 : Inv X pins σ H { s with heap := h' } := I.turned (t' := s.toks) (fun b o hb e => (sb.2 b hb).trans e) f0 f1 f3 f4 f5
    obtain ⟨o, e, c, d⟩ := id st'
    exact ⟨u, rfl, go_of (s := { s with heap := h' }) e c d (by decide) ⟨x, H, I1, ru, ⟨rfl, fun ys hy => by rw [I.list_inj hy hq]; exact hx⟩, st', fun b hb => (hf b hb).1⟩⟩
  done := by
    intro X hP hw hK hc i pins s σ H E I hf st hg
    subst hP hw hK
    obtain ⟨xs, hq, hx⟩ := hg
    obtain ⟨its, rv, p, hz⟩ := I.list hq
    obtain ⟨f0, f1, f2, f3, f4, f5⟩ := hf it (by simp)
    have hl := rv.length
    exact list_endQ (I.qt hc) st p.isList (by simp; omega) fun h' eb => ⟨rfl, I.turned (t' := s.toks) (fun b o hb e => eb b o hb e) f0 f1 f3 f4 f5⟩
  self := fun _ _ _ _ _ st h => wpAny_pyIter_listiter st h
theorem turn_tuple {P : Program} {w : World} {K : PySem.W.Frag} {tg : Expr} (a it : Addr) : Turn P w K tg (Itt K a) [it] it (fun i h => h.IsTupleIter it a i) where
  mem := by simp
  obj := fun i h st b hb => by
    have e : b = it := by simpa using hb
    subst e
    obtain ⟨o, e, c, d⟩ := st
    exact ⟨o, e, fun v z => by rw [d] at z; cases z⟩
  keep := fun i h h' st k => st.at fun o e => k it (by simp) o e
  item := by
    intro X hP hw hK hc i pins s σ H E I hf st hg
    subst hP hw hK
    obtain ⟨xs, x, hq, hx⟩ := hg
    obtain ⟨its, rv, p, hz⟩ := I.tuple hq
    obtain ⟨u, hu, ru⟩ := rv.get hx
    obtain ⟨f0, f1, f2, f3, f4, f5⟩ := hf it (by simp)
    refine wpAny_pyNext_tuple_item st (show s.heap.IsTuple a its.toArray from p) (x := u) (by simpa using hu) fun h' st' sb => ?_
    have I1 : Inv X pins σ H { s with heap := h' } := I.turned (t' := s.toks) (fun b o hb e => (sb.2 b hb).trans e) f0 f1 f3 f4 f5
    obtain ⟨o, e, c, d⟩ := id st'
    exact ⟨u, rfl, go_of (s := { s with heap := h' }) e c d (by decide) ⟨x, H, I1, ru, ⟨rfl, fun ys hy => by rw [I.tuple_inj hy hq]; exact hx⟩, st', fun b hb => (hf b hb).1⟩⟩
  done := by
    intro X hP hw hK hc i pins s σ H E I hf st hg
    subst hP hw hK
    obtain ⟨xs, hq, hx⟩ := hg
    obtain ⟨its, rv, p, hz⟩ := I.tuple hq
    obtain ⟨f0, f1, f2, f3, f4, f5⟩ := hf it (by simp)
    have hl := rv.length
    exact tuple_endQ (I.qt hc) st (show s.heap.IsTuple a its.toArray from p) (by simp; omega) fun h' eb => ⟨rfl, I.turned (t' := s.toks) (fun b o hb e => eb b o hb e) f0 f1 f3 f4 f5⟩
  self := fun _ _ _ _ _ st h => wpAny_pyIter_tupleiter st h
theorem turn_range {P : Program} {w : World} {K : PySem.W.Frag} {tg : Expr} (it : Addr) (lo : Int) (n : Nat) : Turn P w K tg (Itr lo n) [it] it (fun i h => IsRangeIter h it (lo + (i : Nat) * 1) ((n : Int) - (i : Nat)) 1) where
  mem := by simp
  obj := fun i h st b hb => by
    have e : b = it := by simpa using hb
    subst e
    exact ⟨_, st, fun v z => by
      have z' : Data.fields _ = Data.cell v := z
      cases z'⟩
  keep := fun i h h' st k => k it (by simp) _ st
  item := by
    intro X hP hw hK hc i pins s σ H E I hf st hg
    subst hP hw hK
    obtain ⟨f0, f1, f2, f3, f4, f5⟩ := hf it (by simp)
    have hlt : i < n := hg
    refine wpAny_pyNext_range_item st (by omega) fun h' st' sb => ?_
    have e1 : lo + ((i : Nat) : Int) * 1 + 1 = lo + ((i + 1 : Nat) : Int) * 1 := by omega
    have e2 : (n : Int) - ((i : Nat) : Int) - 1 = (n : Int) - ((i + 1 : Nat) : Int) := by omega
    rw [e1, e2] at st'
    have I1 : Inv X pins σ H { s with heap := h', toks := s.toks + 1 } := I.turned (fun b o hb e => (sb.2 b hb).trans e) f0 f1 f3 f4 f5
    refine ⟨_, rfl, go_of (s := { s with heap := h', toks := s.toks + 1 }) (n := "range_iterator") st' rfl rfl (by decide) ⟨.int (lo + i), H, I1, ⟨s.toks, ?_⟩, ⟨rfl, rfl⟩, st', fun b hb => (hf b hb).1⟩⟩
    rw [Int.mul_one]
  done := by
    intro X hP hw hK hc i pins s σ H E I hf st hg
    subst hP hw hK
    obtain ⟨f0, f1, f2, f3, f4, f5⟩ := hf it (by simp)
    exact range_endQ (I.qt hc) st (by have : n ≤ i := hg; omega) fun h' eb => ⟨rfl, I.turned (t' := s.toks) (fun b o hb e => eb b o hb e) f0 f1 f3 f4 f5⟩
  self := fun _ _ _ _ _ st h => wpAny_pyIter_rangeiter st h
end L2
namespace L2
open PySem PySem.Spec PyProof.Rows
section
variable {X : Cx} {tg : Expr}
def iList (K : PySem.W.Frag) (tl : TE) : TI := fun σ H R => tl σ H fun x H1 => ∃ a, x = .ref a ∧ (∃ xs, SqL K H1 a xs) ∧ R (Itl K a) H1
def iTup (K : PySem.W.Frag) (tl : TE) : TI := fun σ H R => tl σ H fun x H1 => ∃ a, x = .ref a ∧ (∃ xs, SqT K H1 a xs) ∧ R (Itt K a) H1
theorem pi_list {l : Expr} {tl : TE} (hl : PE X l tl) : PI X tg l (iList X.K tl) := by
  intro pins s σ H R I h
  refine thn (hl pins s σ H _ I h) fun v s1 ⟨x, H1, I1, r1, q1⟩ => ?_
  obtain ⟨a, e, ⟨xs, hq⟩, q⟩ := q1
  subst e
  cases r1
  obtain ⟨its, rv, p, hz⟩ := I1.list hq
  refine wpAny_pyIter_list p.isList ?_
  refine ⟨s1.heap.objs.size, [s1.heap.objs.size], _, _, H1, rfl, I1.kept (t' := s1.toks) fun b o e => Heap.get?_push_of_some _ e, turn_list a _, ⟨_, Heap.get?_push_size _ rfl, rfl, rfl⟩, fun b hb => ?_, q⟩
  have e : b = s1.heap.objs.size := by simpa using hb
  subst e
  exact I1.fpOk (Nat.le_refl _) (I1.hok.fresh (Nat.le_refl _))
theorem pi_tup {l : Expr} {tl : TE} (hl : PE X l tl) : PI X tg l (iTup X.K tl) := by
  intro pins s σ H R I h
  refine thn (hl pins s σ H _ I h) fun v s1 ⟨x, H1, I1, r1, q1⟩ => ?_
  obtain ⟨a, e, ⟨xs, hq⟩, q⟩ := q1
  subst e
  cases r1
  obtain ⟨its, rv, p, hz⟩ := I1.tuple hq
  refine wpAny_pyIter_tuple (show s1.heap.IsTuple a its.toArray from p) ?_
  refine ⟨s1.heap.objs.size, [s1.heap.objs.size], _, _, H1, rfl, I1.kept (t' := s1.toks) fun b o e => Heap.get?_push_of_some _ e, turn_tuple a _, ⟨_, Heap.get?_push_size _ rfl, rfl, rfl⟩, fun b hb => ?_, q⟩
  have e : b = s1.heap.objs.size := by simpa using hb
  subst e
  exact I1.fpOk (Nat.le_refl _) (I1.hok.fresh (Nat.le_refl _))
theorem range_it {pins : List (Addr × Obj)} {σ : St} {H : Hp} {s : Shared} {R : It → Hp → Prop} {E : Value → Shared → Prop} {lo hi : Int} {t u v : Tok} {tk : Nat} (I : Inv X pins σ H s) (h1 : -(2 ^ 62) ≤ lo) (h2 : lo < 2 ^ 62) (h3 : -(2 ^ 62) ≤ hi) (h4 : hi < 2 ^ 62)
    (q : R (Itr lo (hi - lo).toNat) H) : wpAny (model X.prog X.w) X.A (pyIter (.ref s.heap.objs.size)) (PIE X pins σ tg R) E { s with heap := s.heap.push { cls := .type "range", data := .fields #[.int lo t, .int hi u, .int 1 v] }, toks := tk } := by
  refine wpAny_pyIter_range (IsRange.new ..) (small_one h1 h2 h3 h4) ?_
  have I1 : Inv X pins σ H { s with heap := s.heap.push { cls := .type "range", data := .fields #[.int lo t, .int hi u, .int 1 v] }, toks := tk } := I.kept fun b o e => Heap.get?_push_of_some _ e
  refine ⟨(s.heap.push { cls := .type "range", data := .fields #[.int lo t, .int hi u, .int 1 v] }).objs.size, [(s.heap.push { cls := .type "range", data := .fields #[.int lo t, .int hi u, .int 1 v] }).objs.size], _, _, H, rfl,
    I1.kept (t' := tk) fun b o e => Heap.get?_push_of_some _ e, turn_range _ lo (hi - lo).toNat, ?_, fun b hb => ?_, q⟩
  · have e1 : lo + ((0 : Nat) : Int) * 1 = lo := by simp
    have e2 : (((hi - lo).toNat : Nat) : Int) - ((0 : Nat) : Int) = Builtin.Range.rangeSize lo hi 1 := by rw [rangeSize_one]; split <;> omega
    show IsRangeIter _ _ (lo + ((0 : Nat) : Int) * 1) ((((hi - lo).toNat : Nat) : Int) - ((0 : Nat) : Int)) 1
    rw [e1, e2]
    exact Heap.get?_push_size _ rfl
  · have e : b = (s.heap.push { cls := .type "range", data := .fields #[.int lo t, .int hi u, .int 1 v] }).objs.size := by simpa using hb
    subst e
    exact I1.fpOk (Nat.le_refl _) (I1.hok.fresh (Nat.le_refl _))
def iRng1 (ta : TA) : TI := fun σ H R => ta σ H fun vs H1 => ∃ j : Int, vs = [.int j] ∧ -(2 ^ 62) ≤ j ∧ j < 2 ^ 62 ∧ R (Itr 0 j.toNat) H1
def iRng2 (ta : TA) : TI := fun σ H R => ta σ H fun vs H1 => ∃ i j : Int, vs = [.int i, .int j] ∧ (-(2 ^ 62) ≤ i ∧ i < 2 ^ 62 ∧ -(2 ^ 62) ≤ j ∧ j < 2 ^ 62) ∧ R (Itr i (j - i).toNat) H1
theorem pi_range1 {a : Expr} {ta : TA} {p pos : Pos} (hg : Gl X "range") (hm : X.mg "range" = none) (ha : PA X [a] ta) (hs : starEach [a] X.env = [(false, eval a X.env)] := by rfl) : PI X tg (.Call (.Name "range" p) [a] [] pos) (iRng1 ta) := by
  intro pins s σ H R I h
  refine Call_ (ld_blt I hg hm boot_range (PyProof.Rows.callWith_type1 (thn (ha pos pins s σ H _ I h) fun us s1 ⟨vs, H1, I1, r1, q1⟩ => ?_) hs rfl))
  obtain ⟨j, e, q1, q2, q⟩ := q1
  subst e
  cases r1 with
  | cons r rr =>
    cases rr
    obtain ⟨t, rfl⟩ := r
    exact call_range_1 (range_it I1 (by omega) (by omega) q1 q2 (by simpa using q))
theorem pi_range2 {a b : Expr} {ta : TA} {p pos : Pos} (hg : Gl X "range") (hm : X.mg "range" = none) (ha : PA X [a, b] ta) (hs : starEach [a, b] X.env = [(false, eval a X.env), (false, eval b X.env)] := by rfl) (hs2 : starEach [b] X.env = [(false, eval b X.env)] := by rfl) :
    PI X tg (.Call (.Name "range" p) [a, b] [] pos) (iRng2 ta) := by
  intro pins s σ H R I h
  refine Call_ (ld_blt I hg hm boot_range (PyProof.Rows.callWith_type1 (thn (ha pos pins s σ H _ I h) fun us s1 ⟨vs, H1, I1, r1, q1⟩ => ?_) (by rw [hs, hs2]) (by rw [hs2]; rfl)))
  obtain ⟨i, j, e, ⟨q1, q2, q3, q4⟩, q⟩ := q1
  subst e
  cases r1 with
  | cons r rr =>
    cases rr with
    | cons r' rr =>
      cases rr
      obtain ⟨t, rfl⟩ := r
      obtain ⟨t', rfl⟩ := r'
      exact call_range_2 (range_it I1 q1 q2 q3 q4 q)
def tFor (wi : TI) (g : TG) (tb : TS) : TS := fun D σ H => wi σ H fun J H1 => ∃ W : Nat → Nat → St → Hp → Prop, (∃ m, W 0 m σ H1) ∧ ∀ i m σ H, W i m σ H →
  (J.stop i H ∧ D.nx σ H) ∨ (J.go i H ∧ ∃ N : St → Hp → Prop, (∀ σ' H', N σ' H' → ∃ m', m' < m ∧ W (i + 1) m' σ' H') ∧ ∀ x H', J.yld i H x H' → g x σ H' fun σ2 H2 => tb { D with nx := N, ct := N, bk := D.nx } σ2 H2)
def pinsAt (fp : List Addr) (h : Heap) : List (Addr × Obj) := fp.filterMap fun b => (h.get? b).map fun o => (b, o)
theorem mem_pinsAt {fp : List Addr} {h : Heap} {b : Addr} {o : Obj} (hb : b ∈ fp) (e : h.get? b = some o) : (b, o) ∈ pinsAt fp h := List.mem_filterMap.mpr ⟨b, hb, by rw [e]; rfl⟩
theorem of_pinsAt {fp : List Addr} {h : Heap} {p : Addr × Obj} (hp : p ∈ pinsAt fp h) : p.1 ∈ fp ∧ h.get? p.1 = some p.2 := by
  obtain ⟨b, hb, e⟩ := List.mem_filterMap.mp hp
  cases q : h.get? b with
  | none => rw [q] at e; cases e
  | some o =>
    rw [q] at e
    have e' : (b, o) = p := Option.some.inj e
    subst e'
    exact ⟨hb, q⟩
theorem Inv.pinned {pins : List (Addr × Obj)} {σ : St} {H : Hp} {s : Shared} {fp : List Addr} (I : Inv X pins σ H s) (hf : ∀ b ∈ fp, FpOk X pins H b) (ho : ∀ b ∈ fp, ∃ o, s.heap.get? b = some o ∧ ∀ v, o.data ≠ .cell v) : Inv X (pins ++ pinsAt fp s.heap) σ H s :=
  I.pins_of fun p hp => (List.mem_append.mp hp).elim (fun z => I.pin p (List.mem_append_right _ z)) fun z => by
    obtain ⟨hb, e⟩ := of_pinsAt z
    obtain ⟨f0, f1, f2, _⟩ := hf p.1 hb
    obtain ⟨o, e', d⟩ := ho p.1 hb
    rw [e] at e'; cases e'
    exact ⟨e, f0, f1, f2, d⟩
theorem Inv.unpinned {pins pl : List (Addr × Obj)} {σ : St} {H : Hp} {s : Shared} (I : Inv X (pins ++ pl) σ H s) : Inv X pins σ H s := I.pins_of fun p hp => I.pin p (List.mem_append_right _ (List.mem_append_left _ hp))
theorem ps_for {iter : Expr} {body : List Stmt} {wi : TI} {g : TG} {tb : TS} {pos : Pos} (hp : PassesOwn (model X.prog X.w) X.A X.env X.xe) (hc : X.calm = true) (hi : PI X tg iter wi) (hg : PG X tg g) (hb : PSs X body tb)
    (hs : ∀ x, foldedSetIterable iter X.env x = pure x := by intro _; rfl) : PS X (.For tg iter body [] pos) (tFor wi g tb) := by
  intro pins s σ H D I h
  refine wpAny_For (thn (hi pins s σ H _ I h) fun v s1 h1 => thn h1 fun itv s2 h2 => ?_) hs
  obtain ⟨it, fp, tn, J, H2, e, I2, T, st2, f2, W, ⟨m0, w0⟩, turn⟩ := h2
  subst e
  have stat : ∀ {H' : Hp}, (∀ b ∈ fp, H' b = none) → ∀ b ∈ fp, FpOk X pins H' b := fun hn b hb => ⟨hn b hb, (f2 b hb).2⟩
  refine codeAny_forLoop_any (fun n s' => ∃ i σ' H', Inv X pins σ' H' s' ∧ tn i s'.heap ∧ (∀ b ∈ fp, H' b = none) ∧ W i n σ' H') ?_ m0 ⟨0, σ, H2, I2, st2, fun b hb => (f2 b hb).1, w0⟩
  rintro n s3 ⟨i, σ3, H3, I3, st3, fr3, w3⟩
  rcases turn i n σ3 H3 w3 with ⟨stop, qn⟩ | ⟨go, N, hN, step⟩
  · refine wpAny_passesOwn hp (thn (T.done X rfl rfl rfl hc i pins s3 σ3 H3 X.xe I3 (stat fr3) st3 stop) fun r s4 ⟨hr, I4⟩ => ?_)
    subst hr
    exact wpAny_execs_nil ⟨σ3, H3, I4, qn⟩
  · refine wpAny_passesOwn hp (thn (T.item X rfl rfl rfl hc i pins s3 σ3 H3 X.xe I3 (stat fr3) st3 go) fun r s4 ⟨u, hr, h4⟩ => ?_)
    subst hr
    refine wpAny_passesOwn hp (thn h4 fun _ s5 ⟨x, H5, I5, r5, y5, st5, fr5⟩ => ?_)
    have I5' := I5.pinned (stat fr5) (T.obj _ _ st5)
    refine wpAny_passesOwn hp (thn (hg _ s5 σ3 H5 x u _ I5' r5 (step x H5 y5)) fun _ s6 ⟨σ6, H6, I6, q6⟩ => ?_)
    refine wpAny_passesOwn hp (thn (hb _ s6 σ6 H6 _ I6 q6) fun f s7 q7 => ?_)
    have again : ∀ {σ7 : St} {H7 : Hp}, Inv X (pins ++ pinsAt fp s5.heap) σ7 H7 s7 → N σ7 H7 → ∃ m, m < n ∧ ∃ i σ' H', Inv X pins σ' H' s7 ∧ tn i s7.heap ∧ (∀ b ∈ fp, H' b = none) ∧ W i m σ' H' := fun {σ7 H7} I7 n7 => by
      obtain ⟨m', hm, w7⟩ := hN σ7 H7 n7
      refine ⟨m', hm, i + 1, σ7, H7, I7.unpinned, T.keep _ _ _ st5 fun b hb o e => (I7.pin (b, o) (List.mem_append_right _ (List.mem_append_right _ (mem_pinsAt hb e)))).1, fun b hb => ?_, w7⟩
      obtain ⟨o, e, d⟩ := T.obj _ _ st5 b hb
      exact (I7.pin (b, o) (List.mem_append_right _ (List.mem_append_right _ (mem_pinsAt hb e)))).2.1
    cases f with
    | next => obtain ⟨σ7, H7, I7, n7⟩ := q7; exact again I7 n7
    | cont => obtain ⟨σ7, H7, I7, n7⟩ := q7; exact again I7 n7
    | brk => obtain ⟨σ7, H7, I7, q7⟩ := q7; exact ⟨σ7, H7, I7.unpinned, q7⟩
    | ret v => obtain ⟨x7, σ7, H7, I7, r7, q7⟩ := q7; exact ⟨x7, σ7, H7, I7.unpinned, r7, q7⟩
end
theorem for_list {K : PySem.W.Frag} {a : Addr} {xs : List V} {g : TG} {tb : TS} {D : Ends} {σ : St} {H : Hp} (Pv : Nat → St → Hp → Prop) (h0 : Pv 0 σ H) (hl : ∀ i σ H, i ≤ xs.length → Pv i σ H → SqL K H a xs)
    (hs : ∀ i x σ H, xs[i]? = some x → Pv i σ H → g x σ H fun σ2 H2 => tb { D with nx := Pv (i + 1), ct := Pv (i + 1), bk := D.nx } σ2 H2) (hd : ∀ σ H, Pv xs.length σ H → D.nx σ H) :
    ∃ W : Nat → Nat → St → Hp → Prop, (∃ m, W 0 m σ H) ∧ ∀ i m σ H, W i m σ H →
      ((Itl K a).stop i H ∧ D.nx σ H) ∨ ((Itl K a).go i H ∧ ∃ N : St → Hp → Prop, (∀ σ' H', N σ' H' → ∃ m', m' < m ∧ W (i + 1) m' σ' H') ∧ ∀ x H', (Itl K a).yld i H x H' → g x σ H' fun σ2 H2 => tb { D with nx := N, ct := N, bk := D.nx } σ2 H2) := by
  refine ⟨fun i m σ H => m = xs.length - i ∧ i ≤ xs.length ∧ Pv i σ H, ⟨xs.length, by simp, Nat.zero_le _, h0⟩, ?_⟩
  rintro i m σ H ⟨rfl, hi, p⟩
  have q := hl i σ H hi p
  by_cases hlt : i < xs.length
  · refine .inr ⟨⟨xs, xs[i], q, by simp [hlt]⟩, Pv (i + 1), fun σ' H' p' => ⟨xs.length - (i + 1), by omega, rfl, hlt, p'⟩, fun x H' y => ?_⟩
    obtain ⟨e, y⟩ := y
    subst e
    exact hs i x σ _ (y xs q) p
  · have e : i = xs.length := by omega
    subst e
    exact .inl ⟨⟨xs, q, Nat.le_refl _⟩, hd σ H p⟩
theorem for_range {lo : Int} {n : Nat} {g : TG} {tb : TS} {D : Ends} {σ : St} {H : Hp} (Pv : Nat → St → Hp → Prop) (h0 : Pv 0 σ H)
    (hs : ∀ i σ H, i < n → Pv i σ H → g (.int (lo + i)) σ H fun σ2 H2 => tb { D with nx := Pv (i + 1), ct := Pv (i + 1), bk := D.nx } σ2 H2) (hd : ∀ σ H, Pv n σ H → D.nx σ H) :
    ∃ W : Nat → Nat → St → Hp → Prop, (∃ m, W 0 m σ H) ∧ ∀ i m σ H, W i m σ H →
      ((Itr lo n).stop i H ∧ D.nx σ H) ∨ ((Itr lo n).go i H ∧ ∃ N : St → Hp → Prop, (∀ σ' H', N σ' H' → ∃ m', m' < m ∧ W (i + 1) m' σ' H') ∧ ∀ x H', (Itr lo n).yld i H x H' → g x σ H' fun σ2 H2 => tb { D with nx := N, ct := N, bk := D.nx } σ2 H2) := by
  refine ⟨fun i m σ H => m = n - i ∧ i ≤ n ∧ Pv i σ H, ⟨n, by simp, Nat.zero_le _, h0⟩, ?_⟩
  rintro i m σ H ⟨rfl, hi, p⟩
  by_cases hlt : i < n
  · refine .inr ⟨hlt, Pv (i + 1), fun σ' H' p' => ⟨n - (i + 1), by omega, rfl, hlt, p'⟩, fun x H' y => ?_⟩
    obtain ⟨e, y⟩ := y
    subst e y
    exact hs i σ _ hlt p
  · have e : i = n := by omega
    subst e
    exact .inl ⟨Nat.le_refl _, hd σ H p⟩
end L2
namespace L2
open PySem PySem.Spec PyProof.Rows
abbrev R2 := V → V → Hp → VK → Prop
def OpR (X : Cx) (f : Value → Value → Sem Value) (r : R2) : Prop :=
  ∀ (pins : List (Addr × Obj)) (s : Shared) (σ : St) (H : Hp) (x y : V) (v u : Value) (Q : VK), Inv X pins σ H s → RelV x v → RelV y u → r x y H Q →
    wpAny (model X.prog X.w) X.A (f v u) (EP X pins σ Q) X.xe s
def UnR (X : Cx) (f : Value → Sem Value) (r : V → Hp → VK → Prop) : Prop :=
  ∀ (pins : List (Addr × Obj)) (s : Shared) (σ : St) (H : Hp) (x : V) (v : Value) (Q : VK), Inv X pins σ H s → RelV x v → r x H Q →
    wpAny (model X.prog X.w) X.A (f v) (EP X pins σ Q) X.xe s
def CallR (X : Cx) (f : Value) (r : List V → Hp → VK → Prop) : Prop :=
  ∀ (pins : List (Addr × Obj)) (s : Shared) (σ : St) (H : Hp) (xs : List V) (us : List Value) (Q : VK), Inv X pins σ H s → Vals xs us → r xs H Q →
    wpAny (model X.prog X.w) X.A (call f us) (EP X pins σ Q) X.xe s
def tOp (r : R2) (ta tb : TE) : TE := fun σ H Q => ta σ H fun x H1 => tb σ H1 fun y H2 => r x y H2 Q
def tUn (r : V → Hp → VK → Prop) (ta : TE) : TE := fun σ H Q => ta σ H fun x H1 => r x H1 Q
def rI (C : Int → Int → Prop) (g : Int → Int → V) : R2 := fun x y H Q => ∃ i j, x = .int i ∧ y = .int j ∧ C i j ∧ Q (g i j) H
def rI0 (g : Int → Int → V) : R2 := fun x y H Q => ∃ i j, x = .int i ∧ y = .int j ∧ Q (g i j) H
def rU (g : Int → V) : V → Hp → VK → Prop := fun x H Q => ∃ i, x = .int i ∧ Q (g i) H
section
variable {X : Cx} {a b c : Expr} {ta tb tc : TE} {pos : Pos}
theorem binT (ha : PE X a ta) (hb : PE X b tb) {pins : List (Addr × Obj)} {s : Shared} {σ : St} {H : Hp} {R : V → V → Hp → Prop} (I : Inv X pins σ H s)
    (h : ta σ H fun x H1 => tb σ H1 fun y H2 => R x y H2) {Q : Value → Shared → Prop} {f : Value → Value → Sem Value}
    (hf : ∀ v u s2 x y H2, Inv X pins σ H2 s2 → RelV x v → RelV y u → R x y H2 → wpAny (model X.prog X.w) X.A (f v u) Q X.xe s2) :
    wpAny (model X.prog X.w) X.A (eval a X.env) (fun v s₁ => wpAny (model X.prog X.w) X.A (eval b X.env) (fun u s₂ => wpAny (model X.prog X.w) X.A (f v u) Q X.xe s₂) X.xe s₁) X.xe s := by
  refine thn (ha pins s σ H _ I h) fun v s1 ⟨x, H1, I1, r1, q1⟩ => ?_
  refine thn (hb pins s1 σ H1 _ I1 q1) fun u s2 ⟨y, H2, I2, r2, q2⟩ => ?_
  exact hf v u s2 x y H2 I2 r1 r2 q2
theorem pe_op {op : Operator} {r : R2} (ho : OpR X (binaryOp op) r) (ha : PE X a ta) (hb : PE X b tb) : PE X (.BinOp a op b pos) (tOp r ta tb) := by
  intro pins s σ H Q I h
  exact wpAny_BinOp (binT ha hb I h fun v u s2 x y H2 I2 rx ry q => ho pins s2 σ H2 x y v u Q I2 rx ry q)
theorem pe_un {op : UnaryOp} {r : V → Hp → VK → Prop} (ho : UnR X (unaryOp op) r) (ha : PE X a ta) : PE X (.UnaryOp op a pos) (tUn r ta) := by
  intro pins s σ H Q I h
  exact UnaryOp_ (thn (ha pins s σ H _ I h) fun v s1 ⟨x, H1, I1, r1, q1⟩ => ho pins s1 σ H1 x v Q I1 r1 q1)
theorem opI {f : Value → Value → Sem Value} {C : Int → Int → Prop} {g : Int → Int → Int}
    (rule : ∀ (i j : Int) (t u : Tok) (s : Shared) (Q : Value → Shared → Prop) (E : Value → Shared → Prop), C i j → Q (.int (g i j) s.toks) { s with toks := s.toks + 1 } → wpAny (model X.prog X.w) X.A (f (.int i t) (.int j u)) Q E s) :
    OpR X f (rI C fun i j => .int (g i j)) := by
  intro pins s σ H x y v u Q I rx ry h
  obtain ⟨i, j, rfl, rfl, hc, q⟩ := h
  obtain ⟨t, rfl⟩ := rx
  obtain ⟨t', rfl⟩ := ry
  exact rule i j t t' s _ _ hc ⟨.int (g i j), H, I.tok _, ⟨_, rfl⟩, q⟩
theorem opI0 {f : Value → Value → Sem Value} {g : Int → Int → Int}
    (rule : ∀ (i j : Int) (t u : Tok) (s : Shared) (Q : Value → Shared → Prop) (E : Value → Shared → Prop), Q (.int (g i j) s.toks) { s with toks := s.toks + 1 } → wpAny (model X.prog X.w) X.A (f (.int i t) (.int j u)) Q E s) :
    OpR X f (rI0 fun i j => .int (g i j)) := by
  intro pins s σ H x y v u Q I rx ry h
  obtain ⟨i, j, rfl, rfl, q⟩ := h
  obtain ⟨t, rfl⟩ := rx
  obtain ⟨t', rfl⟩ := ry
  exact rule i j t t' s _ _ ⟨.int (g i j), H, I.tok _, ⟨_, rfl⟩, q⟩
theorem opB0 {f : Value → Value → Sem Value} {g : Int → Int → Bool}
    (rule : ∀ (i j : Int) (t u : Tok) (s : Shared) (Q : Value → Shared → Prop) (E : Value → Shared → Prop), Q (.bool (g i j)) s → wpAny (model X.prog X.w) X.A (f (.int i t) (.int j u)) Q E s) :
    OpR X f (rI0 fun i j => .bl (g i j)) := by
  intro pins s σ H x y v u Q I rx ry h
  obtain ⟨i, j, rfl, rfl, q⟩ := h
  obtain ⟨t, rfl⟩ := rx
  obtain ⟨t', rfl⟩ := ry
  exact rule i j t t' s _ _ ⟨.bl (g i j), H, I, rfl, q⟩
def CDiv (i j : Int) : Prop := 0 < j ∧ j < 1073741824
def CPow (i j : Int) : Prop := 0 ≤ j ∧ j ≤ 1000000 ∧ i.natAbs < 2 ^ 64
def CMul (i j : Int) : Prop := (-(2 ^ 64) < i ∧ i < 2 ^ 64) ∨ (-(2 ^ 64) < j ∧ j < 2 ^ 64)
theorem CMul.ok {i j : Int} (h : CMul i j) : IntMulOk i j := by
  rcases h with ⟨h1, h2⟩ | ⟨h1, h2⟩
  · exact .of_left (intBits_le_64 h1 h2)
  · exact .of_right (intBits_le_64 h1 h2)
theorem op_add : OpR X (binaryOp .Add) (rI0 fun i j => .int (i + j)) := opI0 fun _ _ _ _ _ _ _ q => add_int q
theorem op_sub : OpR X (binaryOp .Sub) (rI0 fun i j => .int (i - j)) := opI0 fun _ _ _ _ _ _ _ q => sub_int q
theorem op_mul : OpR X (binaryOp .Mult) (rI CMul fun i j => .int (i * j)) := opI fun _ _ _ _ _ _ _ hc q => mul_int q hc.ok
theorem op_fdiv : OpR X (binaryOp .FloorDiv) (rI CDiv fun i j => .int (i / j)) := opI fun i j _ _ _ _ _ hc q => by
  have h1 : (0 : Int) < j := hc.1
  have h2 : j < 1073741824 := hc.2
  exact floordiv_int (by omega) (by rw [Int.fdiv_eq_ediv_of_nonneg i (by omega)]; exact q) (.inl (PyProof.noPylong_small (by omega)))
theorem op_mod : OpR X (binaryOp .Mod) (rI (fun _ j => 0 < j) fun i j => .int (i % j)) := opI fun i j _ _ _ _ _ hc q => by
  have h1 : (0 : Int) < j := hc
  exact mod_int' (by omega) (by rw [Int.fmod_eq_emod_of_nonneg i (by omega)]; exact q)
theorem op_pow : OpR X (binaryOp .Pow) (rI CPow fun i j => .int (i ^ j.toNat)) := opI fun _ _ _ _ _ _ _ hc q => pow_int_small hc.1 hc.2.1 hc.2.2 q
theorem unI {f : Value → Sem Value} {g : Int → Int}
    (rule : ∀ (i : Int) (t : Tok) (s : Shared) (Q : Value → Shared → Prop) (E : Value → Shared → Prop), Q (.int (g i) s.toks) { s with toks := s.toks + 1 } → wpAny (model X.prog X.w) X.A (f (.int i t)) Q E s) :
    UnR X f (rU fun i => .int (g i)) := by
  intro pins s σ H x v Q I rx h
  obtain ⟨i, rfl, q⟩ := h
  obtain ⟨t, rfl⟩ := rx
  exact rule i t s _ _ ⟨.int (g i), H, I.tok _, ⟨_, rfl⟩, q⟩
theorem un_neg : UnR X (unaryOp .USub) (rU fun i => .int (-i)) := unI fun _ _ _ _ _ q => neg_int q
end
def scal : V → V → Bool
  | .non, .non => true | .non, .int _ => true | .int _, .non => true | .non, .bl _ => true | .bl _, .non => true | .non, .str _ => true | .str _, .non => true
  | .int _, .int _ => true | .bl _, .bl _ => true | .str _, .str _ => true | .byt _, .byt _ => true
  | .int _, .str _ => true | .str _, .int _ => true | .bl _, .str _ => true | .str _, .bl _ => true
  | _, _ => false
def rEq : R2 := fun x y H Q => scal x y = true ∧ Q (.bl (decide (x = y))) H
def rNe : R2 := fun x y H Q => scal x y = true ∧ Q (.bl (!decide (x = y))) H
theorem dec_int {i j : Int} : decide (V.int i = V.int j) = (i == j) := by
  rw [Bool.eq_iff_iff]
  simp
theorem dec_bl {i j : Bool} : decide (V.bl i = V.bl j) = (i == j) := by
  rw [Bool.eq_iff_iff]
  simp
theorem dec_str {i j : Str} : decide (V.str i = V.str j) = (i == j) := by
  rw [Bool.eq_iff_iff]
  simp
theorem dec_byt {i j : Array UInt8} : decide (V.byt i = V.byt j) = (i.toList == j.toList) := by
  rw [Bool.eq_iff_iff]
  cases i
  cases j
  simp
section
variable {X : Cx} {a b c : Expr} {ta tb tc : TE} {pos : Pos}
theorem fin_bl {pins : List (Addr × Obj)} {σ : St} {H : Hp} {s : Shared} {Q : VK} {k k' : Bool} (I : Inv X pins σ H s) (q : Q (.bl k) H) (e : k = k') : EP X pins σ Q (.bool k') s := by
  subst e
  exact ⟨.bl k, H, I, rfl, q⟩
theorem op_eq : OpR X (compareOp .Eq) rEq := by
  intro pins s σ H x y v u Q I rx ry h
  obtain ⟨hs, q⟩ := h
  cases x with
  | non =>
    cases rx
    cases y with
    | non => cases ry; exact PySem.EqNone.eq_none_none (fin_bl I q (by simp))
    | bl j => cases ry; exact PySem.EqNone.eq_none_bool (fin_bl I q (by simp))
    | int j => obtain ⟨t', rfl⟩ := ry; exact PySem.EqNone.eq_none_int (fin_bl I q (by simp))
    | str j => obtain ⟨t', rfl⟩ := ry; exact PySem.EqNone.eq_none_str (fin_bl I q (by simp))
    | _ => exact absurd (show false = true from hs) Bool.false_ne_true
  | bl i =>
    cases rx
    cases y with
    | non => cases ry; exact PySem.EqNone.eq_bool_none (fin_bl I q (by simp))
    | bl j => cases ry; exact eq_bool (fin_bl I q dec_bl)
    | str j => obtain ⟨t', rfl⟩ := ry; exact PySem.EqMixed.eq_bool_str (fin_bl I q (by simp))
    | _ => exact absurd (show false = true from hs) Bool.false_ne_true
  | int i =>
    obtain ⟨t, rfl⟩ := rx
    cases y with
    | non => cases ry; exact PySem.EqNone.eq_int_none (fin_bl I q (by simp))
    | int j => obtain ⟨t', rfl⟩ := ry; exact eq_int (fin_bl I q dec_int)
    | str j => obtain ⟨t', rfl⟩ := ry; exact PySem.EqMixed.eq_int_str (fin_bl I q (by simp))
    | _ => exact absurd (show false = true from hs) Bool.false_ne_true
  | str i =>
    obtain ⟨t, rfl⟩ := rx
    cases y with
    | non => cases ry; exact PySem.EqNone.eq_str_none (fin_bl I q (by simp))
    | bl j => cases ry; exact PySem.EqMixed.eq_str_bool (fin_bl I q (by simp))
    | int j => obtain ⟨t', rfl⟩ := ry; exact PySem.EqMixed.eq_str_int (fin_bl I q (by simp))
    | str j => obtain ⟨t', rfl⟩ := ry; exact eq_str (fin_bl I q dec_str)
    | _ => exact absurd (show false = true from hs) Bool.false_ne_true
  | byt i =>
    obtain ⟨t, rfl⟩ := rx
    cases y with
    | byt j => obtain ⟨t', rfl⟩ := ry; exact PySem.W.eq_bytes (fin_bl I q dec_byt)
    | _ => exact absurd (show false = true from hs) Bool.false_ne_true
  | _ => cases y <;> exact absurd (show false = true from hs) Bool.false_ne_true
theorem op_ne : OpR X (compareOp .NotEq) rNe := by
  intro pins s σ H x y v u Q I rx ry h
  obtain ⟨hs, q⟩ := h
  cases x with
  | non =>
    cases rx
    cases y with
    | non => cases ry; exact PySem.EqNone.ne_none_none (fin_bl I q (by simp))
    | bl j => cases ry; exact PySem.EqNone.ne_none_bool (fin_bl I q (by simp))
    | int j => obtain ⟨t', rfl⟩ := ry; exact PySem.EqNone.ne_none_int (fin_bl I q (by simp))
    | str j => obtain ⟨t', rfl⟩ := ry; exact PySem.EqNone.ne_none_str (fin_bl I q (by simp))
    | _ => exact absurd (show false = true from hs) Bool.false_ne_true
  | bl i =>
    cases rx
    cases y with
    | non => cases ry; exact PySem.EqNone.ne_bool_none (fin_bl I q (by simp))
    | bl j => cases ry; exact ne_bool (fin_bl I q (congrArg not dec_bl))
    | str j => obtain ⟨t', rfl⟩ := ry; exact PySem.EqMixed.ne_bool_str (fin_bl I q (by simp))
    | _ => exact absurd (show false = true from hs) Bool.false_ne_true
  | int i =>
    obtain ⟨t, rfl⟩ := rx
    cases y with
    | non => cases ry; exact PySem.EqNone.ne_int_none (fin_bl I q (by simp))
    | int j => obtain ⟨t', rfl⟩ := ry; exact ne_int (fin_bl I q (congrArg not dec_int))
    | str j => obtain ⟨t', rfl⟩ := ry; exact PySem.EqMixed.ne_int_str (fin_bl I q (by simp))
    | _ => exact absurd (show false = true from hs) Bool.false_ne_true
  | str i =>
    obtain ⟨t, rfl⟩ := rx
    cases y with
    | non => cases ry; exact PySem.EqNone.ne_str_none (fin_bl I q (by simp))
    | bl j => cases ry; exact PySem.EqMixed.ne_str_bool (fin_bl I q (by simp))
    | int j => obtain ⟨t', rfl⟩ := ry; exact PySem.EqMixed.ne_str_int (fin_bl I q (by simp))
    | str j => obtain ⟨t', rfl⟩ := ry; exact ne_str (fin_bl I q (congrArg not dec_str))
    | _ => exact absurd (show false = true from hs) Bool.false_ne_true
  | byt i =>
    obtain ⟨t, rfl⟩ := rx
    cases y with
    | byt j => obtain ⟨t', rfl⟩ := ry; exact PySem.W.ne_bytes (fin_bl I q (congrArg not dec_byt))
    | _ => exact absurd (show false = true from hs) Bool.false_ne_true
  | _ => cases y <;> exact absurd (show false = true from hs) Bool.false_ne_true
theorem op_lt : OpR X (compareOp .Lt) (rI0 fun i j => .bl (decide (i < j))) := opB0 fun _ _ _ _ _ _ _ q => lt_int q
theorem op_le : OpR X (compareOp .LtE) (rI0 fun i j => .bl (decide (i ≤ j))) := opB0 fun _ _ _ _ _ _ _ q => le_int q
theorem op_gt : OpR X (compareOp .Gt) (rI0 fun i j => .bl (decide (j < i))) := opB0 fun _ _ _ _ _ _ _ q => gt_int q
theorem op_isN : OpR X (compareOp .Is) (fun x y H Q => y = .non ∧ Q (.bl (decide (x = .non))) H) := by
  intro pins s σ H x y v u Q I rx ry h
  obtain ⟨rfl, q⟩ := h
  cases ry
  refine is_none_gen (fin_bl I q ?_)
  cases x <;> first
    | (cases rx; rfl)
    | (obtain ⟨t, rfl⟩ := rx; rfl)
theorem op_notN : OpR X (compareOp .IsNot) (fun x y H Q => y = .non ∧ Q (.bl (!decide (x = .non))) H) := by
  intro pins s σ H x y v u Q I rx ry h
  obtain ⟨rfl, q⟩ := h
  cases ry
  refine isnot_none_gen (fin_bl I q ?_)
  cases x <;> first
    | (cases rx; rfl)
    | (obtain ⟨t, rfl⟩ := rx; rfl)
theorem op_notin_str : OpR X (compareOp .NotIn) (fun x y H Q => ∃ i j, x = .str i ∧ y = .str j ∧ Q (.bl (!(!(Builtin.Str.occurrences j i 0 j.length 1).isEmpty))) H) := by
  intro pins s σ H x y v u Q I rx ry h
  obtain ⟨i, j, rfl, rfl, q⟩ := h
  obtain ⟨t, rfl⟩ := rx
  obtain ⟨t', rfl⟩ := ry
  exact notIn_str (fin_bl I q rfl)
theorem nomark (b : Expr) {op : CmpOp} (h : op ≠ .In := by decide) (h2 : op ≠ .NotIn := by decide) : behindInMarks op b = false := by
  have e1 : (op == CmpOp.In) = false := by cases op <;> first | rfl | exact absurd rfl h
  have e2 : (op == CmpOp.NotIn) = false := by cases op <;> first | rfl | exact absurd rfl h2
  cases b <;> simp [behindInMarks, e1, e2]
theorem pe_cmpR {op : CmpOp} {r : R2} (ho : OpR X (compareOp op) r) (ha : PE X a ta) (hb : PE X b tb) (hm : behindInMarks op b = false) : PE X (.Compare a [op] [b] pos) (tOp r ta tb) := by
  intro pins s σ H Q I h
  exact wpAny_Compare1 (binT ha hb I h fun v u s2 x y H2 I2 rx ry q => ho pins s2 σ H2 x y v u Q I2 rx ry q) hm
def tTest (t : TE) : TT := fun σ H Q => t σ H fun x H' => ∃ k, x = .bl k ∧ Q k H'
theorem pt_cmpR {op : CmpOp} {r : R2} (ho : OpR X (compareOp op) r) (ha : PE X a ta) (hb : PE X b tb) (hm : behindInMarks op b = false) : PT X (.Compare a [op] [b] pos) (tTest (tOp r ta tb)) := by
  intro pins s σ H Q I h
  refine wpAny_isTrue_Compare1 (thn (ha pins s σ H _ I h) fun v s1 ⟨x, H1, I1, r1, q1⟩ => thn (hb pins s1 σ H1 _ I1 q1) fun u s2 ⟨y, H2, I2, r2, q2⟩ =>
    thn (ho pins s2 σ H2 x y v u _ I2 r1 r2 q2) fun c s3 ⟨z, H3, I3, r3, k, e, q3⟩ => ?_) hm
  subst e
  cases r3
  exact wpAny_truthy_bool ⟨H3, I3, q3⟩
def tChain (r r' : R2) (ta tb tc : TE) : TE := fun σ H Q => ta σ H fun x H1 => tb σ H1 fun y H2 => r x y H2 fun z H3 => ∃ k, z = .bl k ∧
  (if k = true then tc σ H3 fun w' H4 => r' y w' H4 Q else Q (.bl false) H3)
theorem pe_chain {op op' : CmpOp} {r r' : R2} (ho : OpR X (compareOp op) r) (ho' : OpR X (compareOp op') r') (ha : PE X a ta) (hb : PE X b tb) (hc : PE X c tc)
    (hm : lastMarks [op, op'] [b, c] = false := by with_unfolding_all rfl) : PE X (.Compare a [op, op'] [b, c] pos) (tChain r r' ta tb tc) := by
  intro pins s σ H Q I h
  refine Compare_chain (thn (ha pins s σ H _ I h) fun v s1 ⟨x, H1, I1, r1, q1⟩ => chain_link (thn (hb pins s1 σ H1 _ I1 q1) fun u s2 ⟨y, H2, I2, r2, q2⟩ =>
    thn (ho pins s2 σ H2 x y v u _ I2 r1 r2 q2) fun d s3 ⟨z, H3, I3, r3, k, e, q3⟩ => ?_)) hm
  subst e
  cases r3
  refine wpAny_truthy_bool ?_
  cases k with
  | false => exact ite_ff ⟨.bl false, H3, I3, rfl, q3⟩
  | true => exact ite_tt (chain_last (thn (hc pins s3 σ H3 _ I3 q3) fun w' s4 ⟨z', H4, I4, r4, q4⟩ => ho' pins s4 σ H4 y z' u w' Q I4 r2 r4 q4))
theorem line63 : (sizeLine : Nat) < 2 ^ 63 := by rw [sizeLine_eq]; decide
theorem op_add_str : OpR X (binaryOp .Add) (fun x y H Q => ∃ i j, x = .str i ∧ y = .str j ∧ i.length + j.length ≤ sizeLine ∧ Q (.str (i ++ j)) H) := by
  intro pins s σ H x y v u Q I rx ry h
  obtain ⟨i, j, rfl, rfl, hz, q⟩ := h
  obtain ⟨t, rfl⟩ := rx
  obtain ⟨t', rfl⟩ := ry
  exact add_str (fun t' tk => ⟨.str (i ++ j), H, I.tok _, ⟨_, rfl⟩, q⟩) hz
theorem vals1 {x : V} {us : List Value} (r : Vals [x] us) : ∃ u, us = [u] ∧ RelV x u := by
  cases r with
  | cons r1 r2 => cases r2; exact ⟨_, rfl, r1⟩
theorem vals2 {x y : V} {us : List Value} (r : Vals [x, y] us) : ∃ u w', us = [u, w'] ∧ RelV x u ∧ RelV y w' := by
  cases r with
  | cons r1 r2 =>
    cases r2 with
    | cons r3 r4 => cases r4; exact ⟨_, _, rfl, r1, r3⟩
theorem call_max2 (hc : X.A.handled = none) : CallR X (.builtin "max") (fun xs H Q => ∃ i j, xs = [.int i, .int j] ∧ Q (.int (if j > i then j else i)) H) := by
  intro pins s σ H xs us Q I r h
  obtain ⟨i, j, rfl, q⟩ := h
  obtain ⟨u, w', rfl, ⟨t, rfl⟩, ⟨t', rfl⟩⟩ := vals2 r
  refine max_two_ints hc fun h' tk k => ⟨_, H, I.kept k, ?_, q⟩
  by_cases hj : j > i
  · rw [if_pos hj, if_pos hj]; exact ⟨_, rfl⟩
  · rw [if_neg hj, if_neg hj]; exact ⟨_, rfl⟩
theorem call_min2 (hc : X.A.handled = none) : CallR X (.builtin "min") (fun xs H Q => ∃ i j, xs = [.int i, .int j] ∧ Q (.int (if j < i then j else i)) H) := by
  intro pins s σ H xs us Q I r h
  obtain ⟨i, j, rfl, q⟩ := h
  obtain ⟨u, w', rfl, ⟨t, rfl⟩, ⟨t', rfl⟩⟩ := vals2 r
  refine min_two_ints hc fun h' tk k => ⟨_, H, I.kept k, ?_, q⟩
  by_cases hj : j < i
  · rw [if_pos hj, if_pos hj]; exact ⟨_, rfl⟩
  · rw [if_neg hj, if_neg hj]; exact ⟨_, rfl⟩
theorem call_str_int : CallR X (.type "str") (fun xs H Q => ∃ i, xs = [.int i] ∧ i.natAbs.log2 < 1920 ∧ Q (.str (toString i)) H) := by
  intro pins s σ H xs us Q I r h
  obtain ⟨i, rfl, hz, q⟩ := h
  obtain ⟨u, rfl, t, rfl⟩ := vals1 r
  exact PySem.P.str_of_int hz ⟨.str _, H, I.tok _, ⟨_, rfl⟩, q⟩
theorem call_ord : CallR X (.builtin "ord") (fun xs H Q => ∃ x, xs = [.str x] ∧ x.length = 1 ∧ Q (.int (x.cps.getD 0 0 : Nat)) H) := by
  intro pins s σ H xs us Q I r h
  obtain ⟨x, rfl, hz, q⟩ := h
  obtain ⟨u, rfl, t, rfl⟩ := vals1 r
  exact ord_of_one hz ⟨.int _, H, I.tok _, ⟨_, rfl⟩, q⟩
end
end L2
namespace L2
open PySem PySem.Spec PyProof.Rows
structure ObjM (h : Heap) (x dx C : Addr) (mA : Str → Option Value) : Prop where
  obj : h.get? x = some (PySem.W.instObj C dx)
  ns : h.Ns1 dx mA
  ne : dx ≠ x
theorem lookIn_ns {h : Heap} {dx : Addr} {mA : Str → Option Value} (n : h.Ns1 dx mA) : ∃ od, h.get? dx = some od ∧ ∀ name, PySem.W.lookIn name od = some (mA name) := by
  obtain ⟨o, es, ep, ho, hd, hk, _, hm⟩ := n
  refine ⟨o, ho, fun name => ?_⟩
  have e := hm name
  unfold nsFind findBy at e
  rw [← Array.find?_toList] at e
  unfold PySem.W.lookIn
  rw [hd]
  dsimp only
  split
  · rename_i y q
    rw [q] at e
    exact congrArg some e
  · rename_i q
    rw [q] at e
    have a : es.toList.any (·.refKey) = false := by
      rw [List.any_eq_false]
      intro y hy
      obtain ⟨z, t, hkey⟩ := hk y (Array.mem_toList_iff.mp hy)
      simp [DictEntry.refKey, hkey]
    have a' : ¬ es.toList.any (·.refKey) = true := by rw [a]; exact Bool.false_ne_true
    rw [if_neg a']
    exact congrArg some e
theorem ObjM.look {h : Heap} {x dx C : Addr} {mA : Str → Option Value} (I : ObjM h x dx C mA) : ∃ od, PySem.W.InstAt h x (PySem.W.instObj C dx) C (some od) ∧ ∀ name, PySem.W.lookIn name od = some (mA name) :=
  let ⟨od, ho, hl⟩ := lookIn_ns I.ns
  ⟨od, ⟨I.obj, rfl, rfl, ho⟩, hl⟩
section
variable {prog : Program} {w : World} {A : Around} {E : Value → Shared → Prop} {s : Shared} {K : PySem.W.Frag} {x dx C f : Addr} {mA : Str → Option Value} {name : Str} {v : Value}
theorem get_map {expr : Bool} {Q : Value → Shared → Prop} (X : K.In s.heap) (I : ObjM s.heap x dx C mA) (hg : PySem.W.plainGet K C name = true) (hh : PySem.W.hasDictIn K C = true)
    (ha : PySem.W.findIn K (.ref C) name = some none) (hv : mA name = some v) (hv' : PySem.W.handedIn v = true) (h : Q v { s with toks := s.toks + 1 }) :
    wpAny (model prog w) A (getAttr (.ref x) name expr) Q E s := by
  obtain ⟨od, J, hl⟩ := I.look
  exact PySem.W.get_value X J (PySem.W.plainGet_of hg).1 (PySem.W.findObj_own hh ha rfl (by rw [hl, hv])) hv' h
theorem get_meth {pl : Sem Bool} {Q : Value × List Value → Shared → Prop} (X : K.In s.heap) (I : ObjM s.heap x dx C mA) (hg : PySem.W.plainGet K C name = true)
    (hf : PySem.W.findIn K (.ref C) name = some (some (.ref f))) (ht : PySem.W.isFn K (.ref f) = true) (hv : mA name = none) (h : Q (.ref f, [.ref x]) s) :
    wpAny (model prog w) A (getMethod (.ref x) name pl) Q E s := by
  obtain ⟨od, J, hl⟩ := I.look
  exact PySem.W.method_fn X J (PySem.W.plainGet_of hg).1 (PySem.W.plainGet_of hg).2 hf (beq_iff_eq.mp ht) (by show (PySem.W.lookIn name od).map (·.isSome) = some false; rw [hl, hv]; rfl) h
theorem set_map {ns : List Str} {Q : Unit → Shared → Prop} (X : K.In s.heap) (I : ObjM s.heap x dx C mA)
    (hs : PySem.W.findIn K (.ref C) "__setattr__" = some (some (.builtin "object.__setattr__"))) (hp : PySem.W.plainOver K C = true) (ht : PySem.W.takerIn K C name = some none) (hh : PySem.W.hasDictIn K C = true)
    (hw : PySem.Within mA ns) (hsz : ns.length ≤ sizeLine)
    (h : ∀ h', ObjM h' x dx C (fun y => if y = name then some v else mA y) → Heap.SameBut dx s.heap h' → Q () { s with heap := h', toks := s.toks + 2 }) :
    wpAny (model prog w) A (setAttr (.ref x) name v) Q E s := by
  obtain ⟨od, J, hl⟩ := I.look
  refine PySem.W.set_plain X J hs (PySem.W.osa_open (s := { s with toks := s.toks + 1 }) (r := none) X J hp ht fun b => ?_)
  obtain ⟨cd, hc, hd'⟩ := PySem.W.any_some hh
  have hx : s.heap.get? x = some ⟨.ref C, some dx, .plain, #[]⟩ := I.obj
  refine wpAny_bind (wpAny_pure (wpAny_bind (wpAny_bind (wpAny_loadPart hx (wpAny_bind (PySem.W.Looks.here (s := { s with toks := s.toks + 1 }) (PySem.W.looks_clsIn X hc) ?_))))))
  rw [hd']
  refine wpAny_pure (a := some dx) (wpAny_bind (wpAny_pure (wpAny_bind ?_)))
  refine wpAny_nsSet1 (s := { s with toks := s.toks + 1 }) I.ns fun h' hn2 hs2 => ?_
  obtain ⟨oD, esD, epD, hoD, hdD, hcD⟩ := hn2.count (PySem.Within.cons name v hw)
  refine wpAny_bind (wpAny_lookBehind hoD (by rw [hdD]; exact pastItsLine_dict (Nat.le_trans hcD (by rw [List.length_cons]; omega))) ?_)
  exact wpAny_pure (h _ ⟨(hs2.2 _ (Ne.symm I.ne)).trans I.obj, hn2, I.ne⟩ hs2)
theorem make_map {R : Result → Shared → Prop} {vs : List Value} {kw : List (Str × Value)} (X : K.In s.heap) (hm : PySem.W.makesIn K C = true)
    (hi : PySem.W.findIn K (.ref C) "__init__" = some (some (.ref f))) (hf : PySem.W.typeIn K (.ref f) = some (.type "function"))
    (h : codeAny (model prog w) (A.under (.builtin "type.__call__" ⟨.ref C :: vs, kw⟩)) (.call (.ref f) ⟨.ref (s.heap.objs.size + 1) :: vs, kw⟩) (PySem.W.InitBack (s.heap.objs.size + 1) R)
      { s with heap := (s.heap.push PySem.W.emptyDict).push (PySem.W.instObj C s.heap.objs.size) }) :
    codeAny (model prog w) A (.call (.ref C) ⟨vs, kw⟩) R s := by
  obtain ⟨hh, g, d, t, os⟩ := s
  exact PySem.W.make_core (PySem.W.makes_of X hm) (PySem.W.looks_findIn X hi) (fun self => PySem.W.bind_fn X self hf) (.inl rfl) h
end
def putF (f : Str) (v : V) : List (Str × V) → List (Str × V)
  | [] => [(f, v)]
  | (g, x) :: r => if g = f then (g, v) :: r else (g, x) :: putF f v r
theorem lookup_putF (f g : Str) (v : V) : ∀ fs : List (Str × V), (putF f v fs).lookup g = if g = f then some v else fs.lookup g
  | [] => by
    show List.lookup g [(f, v)] = _
    by_cases h : g = f
    · have hb : (g == f) = true := beq_iff_eq.mpr h
      simp only [List.lookup, hb, if_pos h]
    · have hb : (g == f) = false := beq_eq_false_iff_ne.mpr h
      simp only [List.lookup, hb, if_neg h]
  | (k, x) :: r => by
    have ih := lookup_putF f g v r
    rw [show putF f v ((k, x) :: r) = (if k = f then (k, v) :: r else (k, x) :: putF f v r) from rfl]
    by_cases hk : k = f
    · rw [if_pos hk]
      by_cases h : g = k
      · have hb : (g == k) = true := beq_iff_eq.mpr h
        simp only [List.lookup, hb, if_pos (h.trans hk)]
      · have hb : (g == k) = false := beq_eq_false_iff_ne.mpr h
        simp only [List.lookup, hb, if_neg (fun e : g = f => h (e.trans hk.symm))]
    · rw [if_neg hk]
      by_cases h : g = k
      · have hb : (g == k) = true := beq_iff_eq.mpr h
        simp only [List.lookup, hb, if_neg (fun e : g = f => hk (h.symm.trans e))]
      · have hb : (g == k) = false := beq_eq_false_iff_ne.mpr h
        simp only [List.lookup, hb]
        exact ih
theorem keys_putF (f : Str) (v : V) : ∀ fs : List (Str × V), f ∈ (putF f v fs).map (·.1) ∧ ∀ g, g ∈ fs.map (·.1) → g ∈ (putF f v fs).map (·.1)
  | [] => ⟨by simp [putF], fun g h => by simp at h⟩
  | (k, x) :: r => by
    obtain ⟨i1, i2⟩ := keys_putF f v r
    rw [show putF f v ((k, x) :: r) = (if k = f then (k, v) :: r else (k, x) :: putF f v r) from rfl]
    by_cases hk : k = f
    · rw [if_pos hk]
      subst hk
      exact ⟨by simp, fun g h => by simpa using h⟩
    · rw [if_neg hk]
      refine ⟨?_, fun g h => ?_⟩
      · rw [List.map_cons]
        exact List.mem_cons_of_mem _ i1
      · rw [List.map_cons] at h ⊢
        rcases List.mem_cons.mp h with e | e
        · exact List.mem_cons.mpr (.inl e)
        · exact List.mem_cons_of_mem _ (i2 g e)
theorem length_putF (f : Str) (v : V) : ∀ fs : List (Str × V), (putF f v fs).length ≤ fs.length + 1
  | [] => by simp [putF]
  | (k, x) :: r => by
    have ih := length_putF f v r
    rw [show putF f v ((k, x) :: r) = (if k = f then (k, v) :: r else (k, x) :: putF f v r) from rfl]
    by_cases hk : k = f
    · rw [if_pos hk, List.length_cons, List.length_cons]; omega
    · rw [if_neg hk, List.length_cons, List.length_cons]; omega
theorem RelO.some_of {v : V} {o : Option Value} (r : RelO (some v) o) : ∃ u, o = some u ∧ RelV v u := by
  cases o with
  | none => exact (show False from r).elim
  | some u => exact ⟨u, rfl, r⟩
theorem RelO.none_of {o : Option Value} (r : RelO none o) : o = none := by
  cases o with
  | none => rfl
  | some u => exact (show False from r).elim
theorem handed_of {v : V} {u : Value} (r : RelV v u) : PySem.W.handedIn u = true := by
  cases v with
  | non => cases (show u = Value.none from r); rfl
  | bl b => cases (show u = Value.bool b from r); rfl
  | int i => obtain ⟨t, e⟩ := (show ∃ t, u = Value.int i t from r); cases e; rfl
  | str x => obtain ⟨t, e⟩ := (show ∃ t, u = Value.str x t from r); cases e; rfl
  | byt b => obtain ⟨t, e⟩ := (show ∃ t, u = Value.bytes b t from r); cases e; rfl
  | flt b => obtain ⟨t, e⟩ := (show ∃ t, u = Value.float b t from r); cases e; rfl
  | ref a => cases (show u = Value.ref a from r); rfl
  | ty n => cases (show u = Value.type n from r); rfl
section
variable {P : Program} {w : World} {H H' : Hp} {h h' : Heap} {a C dx : Addr} {fs fs' : List (Str × V)}
theorem ins_get (hok : HOk P w H h) (e : H a = some (.ins C dx fs)) : ∃ mA, ObjM h a dx C mA ∧ (∀ f, RelO (fs.lookup f) (mA f)) ∧ PySem.Within mA (fs.map (·.1)) ∧ fs.length ≤ 1000 ∧ H dx = some (.own a) := by
  obtain ⟨d, z, ne, ob, mA, n, r, q⟩ := (show ObjOk P w H h a (.ins C dx fs) from hok a _ e)
  exact ⟨mA, ⟨ob, n, ne⟩, r, q, z, d⟩
end
structure Cls (K : PySem.W.Frag) (C : Addr) : Prop where
  pg : PySem.W.plainGet K C Str.empty = true
  hd : PySem.W.hasDictIn K C = true
  po : PySem.W.plainOver K C = true
  sa : PySem.W.findIn K (.ref C) "__setattr__" = some (some (.builtin "object.__setattr__"))
theorem Cls.get {K : PySem.W.Frag} {C : Addr} (c : Cls K C) (f : Str) : PySem.W.plainGet K C f = true := c.pg
def NoAttr (K : PySem.W.Frag) (C : Addr) (f : Str) : Prop := PySem.W.findIn K (.ref C) f = some none
theorem NoAttr.taker {K : PySem.W.Frag} {C : Addr} {f : Str} (n : NoAttr K C f) : PySem.W.takerIn K C f = some none := by
  unfold PySem.W.takerIn
  rw [show PySem.W.findIn K (.ref C) f = some none from n]
  rfl
structure Meth (K : PySem.W.Frag) (C : Addr) (m : Str) (f : Addr) : Prop where
  at_ : PySem.W.findIn K (.ref C) m = some (some (.ref f))
  fn : PySem.W.isFn K (.ref f) = true
  kp : PySem.W.keepIn K (.ref f) = true
section
variable {X : Cx} {pins : List (Addr × Obj)} {σ : St} {H : Hp} {s : Shared} {a C dx : Addr} {fs : List (Str × V)} {f : Str} {v : V} {A : Around} {E : Value → Shared → Prop}
theorem getattr_ok {b : Bool} {Q : Value → Shared → Prop} (I : Inv X pins σ H s) (e : H a = some (.ins C dx fs)) (c : Cls X.K C) (n : NoAttr X.K C f) (l : fs.lookup f = some v)
    (h : ∀ u s', Inv X pins σ H s' → RelV v u → Q u s') : wpAny (model X.prog X.w) A (getAttr (.ref a) f b) Q E s := by
  obtain ⟨mA, O, r, _, _, _⟩ := ins_get I.hok e
  obtain ⟨u, hu, ru⟩ := RelO.some_of (v := v) (o := mA f) (by rw [← l]; exact r f)
  exact get_map I.kIn O (c.get f) c.hd n hu (handed_of ru) (h u _ (I.tok _) ru)
theorem getmeth_ok {m : Str} {g : Addr} {pl : Sem Bool} {Q : Value × List Value → Shared → Prop} (I : Inv X pins σ H s) (e : H a = some (.ins C dx fs)) (c : Cls X.K C) (k : Meth X.K C m g) (l : fs.lookup m = none)
    (h : Q (.ref g, [.ref a]) s) : wpAny (model X.prog X.w) A (getMethod (.ref a) m pl) Q E s := by
  obtain ⟨mA, O, r, _, _, _⟩ := ins_get I.hok e
  have hn : mA m = none := RelO.none_of (by rw [← l]; exact r m)
  exact get_meth I.kIn O (c.get m) k.at_ k.fn hn h
theorem setattr_ok {y : V} {u : Value} {Q : Unit → Shared → Prop} (I : Inv X pins σ H s) (e : H a = some (.ins C dx fs)) (c : Cls X.K C) (n : NoAttr X.K C f) (hl : fs.length < 1000) (ry : RelV y u)
    (h : ∀ s', Inv X pins σ (upd H a (.ins C dx (putF f y fs))) s' → Q () s') : wpAny (model X.prog X.w) A (setAttr (.ref a) f u) Q E s := by
  obtain ⟨mA, O, r, wi, _, ho⟩ := ins_get I.hok e
  have hz : (fs.map (·.1)).length ≤ sizeLine := by rw [List.length_map, sizeLine_eq]; omega
  refine set_map I.kIn O c.sa c.po n.taker c.hd wi hz fun h' O' sb => h _ ?_
  have hd : ∃ o, h'.get? dx = some o := let ⟨o, _, _, e', _⟩ := O'.ns; ⟨o, e'⟩
  refine I.write (x := a) (e := dx) (by rw [e]; exact True.intro) (.inr ho) (fun b q hb z => (sb.2 b hb).trans z) hd ?_
  refine ⟨by rw [upd_ne O.ne]; exact ho, ?_, O.ne, O'.obj, _, O'.ns, fun g => ?_, fun g hg => ?_⟩
  · have := length_putF f y fs; omega
  · show RelO ((putF f y fs).lookup g) (if g = f then some u else mA g)
    rw [lookup_putF]
    by_cases q : g = f
    · rw [if_pos q, if_pos q]; exact ry
    · rw [if_neg q, if_neg q]; exact r g
  · by_cases q : g = f
    · rw [q]; exact (keys_putF f y fs).1
    · refine (keys_putF f y fs).2 g (wi g fun z => hg ?_)
      show (if g = f then some u else mA g) = none
      rw [if_neg q]; exact z
theorem Inv.made (I : Inv X pins σ H s) : Inv X pins σ (upd (upd H s.heap.objs.size (.own (s.heap.objs.size + 1))) (s.heap.objs.size + 1) (.ins C s.heap.objs.size []))
    { s with heap := (s.heap.push PySem.W.emptyDict).push (PySem.W.instObj C s.heap.objs.size) } := by
  have e1 : (s.heap.push PySem.W.emptyDict).get? s.heap.objs.size = some PySem.W.emptyDict := Heap.get?_push_size s.heap rfl
  have e2 : ((s.heap.push PySem.W.emptyDict).push (PySem.W.instObj C s.heap.objs.size)).get? (s.heap.objs.size + 1) = some (PySem.W.instObj C s.heap.objs.size) := by
    have := Heap.get?_push_size (s.heap.push PySem.W.emptyDict) (o := PySem.W.instObj C s.heap.objs.size) rfl
    rwa [Heap.size_push] at this
  have e3 : (s.heap.push PySem.W.emptyDict).Ns s.heap.objs.size (fun _ => none) := ⟨PySem.W.emptyDict, #[], _, e1, rfl, (fun e he => absurd he (by simp)), fun _ => rfl⟩
  have I1 := I.laid (a := s.heap.objs.size) (o := .own (s.heap.objs.size + 1)) (h' := s.heap.push PySem.W.emptyDict) (t' := s.toks) (fun b u q => Heap.get?_push_of_some _ q) (Nat.le_refl _) ⟨_, e1⟩
  refine I1.laid (a := s.heap.objs.size + 1) (o := .ins C s.heap.objs.size []) (t' := s.toks) (fun b u q => Heap.get?_push_of_some _ q) (Nat.le_of_eq (Heap.size_push _ _)) ?_
  have ne : s.heap.objs.size ≠ s.heap.objs.size + 1 := Nat.ne_of_lt (Nat.lt_succ_self _)
  refine ⟨by rw [upd_ne ne, upd_same], Nat.zero_le _, ne, e2, fun _ => none, (Heap.Ns1.of_empty e3).at fun o q => Heap.get?_push_of_some _ q, fun _ => True.intro, fun y hy => absurd rfl hy⟩
theorem attr_of {prog : Program} {w : World} {env : Env} {e : Expr} {f : Str} {pos : Pos} {s : Shared} {Q : Value → Shared → Prop} (hb : attributeBase e f env (eval e env) = eval e env)
    (h : wpAny (model prog w) A (eval e env) (fun o s₁ => wpAny (model prog w) A (getAttr o f true) Q E s₁) E s) : wpAny (model prog w) A (eval (.Attribute e f pos) env) Q E s :=
  Attribute_any_ h (by rw [arm_eval_Attribute, hb])
end
def tFld (K : PySem.W.Frag) (ta : TE) (f : Str) : TE := fun σ H Q => ta σ H fun x H1 => ∃ a C dx fs v, x = .ref a ∧ H1 a = some (.ins C dx fs) ∧ Cls K C ∧ NoAttr K C f ∧ fs.lookup f = some v ∧ Q v H1
def sFld (K : PySem.W.Frag) (ta tv : TE) (f : Str) : TS := fun D σ H => tv σ H fun y H1 => ta σ H1 fun x H2 => ∃ a C dx fs, x = .ref a ∧ H2 a = some (.ins C dx fs) ∧ Cls K C ∧ NoAttr K C f ∧ fs.length < 1000 ∧
  D.nx σ (upd H2 a (.ins C dx (putF f y fs)))
def InOp (X : Cx) (op : Operator) (rd : V → V → Hp → VK → Prop) : Prop :=
  ∀ (pins : List (Addr × Obj)) (s : Shared) (σ : St) (H : Hp) (x y : V) (u v : Value) (Q : VK), Inv X pins σ H s → RelV x u → RelV y v → rd x y H Q → wpAny (model X.prog X.w) X.A (inplaceOp op u v) (EP X pins σ Q) X.xe s
def sFldAug (K : PySem.W.Frag) (ta tv : TE) (rd : V → V → Hp → VK → Prop) (f : Str) : TS := fun D σ H => ta σ H fun x H1 => ∃ a C dx fs v, x = .ref a ∧ H1 a = some (.ins C dx fs) ∧ Cls K C ∧ NoAttr K C f ∧ fs.lookup f = some v ∧
  tv σ H1 fun y H2 => rd v y H2 fun z H3 => ∃ dx' fs', H3 a = some (.ins C dx' fs') ∧ fs'.length < 1000 ∧ D.nx σ (upd H3 a (.ins C dx' (putF f z fs')))
section
variable {X : Cx} {o e value : Expr} {f : Str} {pos pos' tpos : Pos} {ta tv : TE}
theorem pe_fld (he : PE X e ta) (hb : attributeBase e f X.env (eval e X.env) = eval e X.env) : PE X (.Attribute e f pos) (tFld X.K ta f) := by
  intro pins s σ H Q I h
  refine attr_of hb (thn (he pins s σ H _ I h) fun u s1 ⟨x, H1, I1, rx, a, C, dx, fs, v, ex, ea, c, n, l, q⟩ => ?_)
  subst ex
  obtain rfl : u = Value.ref a := rx
  exact getattr_ok I1 ea c n l fun u' s2 I2 ru => ⟨v, H1, I2, ru, q⟩
theorem ps_fld (ha : PE X o ta) (hv : PE X value tv) (hs : swapsWith value (some (.Attribute o f pos')) pos.line X.env = pure false) : PS X (.Assign [.Attribute o f pos'] value pos) (sFld X.K ta tv f) := by
  intro pins s σ H D I h
  refine plainObj_wpAny_Assign_Attribute (thn (hv pins s σ H _ I h) fun u s1 ⟨y, H1, I1, ry, q⟩ => thn (ha pins s1 σ H1 _ I1 q) fun ov s2 ⟨x, H2, I2, rx, a, C, dx, fs, ex, ea, c, n, l, q2⟩ => ?_) hs
  subst ex
  obtain rfl : ov = Value.ref a := rx
  exact setattr_ok I2 ea c n l ry fun s3 I3 => ⟨σ, _, I3, q2⟩
theorem ps_fldaug {op : Operator} {rd : V → V → Hp → VK → Prop} (ha : PE X o ta) (hv : PE X value tv) (hop : InOp X op rd) : PS X (.AugAssign (.Attribute o f tpos) op value pos) (sFldAug X.K ta tv rd f) := by
  intro pins s σ H D I h
  refine wpAny_AugAssign_AttributeAny (thn (ha pins s σ H _ I h) fun ov s1 ⟨x, H1, I1, rx, a, C, dx, fs, v, ex, ea, c, n, l, q⟩ => ?_)
  subst ex
  obtain rfl : ov = Value.ref a := rx
  refine getattr_ok I1 ea c n l fun u s2 I2 ru => thn (hv pins s2 σ H1 _ I2 q) fun w3 s3 ⟨y, H2, I3, ry, q3⟩ => thn (hop pins s3 σ H2 v y u w3 _ I3 ru ry q3) fun w4 s4 ⟨z, H3, I4, rz, dx', fs', ea', l', q4⟩ => ?_
  exact setattr_ok I4 ea' c n l' rz fun s5 I5 => ⟨σ, _, I5, q4⟩
def rAdd : V → V → Hp → VK → Prop := fun x y H Q => ∃ i j, x = .int i ∧ y = .int j ∧ Q (.int (i + j)) H
theorem in_add : InOp X .Add rAdd := by
  rintro pins s σ H x y u v Q I rx ry ⟨i, j, rfl, rfl, q⟩
  obtain ⟨t, rfl⟩ := (show ∃ t, u = Value.int i t from rx)
  obtain ⟨t', rfl⟩ := (show ∃ t', v = Value.int j t' from ry)
  exact PyProof.Rows.iadd_int ⟨.int (i + j), H, I.tok _, ⟨_, rfl⟩, q⟩
end
section
variable {X : Cx} {pins : List (Addr × Obj)} {σ : St} {H : Hp} {s : Shared} {A : Around} {E : Value → Shared → Prop} {Q : Value → Shared → Prop} {c : Value} {b : Bool}
inductive TyOf (K : PySem.W.Frag) (H : Hp) : V → Value → Prop where
  | non : TyOf K H .non (.type "NoneType")
  | bl (x : Bool) : TyOf K H (.bl x) (.type "bool")
  | int (i : Int) : TyOf K H (.int i) (.type "int")
  | str (x : Str) : TyOf K H (.str x) (.type "str")
  | flt (x : UInt64) : TyOf K H (.flt x) (.type "float")
  | lst {a : Addr} {xs : List V} (e : H a = some (.lst xs)) : TyOf K H (.ref a) (.type "list")
  | frz {a : Addr} {o : Obj} {xs : List V} (e : H a = some (.frz o (.lst xs))) : TyOf K H (.ref a) (.type "list")
  | tup {a : Addr} {xs : List V} (e : H a = some (.tup xs)) : TyOf K H (.ref a) (.type "tuple")
  | dK {a : Addr} {kvs : List (Key × V)} (e : H a = some (.dK kvs)) : TyOf K H (.ref a) (.type "dict")
  | dT {a : Addr} {kvs : List (List Key × V)} (e : H a = some (.dT kvs)) : TyOf K H (.ref a) (.type "dict")
  | ins {a C dx : Addr} {fs : List (Str × V)} (e : H a = some (.ins C dx fs)) (cl : Cls K C) (ha : PySem.W.findIn K (.ref C) "__class__" = some (some (.builtin "object.__class__")))
      (hn : PySem.W.specialIn K (.builtin "object.__class__") "__get__" = some (some (.builtin "getset_descriptor.__get__"))) (htk : PySem.W.takesIn K (.builtin "object.__class__") = some true)
      (hm : PySem.W.mroIn K C (.type "object") = some true) : TyOf K H (.ref a) (.ref C)
theorem isinst_ok {x : V} {u t : Value} (I : Inv X pins σ H s) (rx : RelV x u) (ty : TyOf X.K H x t) (e : PySem.W.kitOne X.K t c = some b) (h : ∀ tk, Q (.bool b) { s with toks := tk }) :
    wpAny (model X.prog X.w) A (call (.builtin "isinstance") [u, c]) Q E s := by
  cases ty with
  | non => cases (show u = Value.none from rx); exact PySem.W.kia_one PySem.W.kitx_none I.kIn True.intro e (fun z => nomatch z) h
  | bl y => cases (show u = Value.bool y from rx); exact PySem.W.kia_one PySem.W.kitx_bool I.kIn True.intro e (fun z => nomatch z) h
  | int i => obtain ⟨t, q⟩ := (show ∃ t, u = Value.int i t from rx); cases q; exact PySem.W.kia_one PySem.W.kitx_int I.kIn True.intro e (fun z => nomatch z) h
  | str y => obtain ⟨t, q⟩ := (show ∃ t, u = Value.str y t from rx); cases q; exact PySem.W.kia_one PySem.W.kitx_str I.kIn True.intro e (fun z => nomatch z) h
  | flt y => obtain ⟨t, q⟩ := (show ∃ t, u = Value.float y t from rx); cases q; exact PySem.W.kia_one PySem.W.kitx_float I.kIn True.intro e (fun z => nomatch z) h
  | @lst a xs ea =>
    cases (show u = Value.ref a from rx)
    obtain ⟨_, _, n, _, h1⟩ := (show ObjOk X.prog X.w H s.heap a (.lst xs) from I.hok a _ ea)
    exact PySem.W.kia_one PySem.W.kitx_list I.kIn ⟨_, h1, rfl⟩ e (fun z => nomatch z) h
  | @frz a ob xs ea =>
    cases (show u = Value.ref a from rx)
    obtain ⟨_, _, _, n, _, h1⟩ := (show ObjOk X.prog X.w H s.heap a (.frz ob (.lst xs)) from I.hok a _ ea)
    exact PySem.W.kia_one PySem.W.kitx_list I.kIn ⟨_, h1, rfl⟩ e (fun z => nomatch z) h
  | @tup a xs ea =>
    cases (show u = Value.ref a from rx)
    obtain ⟨_, _, _, p⟩ := (show ObjOk X.prog X.w H s.heap a (.tup xs) from I.hok a _ ea)
    obtain ⟨o, h1, h2, _⟩ := p
    exact PySem.W.kia_one PySem.W.kitx_tuple I.kIn ⟨o, h1, h2⟩ e (fun z => nomatch z) h
  | @dK a kvs ea =>
    cases (show u = Value.ref a from rx)
    obtain ⟨_, _, vs, _, p⟩ := (show ObjOk X.prog X.w H s.heap a (.dK kvs) from I.hok a _ ea)
    obtain ⟨o, es, ep, h1, h2, _⟩ := p
    exact PySem.W.kia_one PySem.W.kitx_dict I.kIn ⟨o, h1, h2.1⟩ e (fun z => nomatch z) h
  | @dT a kvs ea =>
    cases (show u = Value.ref a from rx)
    obtain ⟨_, _, xs, _, o, es, ep, h1, h2, _⟩ := (show ObjOk X.prog X.w H s.heap a (.dT kvs) from I.hok a _ ea)
    exact PySem.W.kia_one PySem.W.kitx_dict I.kIn ⟨o, h1, h2.1⟩ e (fun z => nomatch z) h
  | @ins a C dx fs ea cl ha hn htk hm =>
    cases (show u = Value.ref a from rx)
    obtain ⟨mA, O, _⟩ := ins_get I.hok ea
    obtain ⟨od, J, _⟩ := O.look
    exact PySem.W.kia_one (PySem.W.kitx_own (cl.get _) cl.hd ha hn htk hm) I.kIn J e (fun z => nomatch z) h
end
end L2
namespace L2
open PySem PySem.Spec PyProof.Rows
structure Room (k : Nat) (A : Around) : Prop where
  hd : 20 ≤ k → A.handled = none
  dp : A.depth + 3 * k + 5 < recursionLimit
  un : A.units + 16 * k + 200 < cLine
theorem Room.mono {j k : Nat} {A : Around} (r : Room k A) (h : j ≤ k) : Room j A := ⟨fun z => r.hd (Nat.le_trans z h), by have := r.dp; omega, by have := r.un; omega⟩
theorem Room.deeper {k : Nat} {A : Around} (r : Room (k + 1) A) (env : Env) : Room k (A.deeper env) :=
  ⟨fun z => r.hd (Nat.le_succ_of_le z), by have := r.dp; show A.depth + 1 + 3 * k + 5 < _; omega, by have := r.un; show A.units + 3 + 16 * k + 200 < _; omega⟩
theorem make_depth {A : Around} {C : Addr} {us : List Value} {kw : List (Str × Value)} : (A.under (.builtin "type.__call__" ⟨.ref C :: us, kw⟩)).depth = A.depth + 1 := by
  first | rfl | simp [Around.under, Code.weight, Code.isCreation, Code.isGuard, Code.isCaller, Code.frames, Code.isFrame, guardIds]
theorem make_units {A : Around} {C : Addr} {us : List Value} {kw : List (Str × Value)} : (A.under (.builtin "type.__call__" ⟨.ref C :: us, kw⟩)).units = A.units + 1 := by
  first | rfl | simp [Around.under, Code.cUnits, Code.frames, Code.isFrame]
theorem Room.make {k : Nat} {A : Around} (r : Room (k + 1) A) (C : Addr) (us : List Value) (kw : List (Str × Value)) : Room k (A.under (.builtin "type.__call__" ⟨.ref C :: us, kw⟩)) :=
  ⟨fun z => r.hd (Nat.le_succ_of_le z), by have := r.dp; rw [make_depth]; omega, by have := r.un; rw [make_units]; omega⟩
theorem Room.depth {k : Nat} {A : Around} (r : Room k A) : A.depth < recursionLimit := by have := r.dp; omega
theorem Room.units {k : Nat} {A : Around} (r : Room k A) : A.units + 64 < cLine := by have := r.un; omega
def tNil : TA := fun _ H Q => Q [] H
def tCons (ta : TE) (tr : TA) : TA := fun σ H Q => ta σ H fun x H1 => tr σ H1 fun xs H2 => Q (x :: xs) H2
section
variable {X : Cx} {e : Expr} {es : List Expr} {te : TE} {t : TA} {pos : Pos}
theorem pa_nil : PA X [] tNil := fun _ _ _ _ H Q I h => Calls.spliced_nil ⟨[], H, I, .nil, h⟩
theorem pa_cons (ha : PE X e te) (hr : PA X es t) (hs : starEach (e :: es) X.env = (false, eval e X.env) :: starEach es X.env := by rfl) : PA X (e :: es) (tCons te t) := by
  intro pos pins s σ H Q I h
  rw [hs]
  show wpAny _ _ (spliced ((false, eval e X.env) :: backTo pos (starEach es X.env))) _ _ s
  refine Calls.spliced_cons (thn (ha pins s σ H _ I h) fun u s1 ⟨x, H1, I1, r1, q1⟩ => ?_)
  exact thn (hr pos pins s1 σ H1 _ I1 q1) fun us s2 ⟨xs, H2, I2, r2, q2⟩ => ⟨x :: xs, H2, I2, .cons r1 r2, q2⟩
def tTup (t : TA) : TE := fun σ H Q => t σ H fun xs H1 => xs.length ≤ sizeLine ∧ ∀ p, H1 p = none → Q (.ref p) (upd H1 p (.tup xs))
def tLst (t : TA) : TE := fun σ H Q => t σ H fun xs H1 => xs.length ≤ sizeLine ∧ ∀ p, H1 p = none → Q (.ref p) (upd H1 p (.lst xs))
theorem pe_tup {x1} (h : PA X es t) : PE X (.Tuple es x1 pos) (tTup t) := by
  intro pins s σ H Q I hq
  refine wpAny_Tuple_spliced (thn (h pos pins s σ H _ I hq) fun us s1 ⟨xs, H1, I1, r, z, q⟩ => ⟨by rw [← r.length]; exact z, ?_⟩)
  have hf : H1 s1.heap.objs.size = none := I1.hok.fresh (Nat.le_refl _)
  refine ⟨.ref s1.heap.objs.size, upd H1 s1.heap.objs.size (.tup xs), I1.laid (t' := s1.toks) (fun b u e => Heap.get?_push_of_some _ e) (Nat.le_refl _) ?_, rfl, q _ hf⟩
  exact ⟨z, us, r, ⟨_, Heap.get?_push_size _ rfl, rfl, _, rfl⟩⟩
theorem pe_lst (h : PA X es t) : PE X (.List es pos) (tLst t) := by
  intro pins s σ H Q I hq
  refine wpAny_List_spliced (thn (h pos pins s σ H _ I hq) fun us s1 ⟨xs, H1, I1, r, z, q⟩ => ⟨by rw [← r.length]; exact z, ?_⟩)
  have hf : H1 s1.heap.objs.size = none := I1.hok.fresh (Nat.le_refl _)
  refine ⟨.ref s1.heap.objs.size, upd H1 s1.heap.objs.size (.lst xs), I1.laid (t' := s1.toks) (fun b u e => Heap.get?_push_of_some _ e) (Nat.le_refl _) ?_, rfl, q _ hf⟩
  exact ⟨z, us, 0, r, Heap.get?_push_size _ rfl⟩
end
abbrev Sp := List V → Hp → VK → XK → Prop
abbrev CXT := List Env → Hp → Shared → XK → Value → Shared → Prop
structure Env0 (P : Program) (w : World) (K : PySem.W.Frag) (mg : Str → Option Value) (base : Heap) (A : Around) (outer : List Env) (s : Shared) (H : Hp) : Prop where
  frames : A.frames = some outer
  mod : Mod K mg base
  bs : ∀ b o, base.get? b = some o → s.heap.get? b = some o ∧ H b = none
  bsz : base.objs.size ≤ s.heap.objs.size
  funs : s.heap.FunFrames base outer
  frf : ∀ b ∈ frs outer, H b = none
  hok : HOk P w H s.heap
  bare : AllBare s.gens
  qt : QtH A base
def CE (outer : List Env) (P : Program) (w : World) (H : Hp) (s : Shared) (Q : VK) (u : Value) (s' : Shared) : Prop :=
  ∃ v H', s'.os = s.os ∧ AllBare s'.gens ∧ Un (frs outer) [] H H' s.heap s'.heap ∧ HOk P w H' s'.heap ∧ RelV v u ∧ Q v H'
def CR (CX : CXT) (outer : List Env) (P : Program) (w : World) (H : Hp) (s : Shared) (Q : VK) (E : XK) (r : Result) (s' : Shared) : Prop :=
  match r with
  | .ok (.ret u) => CE outer P w H s Q u s'
  | .ok _ => False
  | .error e => CX outer H s E e s'
structure FnOk (P : Program) (w : World) (K : PySem.W.Frag) (mg : Str → Option Value) (base : Heap) (CX : CXT) (k : Nat) (f : Addr) (fd : FuncData) (ps : List Str) (sp : Sp) : Prop where
  len : ∀ vs H Q E, sp vs H Q E → vs.length = ps.length
  run : ∀ (A : Around) (outer : List Env) (s : Shared) (H : Hp) (args : Args) (us : List Value) (vs : List V) (Q : VK) (E : XK), Room k A → Env0 P w K mg base A outer s H → BindsTo s fd args (ps.zip us) → Vals vs us → sp vs H Q E →
    codeAny (model P w) A (.call (.ref f) args) (CR CX outer P w H s Q E) s
theorem FnOk.mono {P : Program} {w : World} {K : PySem.W.Frag} {mg : Str → Option Value} {base : Heap} {CX : CXT} {j k : Nat} {f : Addr} {fd : FuncData} {ps : List Str} {sp : Sp} (F : FnOk P w K mg base CX j f fd ps sp) (h : j ≤ k) :
    FnOk P w K mg base CX k f fd ps sp := ⟨F.len, fun A outer s H args us vs Q E hr => F.run A outer s H args us vs Q E (hr.mono h)⟩
theorem FnOk.imp {P : Program} {w : World} {K : PySem.W.Frag} {mg : Str → Option Value} {base : Heap} {CX : CXT} {k : Nat} {f : Addr} {fd : FuncData} {ps : List Str} {sp sp' : Sp} (F : FnOk P w K mg base CX k f fd ps sp)
    (h : ∀ vs H Q E, sp' vs H Q E → sp vs H Q E) : FnOk P w K mg base CX k f fd ps sp' :=
  ⟨fun vs H Q E q => F.len vs H Q E (h _ _ _ _ q), fun A outer s H args us vs Q E hr he hb hv hs => F.run A outer s H args us vs Q E hr he hb hv (h _ _ _ _ hs)⟩
theorem Env0.make {P : Program} {w : World} {K : PySem.W.Frag} {mg : Str → Option Value} {base : Heap} {A : Around} {outer : List Env} {s : Shared} {H : Hp} (e : Env0 P w K mg base A outer s H) (C : Addr) (us : List Value) (kw : List (Str × Value)) :
    Env0 P w K mg base (A.under (.builtin "type.__call__" ⟨.ref C :: us, kw⟩)) outer s H := ⟨by first | exact e.frames | (simpa [Around.under, Code.envs, Code.isFrame, pushEnvs] using e.frames), e.mod, e.bs, e.bsz, e.funs, e.frf, e.hok, e.bare, e.qt⟩
section
variable {X : Cx} {pins : List (Addr × Obj)} {σ : St} {H : Hp} {s s' : Shared}
theorem Inv.env0 (hq : QtH X.A X.base) (I : Inv X pins σ H s) : Env0 X.prog X.w X.K X.mg X.base X.A X.stack s H :=
  ⟨I.ok.frames, I.ok.mod, I.bs, Nat.le_trans I.ok.bsz I.sz, I.stack, I.stkFree, I.hok, I.bare, hq⟩
theorem Inv.after {Q : VK} {u : Value} (I : Inv X pins σ H s) (h : CE X.stack X.prog X.w H s Q u s') : EP X pins σ Q u s' := by
  obtain ⟨v, H', os, bare, un, hok, r, q⟩ := h
  obtain ⟨hh, g, d, t, os'⟩ := s'
  obtain rfl : os' = s.os := os
  exact ⟨v, H', I.call (h' := hh) (g' := g) (d' := d) (t' := t) (ch := []) un hok bare (fun b z => absurd z (by simp)), r, q⟩
end
def tCall (sp : Sp) (dvs : List V) (E : XK) (t : TA) : TE := fun σ H Q => t σ H fun vs H1 => sp (vs ++ dvs) H1 Q E
def tMeth (C : Addr) (m : Str) (sp : Sp) (dvs : List V) (E : XK) (ta : TE) (t : TA) : TE := fun σ H Q => ta σ H fun x H1 => ∃ a dx fs, x = .ref a ∧ H1 a = some (.ins C dx fs) ∧ fs.lookup m = none ∧
  t σ H1 fun vs H2 => sp (x :: (vs ++ dvs)) H2 Q E
def tMake (C : Addr) (sp : Sp) (dvs : List V) (E : XK) (t : TA) : TE := fun σ H Q => t σ H fun vs H1 => ∀ x dx, H1 x = none → H1 dx = none → dx ≠ x →
  sp (.ref x :: (vs ++ dvs)) (upd (upd H1 dx (.own x)) x (.ins C dx [])) (fun v H2 => v = .non ∧ Q (.ref x) H2) E
def Binds (K : PySem.W.Frag) (fd : FuncData) (ps : List Str) (ds : List Value) : Prop :=
  ∀ (s : Shared) (us : List Value), K.In s.heap → (us ++ ds).length = ps.length → BindsTo s fd ⟨us, []⟩ (ps.zip (us ++ ds))
theorem Binds.all {K : PySem.W.Frag} {fd : FuncData} {ps : List Str} (h : ∀ us : List Value, us.length = ps.length → bindArgs fd ⟨us, []⟩ = pure (ps.zip us)) : Binds K fd ps [] := fun s us _ hl => by
  rw [List.append_nil] at hl ⊢
  exact .of_eq (h us hl)
def Passes (CX : CXT) (X : Cx) (E : XK) : Prop := ∀ (pins : List (Addr × Obj)) (σ : St) (H : Hp) (s : Shared) (e : Value) (s' : Shared), Inv X pins σ H s → CX X.stack H s E e s' → X.xe e s'
section
variable {X : Cx} {CX : CXT} {k : Nat} {f C : Addr} {fd : FuncData} {ps : List Str} {sp : Sp} {dvs : List V} {ds : List Value} {E : XK} {x m : Str} {p pos apos : Pos} {e o : Expr} {es : List Expr} {ta : TE} {t : TA}
theorem run_fn {pins : List (Addr × Obj)} {σ : St} {H : Hp} {s : Shared} {Q : VK} {us : List Value} {vs : List V} (hcq : X.calm = true) (F : FnOk X.prog X.w X.K X.mg X.base CX k f fd ps sp) (hr : Room k X.A) (hb : Binds X.K fd ps ds) (hd : Vals dvs ds) (hx : Passes CX X E)
    (I : Inv X pins σ H s) (r : Vals vs us) (h : sp (vs ++ dvs) H Q E) : wpAny (model X.prog X.w) X.A (call (.ref f) us) (EP X pins σ Q) X.xe s := by
  have r2 : Vals (vs ++ dvs) (us ++ ds) := r.append hd
  have hl : (us ++ ds).length = ps.length := by rw [← r2.length]; exact F.len _ _ _ _ h
  refine wpAny_call (codeAny_mono (F.run X.A X.stack s H ⟨us, []⟩ (us ++ ds) (vs ++ dvs) Q E hr (I.env0 (I.ok.hd hcq)) (hb s us I.kIn hl) r2 h) fun r s' hq => ?_)
  cases r with
  | error e => exact hx pins σ H s e s' I hq
  | ok fl =>
    cases fl with
    | ret u => exact I.after hq
    | next => exact False.elim hq
    | brk => exact False.elim hq
    | cont => exact False.elim hq
theorem pe_call (F : FnOk X.prog X.w X.K X.mg X.base CX k f fd ps sp) (hr : Room k X.A) (hg : Gl X x) (hm : X.mg x = some (.ref f)) (hk : PySem.W.keepIn X.K (.ref f) = true) (hb : Binds X.K fd ps ds) (hd : Vals dvs ds) (hx : Passes CX X E)
    (ha : PA X (e :: es) t) (hdb : (x == ("__debug__" : Str)) = false := by decide) (he : starEach (e :: es) X.env = (false, eval e X.env) :: starEach es X.env := by rfl) (hpl : (backTo pos (starEach es X.env)).any (·.1) = false := by rfl) (hcq : X.calm = true := by rfl) :
    PE X (.Call (.Name x p) (e :: es) [] pos) (tCall sp dvs E t) := by
  intro pins s σ H Q I h
  refine wpAny_Call_Name_kw (ld_glob I hg hm ?_ hdb)
  refine PySem.W.callWith_K (h₀ := X.base) I.ok.mod.kin hk (thn (ha pos pins s σ H _ I h) fun us s1 ⟨vs, H1, I1, r, q⟩ => ⟨I1.kIn, ?_⟩) he hpl
  exact run_fn hcq F hr hb hd hx I1 r q
theorem pe_call0 (F : FnOk X.prog X.w X.K X.mg X.base CX k f fd ps sp) (hr : Room k X.A) (hg : Gl X x) (hm : X.mg x = some (.ref f)) (hk : PySem.W.keepIn X.K (.ref f) = true) (hb : Binds X.K fd ps ds) (hd : Vals dvs ds) (hx : Passes CX X E)
    (hdb : (x == ("__debug__" : Str)) = false := by decide) (hcq : X.calm = true := by rfl) : PE X (.Call (.Name x p) [] [] pos) (tCall sp dvs E tNil) := by
  intro pins s σ H Q I h
  refine wpAny_Call_Name_kw (ld_glob I hg hm ?_ hdb)
  exact PySem.W.callWith_K0 I.kIn hk (run_fn hcq (us := []) F hr hb hd hx I .nil h)
theorem pe_meth {pl : Sem Bool} (he : PE X o ta) (c : Cls X.K C) (hm : Meth X.K C m f) (F : FnOk X.prog X.w X.K X.mg X.base CX k f fd ps sp) (hr : Room k X.A) (hb : Binds X.K fd ps ds) (hd : Vals dvs ds) (hx : Passes CX X E) (ha : PA X (e :: es) t)
    (hst : starEach (e :: es) X.env = (false, eval e X.env) :: starEach es X.env := by rfl) (hpl : (backTo pos (starEach es X.env)).any (·.1) = false := by rfl)
    (ht : eval (.Call (.Attribute o m apos) (e :: es) [] pos) X.env = (do
      let ov ← eval o X.env
      standAt apos.atName
      let (f, first) ← holding [ov] (getMethod ov m pl)
      callWith pos f first (backTo pos (starEach (e :: es) X.env)) (backToKw pos (keywordEach [] X.env))) := by rfl) (hcq : X.calm = true := by rfl) :
    PE X (.Call (.Attribute o m apos) (e :: es) [] pos) (tMeth C m sp dvs E ta t) := by
  intro pins s σ H Q I h
  refine PySem.W.methodCall_KW (pl := pl) (thn (he pins s σ H _ I h) fun u s1 ⟨x, H1, I1, rx, a, dx, fs, ex, ea, l, q⟩ => ?_) ht
  subst ex
  obtain rfl : u = Value.ref a := rx
  refine getmeth_ok I1 ea c hm l ?_
  refine PySem.W.callWith_K (first := [.ref a]) (h₀ := X.base) I.ok.mod.kin hm.kp (thn (ha pos pins s1 σ H1 _ I1 q) fun us s2 ⟨vs, H2, I2, r, q2⟩ => ⟨I2.kIn, ?_⟩) hst hpl
  exact run_fn hcq (us := .ref a :: us) (vs := .ref a :: vs) F hr hb hd hx I2 (.cons rfl r) q2
theorem pe_meth0 {pl : Sem Bool} (he : PE X o ta) (c : Cls X.K C) (hm : Meth X.K C m f) (F : FnOk X.prog X.w X.K X.mg X.base CX k f fd ps sp) (hr : Room k X.A) (hb : Binds X.K fd ps ds) (hd : Vals dvs ds) (hx : Passes CX X E)
    (ht : eval (.Call (.Attribute o m apos) [] [] pos) X.env = (do
      let ov ← eval o X.env
      standAt apos.atName
      let (f, first) ← holding [ov] (getMethod ov m pl)
      callWith pos f first (backTo pos (starEach [] X.env)) (backToKw pos (keywordEach [] X.env))) := by rfl) (hcq : X.calm = true := by rfl) :
    PE X (.Call (.Attribute o m apos) [] [] pos) (tMeth C m sp dvs E ta tNil) := by
  intro pins s σ H Q I h
  refine PySem.W.methodCall_KW (pl := pl) (thn (he pins s σ H _ I h) fun u s1 ⟨x, H1, I1, rx, a, dx, fs, ex, ea, l, q⟩ => ?_) ht
  subst ex
  obtain rfl : u = Value.ref a := rx
  refine getmeth_ok I1 ea c hm l ?_
  exact PySem.W.callWith_K0 (first := [.ref a]) I1.kIn hm.kp (run_fn hcq (us := [.ref a]) (vs := [.ref a]) F hr hb hd hx I1 (.cons rfl .nil) q)
structure Mk (K : PySem.W.Frag) (C f : Addr) : Prop where
  makes : PySem.W.makesIn K C = true
  init : PySem.W.findIn K (.ref C) "__init__" = some (some (.ref f))
  fn : PySem.W.isFn K (.ref f) = true
  kp : PySem.W.keepIn K (.ref C) = true
theorem run_make {pins : List (Addr × Obj)} {σ : St} {H : Hp} {s : Shared} {Q : VK} {us : List Value} {vs : List V} (hcq : X.calm = true) (M : Mk X.K C f) (F : FnOk X.prog X.w X.K X.mg X.base CX k f fd ps sp) (hr : Room (k + 1) X.A) (hb : Binds X.K fd ps ds) (hd : Vals dvs ds)
    (hx : Passes CX X E) (I : Inv X pins σ H s) (r : Vals vs us)
    (h : ∀ x dx, H x = none → H dx = none → dx ≠ x → sp (.ref x :: (vs ++ dvs)) (upd (upd H dx (.own x)) x (.ins C dx [])) (fun v H2 => v = .non ∧ Q (.ref x) H2) E) :
    wpAny (model X.prog X.w) X.A (call (.ref C) us) (EP X pins σ Q) X.xe s := by
  have hq := h (s.heap.objs.size + 1) s.heap.objs.size (I.hok.fresh (Nat.le_succ _)) (I.hok.fresh (Nat.le_refl _)) (Nat.ne_of_lt (Nat.lt_succ_self _))
  have I2 := Inv.made (C := C) I
  have r2 : Vals (V.ref (s.heap.objs.size + 1) :: (vs ++ dvs)) (Value.ref (s.heap.objs.size + 1) :: (us ++ ds)) := .cons rfl (r.append hd)
  have hl : (Value.ref (s.heap.objs.size + 1) :: us ++ ds).length = ps.length := by
    have e := r2.length
    rw [F.len _ _ _ _ hq] at e
    exact e.symm
  refine wpAny_call (make_map (f := f) I.kIn M.makes M.init (beq_iff_eq.mp M.fn) (codeAny_mono (F.run _ X.stack _ _ ⟨Value.ref (s.heap.objs.size + 1) :: us, []⟩ (Value.ref (s.heap.objs.size + 1) :: (us ++ ds)) _ _ E (hr.make C us [])
    ((I2.env0 (I2.ok.hd hcq)).make C us []) (hb _ (Value.ref (s.heap.objs.size + 1) :: us) I2.kIn hl) r2 hq) fun r s' hq' => ?_))
  cases r with
  | error e => exact hx pins σ _ _ e s' I2 hq'
  | ok fl =>
    cases fl with
    | ret u =>
      obtain ⟨v, H', I3, rv, ev, q3⟩ := I2.after hq'
      subst ev
      exact ⟨rv, ⟨V.ref (s.heap.objs.size + 1), H', I3, rfl, q3⟩⟩
    | next => exact False.elim hq'
    | brk => exact False.elim hq'
    | cont => exact False.elim hq'
theorem pe_make (M : Mk X.K C f) (F : FnOk X.prog X.w X.K X.mg X.base CX k f fd ps sp) (hr : Room (k + 1) X.A) (hg : Gl X x) (hm : X.mg x = some (.ref C)) (hb : Binds X.K fd ps ds) (hd : Vals dvs ds) (hx : Passes CX X E)
    (ha : PA X (e :: es) t) (hdb : (x == ("__debug__" : Str)) = false := by decide) (he : starEach (e :: es) X.env = (false, eval e X.env) :: starEach es X.env := by rfl) (hpl : (backTo pos (starEach es X.env)).any (·.1) = false := by rfl) (hcq : X.calm = true := by rfl) :
    PE X (.Call (.Name x p) (e :: es) [] pos) (tMake C sp dvs E t) := by
  intro pins s σ H Q I h
  refine wpAny_Call_Name_kw (ld_glob I hg hm ?_ hdb)
  refine PySem.W.callWith_K (h₀ := X.base) I.ok.mod.kin M.kp (thn (ha pos pins s σ H _ I h) fun us s1 ⟨vs, H1, I1, r, q⟩ => ⟨I1.kIn, ?_⟩) he hpl
  exact run_make hcq M F hr hb hd hx I1 r q
end
section
variable {X : Cx} {CX : CXT} {k : Nat} {f C : Addr} {fd : FuncData} {ps ks : List Str} {sp : Sp} {E : XK} {x m : Str} {p pos apos kpos : Pos} {e o : Expr} {es : List Expr} {kws : List Keyword} {te ta : TE} {t tk : TA} {nm : Option Str}
variable {g : List Value → List Value → List Value} {gV : List V → List V → List V}
end
structure FnScope (N P : List Str) (sc : Scope) : Prop where
  kind : sc.kind = .function
  co : sc.isCoroutine = false
  gen : sc.isGenerator = false
  nd : N.Nodup
  pre : N.take P.length = P
  par : ∀ x ∈ P, sc.names.lookup x = some .local ∨ sc.names.lookup x = some .cell
  nofree : ∀ y ∈ sc.names, y.2 ≠ .free
theorem bindL_out {kindOf : Str → Option NameKind} {x : Str} : ∀ {binds : List (Str × Value)} {m : Str → Option Value}, (∀ v, (x, v) ∉ binds) → bindL kindOf binds m x = m x
  | [], _, _ => rfl
  | (n, v) :: r, m, h => by
    unfold bindL
    rw [bindL_out fun w hw => h w (List.mem_cons_of_mem _ hw)]
    split
    · have : x ≠ n := by rintro rfl; exact h v List.mem_cons_self
      simp [this]
    · rfl
theorem bindC_out {kindOf : Str → Option NameKind} {x : Str} : ∀ {binds : List (Str × Value)} {m : Str → Option Value}, (∀ v, (x, v) ∉ binds) → bindC kindOf binds m x = m x
  | [], _, _ => rfl
  | (n, v) :: r, m, h => by
    unfold bindC
    rw [bindC_out fun w hw => h w (List.mem_cons_of_mem _ hw)]
    split
    · rfl
    · have : x ≠ n := by rintro rfl; exact h v List.mem_cons_self
      simp [this]
theorem bindL_get {kindOf : Str → Option NameKind} {x : Str} {v : Value} : ∀ {P : List Str} {vs : List Value} {i : Nat} {m : Str → Option Value}, P.Nodup → P[i]? = some x → vs[i]? = some v → kindOf x = some .local →
    bindL kindOf (P.zip vs) m x = some v
  | [], _, _, _, _, h, _, _ => by simp at h
  | _ :: _, [], _, _, _, _, h, _ => by simp at h
  | p :: P, w :: vs, 0, m, nd, h1, h2, hk => by
    simp at h1 h2; subst h1; subst h2
    show bindL kindOf ((p, w) :: P.zip vs) m p = _
    unfold bindL
    rw [bindL_out fun v hv => (List.nodup_cons.mp nd).1 (List.of_mem_zip hv).1, if_pos hk]
    simp
  | p :: P, w :: vs, i + 1, m, nd, h1, h2, hk => by
    show bindL kindOf ((p, w) :: P.zip vs) m x = _
    unfold bindL
    exact bindL_get (i := i) (List.nodup_cons.mp nd).2 (by simpa using h1) (by simpa using h2) hk
theorem bindC_get {kindOf : Str → Option NameKind} {x : Str} {v : Value} : ∀ {P : List Str} {vs : List Value} {i : Nat} {m : Str → Option Value}, P.Nodup → P[i]? = some x → vs[i]? = some v → kindOf x ≠ some .local →
    bindC kindOf (P.zip vs) m x = some v
  | [], _, _, _, _, h, _, _ => by simp at h
  | _ :: _, [], _, _, _, _, h, _ => by simp at h
  | p :: P, w :: vs, 0, m, nd, h1, h2, hk => by
    simp at h1 h2; subst h1; subst h2
    show bindC kindOf ((p, w) :: P.zip vs) m p = _
    unfold bindC
    rw [bindC_out fun v hv => (List.nodup_cons.mp nd).1 (List.of_mem_zip hv).1, if_neg hk]
    simp
  | p :: P, w :: vs, i + 1, m, nd, h1, h2, hk => by
    show bindC kindOf ((p, w) :: P.zip vs) m x = _
    unfold bindC
    exact bindC_get (i := i) (List.nodup_cons.mp nd).2 (by simpa using h1) (by simpa using h2) hk
def start (N : List Str) (vs : List V) : St := vs.map some ++ List.replicate (N.length - vs.length) none
def cxOf (CX : CXT) (P : Program) (w : World) (K : PySem.W.Frag) (mg : Str → Option Value) (base : Heap) (N : List Str) (qual : Str) (scope : Scope) (f : Addr) (cd : Value) (A : Around) (outer : List Env) (s : Shared) (H : Hp) (E : XK) : Cx where
  prog := P
  w := w
  K := K
  mg := mg
  base := base
  A := A.deeper (envOfC qual scope s.heap.objs.size f cd)
  N := N
  s₀ := s
  H₀ := H
  env := envOfC qual scope s.heap.objs.size f cd
  outer := outer
  stack := envOfC qual scope s.heap.objs.size f cd :: outer
  ex := []
  calm := true
  fn := fun _ => true
  pn := []
  xe := fun e s' => wpAny (model P w) (A.deeper (envOfC qual scope s.heap.objs.size f cd)) (leaving (envOfC qual scope s.heap.objs.size f cd) e) (fun _ s'' => CX outer H s E e s'') (fun e' s'' => CX outer H s E e' s'') s'
theorem cell_has {sc : Scope} {n : Nat} {x : Str} (h : sc.names.lookup x = some .cell) : ∃ c, (cellsFrom n sc.names []).lookup x = some c := by
  have q := PySem.W.cellsFrom_some sc.names n [] (.inl h)
  exact Option.isSome_iff_exists.mp q
theorem inv_start {CX : CXT} {P : Program} {w : World} {K : PySem.W.Frag} {mg : Str → Option Value} {base : Heap} {N ps : List Str} {qual : Str} {scope : Scope} {f : Addr} {cd : Value} {A : Around} {outer : List Env} {s s1 : Shared} {H : Hp} {E : XK} {us : List Value} {vs : List V}
    (S : FnScope N ps scope) (e0 : Env0 P w K mg base A outer s H) (hl : vs.length = ps.length) (r : Vals vs us)
    (x : InCallC s s.heap.objs.size (bindL (envOfC qual scope s.heap.objs.size f cd).kindOf (ps.zip us) fun _ => none) (cellsFrom (s.heap.objs.size + 1) scope.names []) (bindC (envOfC qual scope s.heap.objs.size f cd).kindOf (ps.zip us) fun _ => none) s1) :
    Inv (cxOf CX P w K mg base N qual scope f cd A outer s H E) [] (start N vs) H s1 := by
  have hpl : ps.length ≤ N.length := by have := congrArg List.length S.pre; rw [List.length_take] at this; omega
  obtain ⟨h1, tk, rfl, hk⟩ := x.done
  have noA : ∀ b : Addr, b ∉ (cxOf CX P w K mg base N qual scope f cd A outer s H E).ex := fun b z => absurd (show b ∈ ([] : List Addr) from z) (by simp)
  refine ⟨⟨e0.mod, S.kind, rfl, rfl, Nat.le_refl _, fun y z c h1 h2 => ?_, fun y hy => ?_, fun y c _ h => ?_, fun _ => e0.qt, Around.frames_deeper e0.frames, .inr ⟨rfl, rfl⟩, fun b z => absurd z (noA b), e0.bs, e0.bsz, fun b _ _ => noA b, fun b z => absurd z (noA b), e0.funs, e0.frf⟩,
    rfl, e0.bare, Un.kept hk, ⟨_, x.toInCall.ns, fun i y v h1 h2 h3 => ?_⟩, fun y c h => ⟨_, x.cell y c h⟩, e0.hok.fresh (Nat.le_refl _), fun y c h => ?_, fun p hp => absurd (show p ∈ ([] : List (Addr × Obj)) from hp) (by simp), e0.hok.kept hk, ?_⟩
  · exact name_of_addr x.apart (PySem.mem_of_lookup h1) (PySem.mem_of_lookup h2)
  · have hy : scope.names.lookup y = some .cell ∨ scope.names.lookup y = some .free := hy
    rcases hy with hy | hy
    · exact cell_has hy
    · exact absurd rfl (S.nofree _ (PySem.mem_of_lookup hy))
  · exact Nat.le_of_lt (x.above y c (PySem.mem_of_lookup h))
  · have hi : i < vs.length := by
      unfold start at h2
      by_cases hi : i < vs.length
      · exact hi
      · rw [List.getElem?_append_right (by simpa using hi)] at h2
        rw [List.getElem?_replicate] at h2
        split at h2 <;> cases h2
    have ha : vs[i]? = some v := by
      unfold start at h2
      rw [List.getElem?_append_left (by simpa using hi), List.getElem?_map] at h2
      cases e : vs[i]? with
      | none => rw [e] at h2; cases h2
      | some a => rw [e] at h2; cases h2; rfl
    obtain ⟨u, hu, rv⟩ := r.get ha
    have hp : ps[i]? = some y := by
      rw [← S.pre, List.getElem?_take_of_lt (by omega)]; exact h1
    have ndP : ps.Nodup := by rw [← S.pre]; exact S.nd.sublist (List.take_sublist _ _)
    refine ⟨u, rv, ?_⟩
    rcases S.par y (List.mem_of_getElem? hp) with k | k
    · exact .inl ⟨k, bindL_get ndP hp hu k⟩
    · obtain ⟨c, e⟩ := cell_has (n := s.heap.objs.size + 1) k
      refine .inr ⟨.inl k, c, e, ?_⟩
      have q := x.cell y c e
      rw [bindC_get ndP hp hu (by show scope.names.lookup y ≠ _; rw [k]; decide)] at q
      exact q
  · exact e0.hok.fresh (Nat.le_of_lt (x.above y c (PySem.mem_of_lookup h)))
  · unfold start
    show _ = N.length
    rw [List.length_append, List.length_map, List.length_replicate]
    omega
theorem fn_of {CX : CXT} {P : Program} {w : World} {K : PySem.W.Frag} {mg : Str → Option Value} {base : Heap} {k : Nat} {f : Addr} {name qual : Str} {params : Arguments} {body : List Stmt} {scope : Scope} {dV kV doc pm cdv ct oc : Value} {an od : Option Addr}
    {osl : Array (Option Value)} {N ps : List Str} {sp : Sp} (lk : K.lookup f = some ⟨oc, od, .func (PySem.W.fnOf name qual params body scope dV kV doc pm an cdv ct), osl⟩) (hcd : PySem.W.codeIn K cdv qual = true) (S : FnScope N ps scope)
    (len : ∀ vs H Q E, sp vs H Q E → vs.length = ps.length)
    (hbody : ∀ (A : Around) (outer : List Env) (s : Shared) (H : Hp) (vs : List V) (Q : VK) (E : XK), Room k (A.deeper (envOfC qual scope s.heap.objs.size f cdv)) → sp vs H Q E →
      ∃ t, PSs (cxOf CX P w K mg base N qual scope f cdv A outer s H E) body t ∧ t { nx := fun _ H' => Q .non H', rt := Q } (start N vs) H) :
    FnOk P w K mg base CX (k + 1) f (PySem.W.fnOf name qual params body scope dV kV doc pm an cdv ct) ps sp := by
  refine ⟨len, fun A outer s H args us vs Q E hr e0 hb r hsp => ?_⟩
  have hl := len _ _ _ _ hsp
  have KX : K.In s.heap := e0.mod.kin.keeps fun b o e => (e0.bs b o e).1
  have lim : s.heap.NoLimit := e0.mod.nolimit.keeps fun b o e => (e0.bs b o e).1
  have hkind : ∀ y ∈ ps.zip us, scope.names.lookup y.1 = some .local ∨ (scope.names.lookup y.1 = some .cell ∧ ((cellsFrom (s.heap.objs.size + 1) scope.names []).lookup y.1).isSome = true) := fun ⟨n, v⟩ hy => by
    rcases S.par n (List.of_mem_zip hy).1 with q | q
    · exact .inl q
    · exact .inr ⟨q, PySem.W.cellsFrom_some _ _ _ (.inl q)⟩
  refine codeAny_call_function hr.depth (KX _ _ lk) rfl S.co S.gen rfl (PySem.W.codeRec_of KX hcd) (hb _ _ _ _ ?_)
  refine wpAny_newFunctionEnv_cells S.kind hkind fun env he s1 x => ?_
  subst he
  refine ⟨lim.keeps x.toInCall.keep, codeAny_func ?_⟩
  obtain ⟨t, ht, hq⟩ := hbody A outer s H vs Q E (hr.deeper _) hsp
  have I : Inv (cxOf CX P w K mg base N qual scope f cdv A outer s H E) [] (start N vs) H s1 := inv_start S e0 hl r x
  refine wpAny_mono (ht [] s1 (start N vs) H _ I hq) (fun fl s' hs => ?_) fun e s' hs => hs
  have fin : ∀ {σ' : St} {H' : Hp} {v : V} {u : Value}, Inv (cxOf CX P w K mg base N qual scope f cdv A outer s H E) [] σ' H' s' → RelV v u → Q v H' → CE outer P w H s Q u s' :=
    fun {σ' H' v u} J rv q => ⟨v, H', J.os, J.bare, J.base, J.hok, rv, q⟩
  cases fl with
  | ret u =>
    obtain ⟨v, σ', H', J, rv, q⟩ := hs
    exact fin J rv q
  | next =>
    obtain ⟨σ', H', J, q⟩ := hs
    exact fin (v := V.non) (u := Value.none) J rfl q
  | brk =>
    obtain ⟨_, _, _, q⟩ := hs
    exact False.elim q
  | cont =>
    obtain ⟨_, _, _, q⟩ := hs
    exact False.elim q
end L2
namespace L2
open PySem PySem.Spec PyProof.Rows
section
variable {X : Cx} {x : Str} {p pos : Pos} {e : Expr} {es : List Expr} {t : TA} {id T : String} {r : List V → Hp → VK → Prop}
def tCB (r : List V → Hp → VK → Prop) (t : TA) : TE := fun σ H Q => t σ H fun vs H1 => r vs H1 Q
theorem pe_callB (hc : CallR X (.builtin id) r) (hg : Gl X x) (hm : X.mg x = none) (hv : bootBuiltins x = some (.builtin id)) (ha : PA X (e :: es) t) (hn : x ≠ "__name__" := by decide) (hdb : (x == ("__debug__" : Str)) = false := by decide)
    (he : starEach (e :: es) X.env = (false, eval e X.env) :: starEach es X.env := by rfl) (hpl : (backTo pos (starEach es X.env)).any (·.1) = false := by rfl) : PE X (.Call (.Name x p) (e :: es) [] pos) (tCB r t) := by
  intro pins s σ H Q I h
  refine wpAny_Call_Name_kw (ld_blt I hg hm hv ?_ hn hdb)
  exact PyProof.Rows.callWith_builtin1 (thn (ha pos pins s σ H _ I h) fun us s1 ⟨vs, H1, I1, r1, q1⟩ => hc pins s1 σ H1 vs us Q I1 r1 q1) he hpl
theorem pe_callTy (hc : CallR X (.type T) r) (hg : Gl X x) (hm : X.mg x = none) (hv : bootBuiltins x = some (.type T)) (ha : PA X (e :: es) t) (hn : x ≠ "__name__" := by decide) (hdb : (x == ("__debug__" : Str)) = false := by decide)
    (he : starEach (e :: es) X.env = (false, eval e X.env) :: starEach es X.env := by rfl) (hpl : (backTo pos (starEach es X.env)).any (·.1) = false := by rfl) : PE X (.Call (.Name x p) (e :: es) [] pos) (tCB r t) := by
  intro pins s σ H Q I h
  refine wpAny_Call_Name_kw (ld_blt I hg hm hv ?_ hn hdb)
  exact PyProof.Rows.callWith_type1 (thn (ha pos pins s σ H _ I h) fun us s1 ⟨vs, H1, I1, r1, q1⟩ => hc pins s1 σ H1 vs us Q I1 r1 q1) he hpl
end
end L2
namespace HT
open PySem PyProof.Rows
section
open PySem.SeqAt
open PySem.AutoSeq1 (wpAny_loadPart')
open PySem.MeetsSeq PySem.MeetsSeq2 PySem.MeetsSeq3
end
section
variable {prog : Program} {w : World} {A : Around} {E : Value → Shared → Prop} {s : Shared}
def sIx (n d : Nat) : Option Int → Nat
  | none => d
  | some v => if v < 0 then (v + (n : Int)).toNat else min v.toNat n
theorem sIx_none (n d : Nat) : sIx n d none = d := rfl
theorem sIx_nat (n d k : Nat) : sIx n d (some (k : Int)) = min k n := by
  show (if (k : Int) < 0 then ((k : Int) + (n : Int)).toNat else min (k : Int).toNat n) = min k n
  rw [if_neg (by omega), Int.toNat_natCast]
theorem sIx_le (n d : Nat) (hd : d ≤ n) (o : Option Int) : sIx n d o ≤ n := by
  cases o with
  | none => exact hd
  | some v =>
    show (if v < 0 then (v + (n : Int)).toNat else min v.toNat n) ≤ n
    by_cases hv : v < 0
    · rw [if_pos hv]; omega
    · rw [if_neg hv]; exact Nat.min_le_right _ _
theorem clip_eq (v : Int) (n d : Nat) : (if v < 0 then max (v + (n : Int)) 0 else min v (n : Int)) = ((sIx n d (some v) : Nat) : Int) := by
  show (if v < 0 then max (v + (n : Int)) 0 else min v (n : Int)) = (((if v < 0 then (v + (n : Int)).toNat else min v.toNat n) : Nat) : Int)
  by_cases hv : v < 0
  · simp only [if_pos hv]; omega
  · simp only [if_neg hv]; omega
theorem adjust_gen (lo hi : Option Int) (n : Nat) : Builtin.Slice.sliceAdjust lo hi 1 (n : Int) = (((sIx n 0 lo : Nat) : Int), ((sIx n n hi : Nat) : Int)) := by
  have h1 : ¬ ((1 : Int) < 0) := by omega
  unfold Builtin.Slice.sliceAdjust
  simp only [h1, if_false]
  refine Prod.ext ?_ ?_
  · cases lo with
    | none => rfl
    | some v => exact clip_eq v n 0
  · cases hi with
    | none => rfl
    | some v => exact clip_eq v n n
theorem places_gen (i j : Nat) : Builtin.Slice.slicePlaces (i : Int) (j : Int) 1 = j - i := by
  unfold Builtin.Slice.slicePlaces
  have h1 : (1 : Int) > 0 := by omega
  simp only [h1, if_true, Int.ediv_one]
  split <;> omega
theorem slicePart_ {v : Value} {o : Option Int} {Q : Option Int → Shared → Prop} (p : IsPart v o) (h : Q o s) : wpAny (model prog w) A (Builtin.Slice.slicePartIndex v) Q E s := by
  cases p with
  | none => exact slicePart_none h
  | int i t => exact slicePart_int h
theorem sliceApplied_gen {sl : Addr} {vl vu : Value} {lo hi : Option Int} {n : Nat} {Q : Int × Int × Nat → Shared → Prop} (hs : s.heap.IsSliceOf sl vl vu .none) (pl : IsPart vl lo) (pu : IsPart vu hi)
    (h : Q (((sIx n 0 lo : Nat) : Int), 1, sIx n n hi - sIx n 0 lo) s) : wpAny (model prog w) A (Builtin.Slice.sliceApplied (.ref sl) (pure (n : Int))) Q E s := by
  obtain ⟨os, hos, hcs, hds⟩ := id hs
  unfold Builtin.Slice.sliceApplied Builtin.Slice.sliceFields
  refine wpAny_bind (wpAny_bind (wpAny_field hos hds (x := vl) rfl (wpAny_bind (wpAny_field hos hds (x := vu) rfl (wpAny_bind (wpAny_field hos hds (x := .none) rfl (wpAny_pure ?_)))))))
  refine wpAny_bind (slicePart_none ?_)
  show wpAny _ _ (if ((1 : Int) == 0) = true then _ else _) _ _ s
  rw [if_neg (by decide)]
  refine wpAny_bind (slicePart_ pl (wpAny_bind (slicePart_ pu (wpAny_bind (wpAny_pure ?_)))))
  show wpAny _ _ (match Builtin.Slice.sliceAdjust lo hi 1 (n : Int) with | (lo, hi) => pure (lo, (1 : Int), Builtin.Slice.slicePlaces lo hi 1)) _ _ s
  rw [adjust_gen lo hi n]
  show wpAny _ _ (pure (((sIx n 0 lo : Nat) : Int), (1 : Int), Builtin.Slice.slicePlaces ((sIx n 0 lo : Nat) : Int) ((sIx n n hi : Nat) : Int) 1)) _ _ s
  rw [places_gen]
  exact wpAny_pure h
theorem pick_gen (xs : Array Value) (i k : Nat) : ((List.range k).filterMap fun (m : Nat) => xs[((i : Int) + (m : Int) * 1).toNat]?).toArray = ((xs.toList.drop i).take k).toArray := by
  have e : (fun (m : Nat) => xs[((i : Int) + (m : Int) * 1).toNat]?) = fun m => xs[i + m]? := by
    funext m
    have : ((i : Int) + (m : Int) * 1).toNat = i + m := by omega
    rw [this]
  rw [e]
  have := pick_run xs i k
  rw [List.filterMap_map] at this
  have e2 : ((fun x => xs[x]?) ∘ fun x => i + x) = fun m => xs[i + m]? := rfl
  rw [e2] at this
  rw [this]
theorem getItem_tuple_cut {t sl : Addr} {items : Array Value} {vl vu : Value} {lo hi : Option Int} {Q : Value → Shared → Prop} (ht : IsTup s.heap t items) (hs : s.heap.IsSliceOf sl vl vu .none) (pl : IsPart vl lo) (pu : IsPart vu hi)
    (hw : ¬ (sIx items.size 0 lo = 0 ∧ sIx items.size items.size hi = items.size))
    (h : Q (.ref s.heap.objs.size) { s with heap := s.heap.push { cls := .type "tuple", data := .seq ((items.toList.drop (sIx items.size 0 lo)).take (sIx items.size items.size hi - sIx items.size 0 lo)).toArray } })
    (hsz : items.size ≤ sizeLine) : wpAny (model prog w) A (getItem (.ref t) (.ref sl)) Q E s := by
  have htake : sizeOk (.seq ((items.toList.drop (sIx items.size 0 lo)).take (sIx items.size items.size hi - sIx items.size 0 lo)).toArray) := by
    show ((items.toList.drop (sIx items.size 0 lo)).take (sIx items.size items.size hi - sIx items.size 0 lo)).toArray.size ≤ sizeLine
    rw [List.size_toArray, List.length_take, List.length_drop, Array.length_toList]
    omega
  have hj : sIx items.size items.size hi ≤ items.size := sIx_le _ _ (Nat.le_refl _) hi
  obtain ⟨os, hos, hcs, hds⟩ := id hs
  have hTs : s.TypeIs (.ref sl) "slice" := ⟨os, hos, hcs⟩
  unfold getItem
  try with_reducible refine wpAny_holding ?_
  first | refine wpAny_bind (wpAny_pure ?_) | skip
  refine wpAny_bind (wpAny_sequenceKey ht.typeIs (by decide) ?_)
  refine wpAny_bind (wpAny_callSpecial?_slot (name := Str.ofString "__getitem__") ht.typeIs PyProof.Rows.slot_tuple_getitem
    (wpAny_call_entry PyProof.Rows.slot_tuple_getitem ht.typeIs entry_tuple_getitem ?_ (args_tuple_getitem _ _)))
  show wpAny _ _ (Builtin.Tuple.tupleItemsOf (.ref t) >>= _) _ _ s
  refine wpAny_bind (tupleItemsOf_ ht ?_)
  refine wpAny_bind (wpAny_typeOf hTs ?_)
  rw [if_pos (by decide)]
  refine wpAny_bind (sliceApplied_gen hs pl pu ?_)
  have hno : ¬ ((((sIx items.size 0 lo : Nat) : Int) == 0 && (1 : Int) == 1 && (sIx items.size items.size hi - sIx items.size 0 lo) == items.size) = true) := by
    intro q
    rw [Bool.and_eq_true, Bool.and_eq_true] at q
    have q1 : ((sIx items.size 0 lo : Nat) : Int) = 0 := eq_of_beq q.1.1
    have q2 : sIx items.size items.size hi - sIx items.size 0 lo = items.size := eq_of_beq q.2
    exact hw ⟨by omega, by omega⟩
  show wpAny _ _ (if (((sIx items.size 0 lo : Nat) : Int) == 0 && (1 : Int) == 1 && (sIx items.size items.size hi - sIx items.size 0 lo) == items.size) = true then _ else _) _ _ s
  rw [if_neg hno, pick_gen]
  first
    | exact wpAny_bind (m := Builtin.Tuple.tupleExact _) (wpAny_newObj_type (wpAny_pure ⟨_, rfl, wpAny_pure h⟩) htake)
    | exact wpAny_bind (m := Builtin.Tuple.tupleExact _) (wpAny_newObj_type (wpAny_bind (wpAny_pure (wpAny_pure ⟨_, rfl, wpAny_pure h⟩))) htake)
    | exact wpAny_bind (wpAny_bind (m := Builtin.Tuple.tupleExact _) (wpAny_newObj_type (wpAny_pure (wpAny_pure ⟨_, rfl, wpAny_pure h⟩)) htake))
    | exact wpAny_bind (wpAny_bind (m := Builtin.Tuple.tupleExact _) (wpAny_newObj_type (wpAny_pure ⟨_, rfl, wpAny_pure h⟩) htake))
end
end HT
namespace L2
open PySem PySem.Spec PyProof.Rows
abbrev TO := St → Hp → (Option Int → Hp → Prop) → Prop
def PO (X : Cx) (e : Option Expr) (t : TO) : Prop :=
  ∀ (pins : List (Addr × Obj)) (s : Shared) (σ : St) (H : Hp) (Q : Option Int → Hp → Prop), Inv X pins σ H s → t σ H Q →
    wpAny (model X.prog X.w) X.A (evalPart e X.env) (fun u s' => ∃ o H', Inv X pins σ H' s' ∧ IsPart u o ∧ Q o H') X.xe s
def tNoPart : TO := fun _ H Q => Q none H
def tPart (t : TE) : TO := fun σ H Q => t σ H fun x H1 => ∃ i, x = .int i ∧ Q (some i) H1
section
variable {X : Cx} {e : Expr} {te : TE} {lo hi : Option Expr} {tl th : TO} {pos p2 : Pos}
theorem po_none : PO X none tNoPart := by
  intro pins s σ H Q I h
  rw [evalPart_none]
  exact wpAny_pure ⟨none, H, I, .none, h⟩
theorem po_some (h : PE X e te) : PO X (some e) (tPart te) := by
  intro pins s σ H Q I hw
  rw [evalPart_some]
  refine thn (h pins s σ H _ I hw) fun u s1 ⟨x, H1, I1, r1, q1⟩ => ?_
  obtain ⟨i, rfl, q⟩ := q1
  obtain ⟨t, rfl⟩ := r1
  exact ⟨some i, H1, I1, .int i t, q⟩
def SlR (X : Cx) (r : V → Option Int → Option Int → Hp → VK → Prop) : Prop :=
  ∀ (pins : List (Addr × Obj)) (s : Shared) (σ : St) (H : Hp) (x : V) (v vl vu : Value) (lo hi : Option Int) (sl : Addr) (Q : VK), Inv X pins σ H s → RelV x v → s.heap.IsSliceOf sl vl vu .none → IsPart vl lo → IsPart vu hi → r x lo hi H Q →
    ∃ T id, typeLookup (.type T) "__getitem__" = pure (some (.builtin id)) ∧ s.TypeIs v T ∧ wpAny (model X.prog X.w) X.A (getItem v (.ref sl)) (EP X pins σ Q) X.xe s
def tSl (r : V → Option Int → Option Int → Hp → VK → Prop) (te : TE) (tl th : TO) : TE := fun σ H Q => te σ H fun x H1 => tl σ H1 fun l H2 => th σ H2 fun u H3 => r x l u H3 Q
theorem pe_slice {r : V → Option Int → Option Int → Hp → VK → Prop} (hr : SlR X r) (he : PE X e te) (hl : PO X lo tl) (hu : PO X hi th) : PE X (.Subscript e (.Slice lo hi none p2) pos) (tSl r te tl th) := by
  intro pins s σ H Q I h
  refine Subscript_ (thn (he pins s σ H _ I h) fun v s1 ⟨x, H1, I1, r1, q1⟩ => ?_)
  refine wpAny_Slice (thn (hl pins s1 σ H1 _ I1 q1) fun vl s2 ⟨l, H2, I2, pl, q2⟩ => thn (hu pins s2 σ H2 _ I2 q2) fun vu s3 ⟨u, H3, I3, pu, q3⟩ => ?_)
  rw [evalPart_none]
  refine wpAny_pure ?_
  have I4 : Inv X pins σ H3 { s3 with heap := s3.heap.push { cls := .type "slice", data := .fields #[vl, vu, .none] } } := I3.kept (t' := s3.toks) fun b ob q => Heap.get?_push_of_some _ q
  obtain ⟨T, id, hT, ht, hg⟩ := hr pins { s3 with heap := s3.heap.push { cls := .type "slice", data := .fields #[vl, vu, .none] } } σ H3 x v vl vu l u s3.heap.objs.size Q I4 r1 (Heap.IsSliceOf.new ..) pl pu q3
  show wpAny (model X.prog X.w) X.A (subscriptTail e (.Slice lo hi none p2) v (.ref s3.heap.objs.size)) (EP X pins σ Q) X.xe { s3 with heap := s3.heap.push { cls := .type "slice", data := .fields #[vl, vu, .none] } }
  exact tail_any (ops := [.ref s3.heap.objs.size, v]) ht hT hg (by with_unfolding_all rfl)
def cutV (xs : List V) (lo hi : Option Int) : List V := (xs.drop (HT.sIx xs.length 0 lo)).take (HT.sIx xs.length xs.length hi - HT.sIx xs.length 0 lo)
theorem cutV_length (xs : List V) (lo hi : Option Int) : (cutV xs lo hi).length ≤ xs.length := by
  unfold cutV
  rw [List.length_take, List.length_drop]
  omega
def rSlT (K : PySem.W.Frag) : V → Option Int → Option Int → Hp → VK → Prop := fun x lo hi H Q => ∃ a xs, x = .ref a ∧ SqT K H a xs ∧
  ¬ (HT.sIx xs.length 0 lo = 0 ∧ HT.sIx xs.length xs.length hi = xs.length) ∧ ∀ p, H p = none → Q (.ref p) (upd H p (.tup (cutV xs lo hi)))
theorem sl_tup : SlR X (rSlT X.K) := by
  intro pins s σ H x v vl vu lo hi sl Q I rx hs pl pu h
  obtain ⟨a, xs, rfl, hx, hw, q⟩ := h
  cases rx
  obtain ⟨its, r, ht, hz⟩ := I.tuple hx
  have hlen : its.toArray.size = xs.length := by rw [List.size_toArray]; exact r.length.symm
  refine ⟨"tuple", _, PyProof.Rows.slot_tuple_getitem.lookup, ht.typeIs, ?_⟩
  refine HT.getItem_tuple_cut ht hs pl pu (by rw [hlen]; exact hw) ?_ (by rw [hlen]; exact hz)
  rw [hlen]
  refine ⟨.ref s.heap.objs.size, _, I.laid (t' := s.toks) (o := .tup (cutV xs lo hi)) (fun b ob q => Heap.get?_push_of_some _ q) (Nat.le_refl _) ?_, rfl, q _ (I.hok.fresh (Nat.le_refl _))⟩
  exact ⟨Nat.le_trans (cutV_length xs lo hi) hz, _, (r.drop (HT.sIx xs.length 0 lo)).take (HT.sIx xs.length xs.length hi - HT.sIx xs.length 0 lo), IsTup.new _ _⟩
end
end L2
namespace L2
open PySem PySem.Spec PyProof.Rows
def ixN (n : Nat) (i : Int) : Option Nat := if 0 ≤ i then (if i < n then some i.toNat else none) else if -(n : Int) ≤ i then some (i + n).toNat else none
def atI {α : Type} (xs : List α) (i : Int) : Option α := (ixN xs.length i).bind fun j => xs[j]?
theorem ixN_seq {n : Nat} {i : Int} {j : Nat} (h : ixN n i = some j) : seqIndex? i n = some j ∧ j < n ∧ -(n : Int) ≤ i ∧ i < n := by
  unfold ixN at h
  by_cases h0 : 0 ≤ i
  · rw [if_pos h0] at h
    by_cases h1 : i < n
    · rw [if_pos h1] at h
      have e : i.toNat = j := Option.some.inj h
      exact ⟨by rw [seqIndex_of h0 h1, e], by omega, by omega, h1⟩
    · rw [if_neg h1] at h; cases h
  · rw [if_neg h0] at h
    by_cases h1 : -(n : Int) ≤ i
    · rw [if_pos h1] at h
      have e : (i + n).toNat = j := Option.some.inj h
      exact ⟨by rw [seqIndex_neg (by omega) h1, e], by omega, h1, by omega⟩
    · rw [if_neg h1] at h; cases h
theorem atI_get {α : Type} {xs : List α} {i : Int} {v : α} (h : atI xs i = some v) : ∃ j, seqIndex? i xs.length = some j ∧ xs[j]? = some v ∧ j < xs.length ∧ -(xs.length : Int) ≤ i ∧ i < xs.length := by
  unfold atI at h
  cases e : ixN xs.length i with
  | none => rw [e] at h; cases h
  | some j =>
    rw [e] at h
    obtain ⟨h1, h2, h3, h4⟩ := ixN_seq e
    exact ⟨j, h1, h, h2, h3, h4⟩
theorem atI_nat {α : Type} {xs : List α} {j : Nat} {v : α} (h : xs[j]? = some v) : atI xs (j : Int) = some v := by
  have hj : j < xs.length := (List.getElem?_eq_some_iff.mp h).1
  have e : ixN xs.length (j : Int) = some j := by
    unfold ixN
    rw [if_pos (by omega), if_pos (by omega)]; simp
  unfold atI; rw [e]; exact h
def PlainIx (b : Expr) : Prop := ∀ o i, subscripted b false o i = operate [o, i] (getItem o i)
def IxR (X : Cx) (r : R2) : Prop :=
  ∀ (value slice : Expr) (pins : List (Addr × Obj)) (s : Shared) (σ : St) (H : Hp) (x y : V) (v u : Value) (Q : VK), Inv X pins σ H s → RelV x v → RelV y u → r x y H Q →
    subscripted slice false v u = operate [v, u] (getItem v u) → wpAny (model X.prog X.w) X.A (subscriptTail value slice v u) (EP X pins σ Q) X.xe s
def MtR (X : Cx) (id : String) (r : V → List V → Hp → VK → Prop) : Prop :=
  ∀ (pins : List (Addr × Obj)) (s : Shared) (σ : St) (H : Hp) (x : V) (xs : List V) (v : Value) (us : List Value) (Q : VK), Inv X pins σ H s → RelV x v → Vals xs us → r x xs H Q →
    wpAny (model X.prog X.w) X.A (call (.builtin id) (v :: us)) (EP X pins σ Q) X.xe s
section
variable {X : Cx} {a b : Expr} {ta tb : TE} {pos : Pos}
theorem pe_ix {r : R2} (hr : IxR X r) (ha : PE X a ta) (hb : PE X b tb) (hs : PlainIx b) : PE X (.Subscript a b pos) (tOp r ta tb) := by
  intro pins s σ H Q I h
  exact Subscript_ (binT ha hb I h fun v u s2 x y H2 I2 rx ry q => hr a b pins s2 σ H2 x y v u Q I2 rx ry q (hs _ _))
def rIxL (K : PySem.W.Frag) : R2 := fun x y H Q => ∃ p xs i v, x = .ref p ∧ y = .int i ∧ SqL K H p xs ∧ atI xs i = some v ∧ Q v H
def rIxT (K : PySem.W.Frag) : R2 := fun x y H Q => ∃ p xs i v, x = .ref p ∧ y = .int i ∧ SqT K H p xs ∧ atI xs i = some v ∧ Q v H
def rIxS : R2 := fun x y H Q => ∃ z i c, x = .str z ∧ y = .int i ∧ z.length ≤ sizeLine ∧ atI z.cps.toList i = some c ∧ Q (.str ⟨#[c]⟩) H
theorem ix_list : IxR X (rIxL X.K) := by
  intro value slice pins s σ H x y v u Q I rx ry h hs
  obtain ⟨p, xs, i, z, rfl, rfl, hq, he, q⟩ := h
  cases rx
  obtain ⟨t, rfl⟩ := ry
  obtain ⟨its, r, pl, hz⟩ := I.list hq
  obtain ⟨j, h1, h2, h3, h4, h5⟩ := atI_get he
  obtain ⟨w, ew, rw'⟩ := r.get h2
  have hl := r.length
  have hn := line63
  have fin : EP X pins σ Q w s := ⟨z, H, I, rw', q⟩
  by_cases h0 : 0 ≤ i
  · have hj : i.toNat = j := by
      rw [seqIndex_of h0 h5] at h1
      exact Option.some.inj h1
    exact item_listR pl.isList h0 (by omega) (by rw [hj]; simpa using ew) fin hs
  · have hj : (i + (its.toArray.size : Int)).toNat = j := by
      rw [seqIndex_neg (by omega) h4] at h1
      rw [List.size_toArray, ← hl]
      exact Option.some.inj h1
    exact subscriptTail_builtinR (x := w) pl.isList.typeIs slot_list_getitem.lookup
      (wpAny_getItem_list_neg (Q := fun r s' => r = w ∧ EP X pins σ Q r s') pl.isList (by omega) (by rw [List.size_toArray] <;> omega) (by omega) (by rw [hj]; simpa using ew) ⟨rfl, fin⟩) hs
theorem ix_tup : IxR X (rIxT X.K) := by
  intro value slice pins s σ H x y v u Q I rx ry h hs
  obtain ⟨p, xs, i, z, rfl, rfl, hq, he, q⟩ := h
  cases rx
  obtain ⟨t, rfl⟩ := ry
  obtain ⟨its, r, pl, hz⟩ := I.tuple hq
  obtain ⟨j, h1, h2, h3, h4, h5⟩ := atI_get he
  obtain ⟨w, ew, rw'⟩ := r.get h2
  have hl := r.length
  have hn := line63
  have fin : EP X pins σ Q w s := ⟨z, H, I, rw', q⟩
  exact subscriptTail_builtinR (x := w) pl.typeIs slot_tuple_getitem.lookup
    (getItem_tuple (j := j) (Q := fun r s' => r = w ∧ EP X pins σ Q r s') pl (by omega) (by omega) (by rw [List.size_toArray, ← hl]; exact h1) (by simpa using ew) ⟨rfl, fin⟩) hs
theorem ix_str : IxR X rIxS := by
  intro value slice pins s σ H x y v u Q I rx ry h hs
  obtain ⟨z, i, c, rfl, rfl, hz, he, q⟩ := h
  obtain ⟨t, rfl⟩ := rx
  obtain ⟨t', rfl⟩ := ry
  obtain ⟨j, h1, h2, h3, h4, h5⟩ := atI_get he
  have hl : z.cps.toList.length = z.length := by simp [Str.length]
  rw [hl] at h1 h4 h5
  have hn := line63
  exact tail_any (typeIs_str s z t) slot_str_getitem.lookup (getItem_str (c := c) (by
    have e1 : decide (i < -(2 ^ 63 : Int)) = false := decide_eq_false (by omega)
    have e2 : decide (i ≥ 2 ^ 63) = false := decide_eq_false (by omega)
    rw [e1, e2, Bool.or_false]) (by rw [h1]; simpa using h2) ⟨.str ⟨#[c]⟩, H, I.tok _, ⟨_, rfl⟩, q⟩) hs
theorem mapSeq_set (its : List Value) (n j : Nat) (u : Value) : Obj.mapSeq (·.setIfInBounds j u) { cls := .type "list", data := .seq its.toArray n } = { cls := .type "list", data := .seq (its.set j u).toArray n } := by
  simp [Obj.mapSeq]
theorem Inv.lst {pins : List (Addr × Obj)} {σ : St} {H : Hp} {s : Shared} {p : Addr} {xs : List V} (I : Inv X pins σ H s) (h : H p = some (.lst xs)) :
    ∃ (its : List Value) (n : Nat), Vals xs its ∧ s.heap.get? p = some { cls := .type "list", data := .seq its.toArray n } ∧ xs.length ≤ sizeLine := by
  obtain ⟨z, its, n, r, e⟩ := I.hok p _ h
  exact ⟨its, n, r, e, z⟩
theorem Inv.lstUpd {pins : List (Addr × Obj)} {σ : St} {H : Hp} {s : Shared} {p : Addr} {xs ys : List V} {its its' : List Value} {n n' : Nat} {f : Obj → Obj} (I : Inv X pins σ H s) (h : H p = some (.lst xs))
    (ho : s.heap.get? p = some { cls := .type "list", data := .seq its.toArray n }) (hf : f { cls := .type "list", data := .seq its.toArray n } = { cls := .type "list", data := .seq its'.toArray n' }) (r : Vals ys its') (hz : ys.length ≤ sizeLine) (t : Nat) :
    Inv X pins σ (upd H p (.lst ys)) { s with heap := s.heap.update p f, toks := t } := by
  have e : (s.heap.update p f).get? p = some { cls := .type "list", data := .seq its'.toArray n' } := by
    rw [Heap.get?_update_self f ho (by rw [hf] <;> rfl), hf]
  refine I.write (x := p) (e := p) (by rw [h]; trivial) (.inl rfl) (fun b u hb q => (Heap.get?_update_other _ _ (Ne.symm hb)).trans q) ⟨_, e⟩ ?_
  exact ⟨hz, its', n', r, e⟩
def rSetL : V → V → V → Hp → (Hp → Prop) → Prop := fun o i v H Q => ∃ p xs k j, o = .ref p ∧ i = .int k ∧ H p = some (.lst xs) ∧ ixN xs.length k = some j ∧ Q (upd H p (.lst (xs.set j v)))
theorem set_list : PSet X rSetL := by
  intro pins s σ H o i v ov iv u Q I ro ri rv h
  obtain ⟨p, xs, k, j, rfl, rfl, hp, hj, q⟩ := h
  cases ro
  obtain ⟨t, rfl⟩ := ri
  obtain ⟨its, n, r, ho, hz⟩ := I.lst hp
  obtain ⟨h1, h2, h3, h4⟩ := ixN_seq hj
  have hl := r.length
  have hn := line63
  have I' : Inv X pins σ (upd H p (.lst (xs.set j v))) { s with heap := s.heap.update p (Obj.mapSeq (·.setIfInBounds j u)) } :=
    I.lstUpd hp ho (mapSeq_set its n j u) (r.set rv j) (by rw [List.length_set]; exact hz) s.toks
  by_cases h0 : 0 ≤ k
  · have hk : k.toNat = j := by
      rw [seqIndex_of h0 h4] at h1
      exact Option.some.inj h1
    exact PySem.W.ki_setAt ho h0 (by omega) (by rw [List.size_toArray, ← hl]; exact h4) (by rw [hk]; exact ⟨_, I', q⟩)
  · have hk : (k + (its.toArray.size : Int)).toNat = j := by
      rw [seqIndex_neg (by omega) h3] at h1
      rw [List.size_toArray, ← hl]
      exact Option.some.inj h1
    exact PySem.W.ki_setBack ho (by omega) (by rw [List.size_toArray, ← hl]; exact h3) (by omega) (by rw [hk]; exact ⟨_, I', q⟩)
theorem slice_bounds (lo hi : Option Int) (n : Nat) : (sliceBounds lo hi none n).1 = ((HT.sIx n 0 lo : Nat) : Int) ∧ (sliceBounds lo hi none n).2.1 = ((HT.sIx n n hi : Nat) : Int) ∧ (sliceBounds lo hi none n).2.2 = 1 := by
  refine ⟨?_, ?_, rfl⟩
  · cases lo with
    | none => simp [sliceBounds, HT.sIx]
    | some i =>
      simp only [sliceBounds, HT.sIx, Option.getD_none, show (1 : Int) > 0 by decide, if_true]
      by_cases h : i < 0
      · simp only [h, if_true] <;> omega
      · simp only [h, if_false] <;> omega
  · cases hi with
    | none => simp [sliceBounds, HT.sIx]
    | some i =>
      simp only [sliceBounds, HT.sIx, Option.getD_none, show (1 : Int) > 0 by decide, if_true]
      by_cases h : i < 0
      · simp only [h, if_true] <;> omega
      · simp only [h, if_false] <;> omega
theorem slicePick_cut (its : List Value) (lo hi : Option Int) : slicePick its.toArray lo hi none = ((its.drop (HT.sIx its.length 0 lo)).take (HT.sIx its.length its.length hi - HT.sIx its.length 0 lo)).toArray := by
  obtain ⟨h1, h2, h3⟩ := slice_bounds lo hi its.toArray.size
  unfold slicePick
  rw [h1, h2, h3]
  simp only [sliceRange_one, pick_run, List.size_toArray] <;> rfl
def rSlL (K : PySem.W.Frag) : V → Option Int → Option Int → Hp → VK → Prop := fun x lo hi H Q => ∃ a xs, x = .ref a ∧ SqL K H a xs ∧ ∀ p, H p = none → Q (.ref p) (upd H p (.lst (cutV xs lo hi)))
theorem sl_list : SlR X (rSlL X.K) := by
  intro pins s σ H x v vl vu lo hi sl Q I rx hs pl pu h
  obtain ⟨a, xs, rfl, hx, q⟩ := h
  cases rx
  obtain ⟨its, r, ht, hz⟩ := I.list hx
  have hlen := r.length
  refine ⟨"list", _, slot_list_getitem.lookup, ht.isList.typeIs, ?_⟩
  refine wpAny_getItem_list_slice ht.isList hs pl pu .none (by simp) ?_ (by rw [List.size_toArray] <;> omega)
  rw [slicePick_cut, ← hlen]
  refine ⟨.ref s.heap.objs.size, _, I.laid (t' := s.toks) (o := .lst (cutV xs lo hi)) (fun b ob q => Heap.get?_push_of_some _ q) (Nat.le_refl _) ?_, rfl, q _ (I.hok.fresh (Nat.le_refl _))⟩
  exact ⟨Nat.le_trans (cutV_length xs lo hi) hz, _, 0, (r.drop (HT.sIx xs.length 0 lo)).take (HT.sIx xs.length xs.length hi - HT.sIx xs.length 0 lo), Heap.get?_push_size _ rfl⟩
theorem call_len_seq : CallR X (.builtin "len") (fun xs H Q => ∃ p ys, xs = [.ref p] ∧ (SqL X.K H p ys ∨ SqT X.K H p ys) ∧ Q (.int ys.length) H) := by
  intro pins s σ H xs us Q I r h
  obtain ⟨p, ys, rfl, hq, q⟩ := h
  obtain ⟨u, rfl, rx⟩ := vals1 r
  cases rx
  have hn := line63
  rcases hq with hq | hq
  · obtain ⟨its, r', pl, hz⟩ := I.list hq
    have hlen := r'.length
    exact Calls.call_len_list pl.isList (by simp only [List.size_toArray] <;> omega) ⟨.int ys.length, H, I.tok _, ⟨s.toks + 1, by rw [List.size_toArray, hlen]⟩, q⟩
  · obtain ⟨its, r', pl, hz⟩ := I.tuple hq
    have hlen := r'.length
    exact len_tuple pl (by simp only [List.size_toArray] <;> omega) ⟨.int ys.length, H, I.tok _, ⟨s.toks + 1, by rw [List.size_toArray, hlen]⟩, q⟩
theorem call_len_str : CallR X (.builtin "len") (fun xs H Q => ∃ z, xs = [.str z] ∧ z.length ≤ sizeLine ∧ Q (.int z.length) H) := by
  intro pins s σ H xs us Q I r h
  obtain ⟨z, rfl, hz, q⟩ := h
  obtain ⟨u, rfl, t, rfl⟩ := vals1 r
  have hn := line63
  exact len_str (by omega) ⟨.int z.length, H, I.tok _, ⟨_, rfl⟩, q⟩
theorem call_list_of : CallR X (.type "list") (fun xs H Q => ∃ p ys, xs = [.ref p] ∧ (SqL X.K H p ys ∨ SqT X.K H p ys) ∧ ∀ l, H l = none → Q (.ref l) (upd H l (.lst ys))) := by
  intro pins s σ H xs us Q I r h
  obtain ⟨p, ys, rfl, hq, q⟩ := h
  obtain ⟨u, rfl, rx⟩ := vals1 r
  cases rx
  have fin : ∀ (its : List Value), Vals ys its → ys.length ≤ sizeLine → ∀ (h' : Heap) (c' : Nat), (∀ b o', s.heap.get? b = some o' → h'.get? b = some o') →
      h'.get? s.heap.objs.size = some { cls := .type "list", dict := none, data := .seq its.toArray c', slots := #[] } → EP X pins σ Q (.ref s.heap.objs.size) { s with heap := h' } := fun its r' hz h' c' kp e =>
    ⟨.ref s.heap.objs.size, _, I.laid (t' := s.toks) kp (Nat.le_refl _) (show ObjOk X.prog X.w _ h' _ (.lst ys) from ⟨hz, its, c', r', e⟩), rfl, q _ (I.hok.fresh (Nat.le_refl _))⟩
  rcases hq with hq | hq
  · obtain ⟨its, r', pl, hz⟩ := I.list hq
    have hlen := r'.length
    obtain ⟨o, ho, hc, n, hd⟩ := pl.isList
    exact call_list_seq p (.inl rfl) ho hc hd (fun h' c' kp e => fin its r' hz h' c' kp e) (by simp only [List.size_toArray] <;> omega)
  · obtain ⟨its, r', pl, hz⟩ := I.tuple hq
    have hlen := r'.length
    obtain ⟨o, ho, hc, n, hd⟩ := pl
    exact call_list_seq p (.inr rfl) ho hc hd (fun h' c' kp e => fin its r' hz h' c' kp e) (by simp only [List.size_toArray] <;> omega)
theorem call_tuple_of : CallR X (.type "tuple") (fun xs H Q => ∃ p ys, xs = [.ref p] ∧ ((SqL X.K H p ys ∧ ∀ l, H l = none → Q (.ref l) (upd H l (.tup ys))) ∨ (SqT X.K H p ys ∧ Q (.ref p) H))) := by
  intro pins s σ H xs us Q I r h
  obtain ⟨p, ys, rfl, h⟩ := h
  obtain ⟨u, rfl, rx⟩ := vals1 r
  cases rx
  rcases h with ⟨hq, q⟩ | ⟨hq, q⟩
  · obtain ⟨its, r', pl, hz⟩ := I.list hq
    have hlen := r'.length
    refine call_tuple_list pl.isList (fun h' kp => ?_) (by simp only [List.size_toArray] <;> omega)
    have I1 : Inv X pins σ H { s with heap := h' } := I.kept (t' := s.toks) kp
    have I2 : Inv X pins σ (upd H h'.objs.size (.tup ys)) { s with heap := h'.push { cls := .type "tuple", data := .seq its.toArray } } :=
      I1.laid (t' := s.toks) (fun b o e => Heap.get?_push_of_some _ e) (Nat.le_refl _) (show ObjOk X.prog X.w _ _ _ (.tup ys) from ⟨hz, its, r', IsTup.new _ _⟩)
    exact ⟨.ref h'.objs.size, _, I2, rfl, q _ (I1.hok.fresh (Nat.le_refl _))⟩
  · obtain ⟨its, r', pl, hz⟩ := I.tuple hq
    exact call_tuple_same pl ⟨.ref p, H, I, rfl, q⟩
def tyV (K : PySem.W.Frag) (T : String) (x : V) (H : Hp) : Prop := match x with
  | .str _ => T = "str"
  | .int _ => T = "int"
  | .ref p => (T = "list" ∧ ∃ xs, SqL K H p xs) ∨ (T = "tuple" ∧ ∃ o, K.lookup p = some o ∧ o.cls = .type "tuple" ∧ o.dict = none) ∨
      (T = "dict" ∧ ((∃ kvs, H p = some (.dK kvs)) ∨ ∃ kvs, H p = some (.dT kvs))) ∨ (T = "set" ∧ ∃ S n, H p = some (.set S n))
  | _ => False
theorem tyV_is {pins : List (Addr × Obj)} {σ : St} {H : Hp} {s : Shared} {T : String} {x : V} {v : Value} (I : Inv X pins σ H s) (r : RelV x v) (ty : tyV X.K T x H) :
    s.TypeIs v T ∧ ∀ a, v = .ref a → ∃ ob, s.heap.get? a = some ob ∧ ob.dict = none := by
  cases x with
  | str z =>
    obtain ⟨t, rfl⟩ := r
    cases (show T = "str" from ty)
    exact ⟨typeIs_str s z t, fun _ e => nomatch e⟩
  | int i =>
    obtain ⟨t, rfl⟩ := r
    cases (show T = "int" from ty)
    exact ⟨typeIs_int s i t, fun _ e => nomatch e⟩
  | ref p =>
    cases r
    rcases ty with ⟨rfl, xs, hq⟩ | ⟨rfl, o, hk, hc, hd⟩ | ⟨rfl, hk⟩ | ⟨rfl, S, n, hk⟩
    · obtain ⟨its, _, pl, _⟩ := I.list hq
      refine ⟨pl.isList.typeIs, fun a e => ?_⟩
      cases e
      obtain ⟨o, n, e, c, hd, _⟩ := pl
      exact ⟨o, e, hd⟩
    · refine ⟨⟨o, I.kIn p o hk, hc⟩, fun a e => ?_⟩
      cases e
      exact ⟨o, I.kIn _ o hk, hd⟩
    · have z : ∃ o, s.heap.get? p = some o ∧ o.ExactDict := by
        rcases hk with ⟨kvs, hk⟩ | ⟨kvs, hk⟩
        · obtain ⟨_, _, _, _, o, _, _, e, ex, _⟩ := I.hok p _ hk
          exact ⟨o, e, ex⟩
        · obtain ⟨_, _, _, _, o, _, _, e, ex, _⟩ := I.hok p _ hk
          exact ⟨o, e, ex⟩
      obtain ⟨o, e, ex⟩ := z
      refine ⟨⟨o, e, ex.1⟩, fun a e2 => ?_⟩
      cases e2
      exact ⟨o, e, ex.2.1⟩
    · obtain ⟨o, _, _, _, e, ex, _⟩ := I.hok p _ hk
      refine ⟨⟨o, e, ex.1⟩, fun a e2 => ?_⟩
      cases e2
      exact ⟨o, e, ex.2.1⟩
  | _ => exact False.elim ty
def tBM0 (K : PySem.W.Frag) (T : String) (r : V → List V → Hp → VK → Prop) (to : TE) : TE := fun σ H Q => to σ H fun x H1 => tyV K T x H1 ∧ r x [] H1 Q
def tBM (K : PySem.W.Frag) (T : String) (r : V → List V → Hp → VK → Prop) (to : TE) (t : TA) : TE := fun σ H Q => to σ H fun x H1 => tyV K T x H1 ∧ t σ H1 fun xs H2 => r x xs H2 Q
variable {o e : Expr} {es : List Expr} {to : TE} {t : TA} {name : Str} {apos cpos : Pos} {T id : String} {r : V → List V → Hp → VK → Prop}
theorem pe_bm0 (pa : PlainAttrs T) (slot : Slot T name id) (hty : typeOf (.builtin id) = pure (.type "method_descriptor")) (hm : MtR X id r) (ho : PE X o to)
    (hbase : attributeBase o name X.env (eval o X.env) = eval o X.env := by rfl) (hline : (apos.endLine == cpos.line) = true := by rfl) : PE X (.Call (.Attribute o name apos) [] [] cpos) (tBM0 X.K T r to) := by
  intro pins s σ H Q I h
  refine wpAny_Call_method0_late hbase hline (thn (ho pins s σ H _ I h) fun v s1 ⟨x, H1, I1, r1, ty, q1⟩ => ?_)
  obtain ⟨h1, h2⟩ := tyV_is I1 r1 ty
  exact ⟨T, id, pa, slot, hty, h1, h2, Calls.callWith_builtin rfl (PySem.evalArgs_none (hm pins s1 σ H1 x [] v [] Q I1 r1 .nil q1))⟩
theorem pe_bm (pa : PlainAttrs T) (slot : Slot T name id) (hty : typeOf (.builtin id) = pure (.type "method_descriptor")) (hm : MtR X id r) (ho : PE X o to) (ha : PA X (e :: es) t)
    (hbase : attributeBase o name X.env (eval o X.env) = eval o X.env := by rfl)
    (hfew : ((backTo cpos (starEach (e :: es) X.env)).all (fun x => !x.1) && (backToKw cpos (keywordEach [] X.env)).all (fun x => x.1.isSome)
      && decide ((e :: es).length + ([] : List Keyword).length + (if ([] : List Keyword).isEmpty then 0 else 1) < 30)) = true := by rfl)
    (hline : (apos.endLine == cpos.line) = true := by rfl) (hs : starEach (e :: es) X.env = (false, eval e X.env) :: starEach es X.env := by rfl) (hplain : (backTo cpos (starEach es X.env)).any (·.1) = false := by rfl) :
    PE X (.Call (.Attribute o name apos) (e :: es) [] cpos) (tBM X.K T r to t) := by
  intro pins s σ H Q I h
  refine wpAny_Call_method_late hbase hfew hline rfl (thn (ho pins s σ H _ I h) fun v s1 ⟨x, H1, I1, r1, ty, q1⟩ => ?_)
  obtain ⟨h1, h2⟩ := tyV_is I1 r1 ty
  refine ⟨T, id, pa, slot, hty, h1, h2, ?_⟩
  have hA := ha cpos pins s1 σ H1 _ I1 q1
  rw [hs] at hA ⊢
  refine Calls.callWith_builtin (by show (false || (backTo cpos (starEach es X.env)).any (·.1)) = false; rw [hplain] <;> rfl) (Calls.evalArgs_plain ?_)
  exact thn hA fun us s2 ⟨vs, H2, I2, r2, q2⟩ => hm pins s2 σ H2 x vs v us Q I2 r1 r2 q2
end
end L2
namespace L2
open PySem PySem.Spec PyProof.Rows
section
variable {X : Cx} {pins : List (Addr × Obj)} {σ : St} {H : Hp} {s : Shared} {l b : Addr} {xs ys zs : List V}
theorem Inv.lnew {its : List Value} {t' : Nat} (I : Inv X pins σ H s) (hv : Vals ys its) (hz : ys.length ≤ sizeLine) :
    Inv X pins σ (upd H s.heap.objs.size (.lst ys)) { s with heap := s.heap.push { cls := .type "list", data := .seq its.toArray }, toks := t' } :=
  I.laid (fun _ _ q => Heap.get?_push_of_some _ q) (Nat.le_refl _) ⟨hz, its, 0, hv, Heap.get?_push_size _ rfl⟩
theorem Inv.fresh (I : Inv X pins σ H s) : H s.heap.objs.size = none := I.hok.fresh (Nat.le_refl _)
theorem Inv.lstM (I : Inv X pins σ H s) (hH : H l = some (.lst xs)) : xs.length ≤ sizeLine ∧ ∃ (its : List Value) (n : Nat), Vals xs its ∧ xs.length = its.length ∧ s.heap.get? l = some { cls := .type "list", data := .seq its.toArray n } := by
  obtain ⟨z, its, n, r, e⟩ := I.hok l _ hH
  exact ⟨z, its, n, r, r.length, e⟩
end
section
variable {X : Cx}
def rCat : R2 := fun x y H Q => ∃ l b xs zs, x = .ref l ∧ y = .ref b ∧ H l = some (.lst xs) ∧ H b = some (.lst zs) ∧ xs.length + zs.length ≤ sizeLine ∧ ∀ p, H p = none → Q (.ref p) (upd H p (.lst (xs ++ zs)))
theorem op_cat : OpR X (binaryOp .Add) rCat := by
  intro pins s σ H x y v u Q I rx ry h
  obtain ⟨l, b, xs, zs, rfl, rfl, hH, hB, hz, q⟩ := h
  cases rx
  cases ry
  obtain ⟨z, its, n, r, hl, e⟩ := I.lstM hH
  obtain ⟨z2, its2, n2, r2, hl2, e2⟩ := I.lstM hB
  refine PySem.P.add_list e e2 ?_ (by rw [List.size_toArray, List.size_toArray]; omega)
  have ea : its.toArray ++ its2.toArray = (its ++ its2).toArray := by simp
  rw [ea]
  exact ⟨.ref _, _, I.lnew (t' := s.toks) (r.append r2) (by rw [List.length_append]; omega), rfl, q _ I.fresh⟩
end
section
variable {prog : Program} {w : World} {A : Around} {E : Value → Shared → Prop} {s : Shared}
end
section
variable {X : Cx}
end
end L2
namespace Att
open PySem PySem.W PySem.Calls PyProof.Rows
theorem ints_of_wellAll {P : Params} {h : Heap} : ∀ (ns : List Int) (vs : List Value), WellAll P h vs (ns.map WData.int) → IntsAre vs ns := by
  intro ns
  induction ns with
  | nil =>
    intro vs w
    rw [List.map_nil] at w
    cases w
    exact .nil
  | cons n ns ih =>
    intro vs w
    rw [List.map_cons] at w
    cases w with
    | cons a b =>
      cases a
      exact .cons _ _ (ih _ b)
theorem script_of {l : OpenLaw} {n : Nat} (hn : l.most = some n) {P : Params} {h : Heap} {args : List WData} {vals : List Value}
    (hpre : l.row.toRowW.claim.pre args = true) (hwl : WellAll P h vals args) :
    ∃ a vs ns, vals = [Value.ref a] ∧ args = [WData.list (ns.map WData.int)] ∧ h.get? a = some { cls := .type "list", data := .seq vs.toArray } ∧ IntsAre vs ns ∧ ns.length ≤ n := by
  have hsh : WShape.hasAll [] args [.list .int] = true := (pre_splitW hpre).1
  have hc : l.pre.holds [] { args := args } = true := (pre_splitW hpre).2
  obtain ⟨d, r, rfl, h1, h2⟩ := hasAllW_cons hsh
  obtain rfl := hasAllW_nil h2
  obtain ⟨xs, rfl, h3⟩ := hasW_list h1
  obtain ⟨ns, rfl⟩ := items_int h3
  have hlen : ns.length ≤ n := by
    unfold OpenLaw.pre at hc
    have h4 : (WTm.not (.lt (.lit (.int (n : Int))) (.len (.arg 0)))).holds [] { args := [.list (ns.map .int)] } = true := by
      have h4 := (holds_andW hc).1
      rw [hn] at h4
      exact h4
    have h5 := condW_of h4 (w_not (w_lt w_lit (w_len_list (w_arg rfl))))
    rw [List.length_map] at h5
    refine Nat.le_of_not_lt fun q => ?_
    have q' : (n : Int) < ((ns.length : Nat) : Int) := by omega
    first
      | (rw [decide_eq_true q'] at h5; exact absurd h5 (by decide))
      | (simp at h5; omega)
  cases hwl with
  | cons w1 w2 =>
    cases w2
    cases w1 with
    | list ho hall => exact ⟨_, _, ns, rfl, rfl, ho, ints_of_wellAll ns _ hall, hlen⟩
theorem post_true (l : OpenLaw) (args : List WData) : l.row.toRowW.claim.post args (.bool true) args = true :=
  postW_of (r := l.row.toRowW) (X := (true == true))
    (show WShape.has [] (.bool true) .bool = true by first | rfl | decide | simp [WShape.has, WShape.arms, WShape.armsAll])
    (show (WTm.eq .res (.lit (.bool true))).value [] { args := args, res := some (.bool true), after := args } = some (.bool (true == true)) from w_eq_bool (w_res rfl) w_lit) rfl
theorem attach_call {l : OpenLaw} {n : Nat} {q : Program} {loose : List Str} {XP : (Str → Option Value) → Heap → Prop} {YP : World → Heap → Prop} {d : DefRec}
    (hn : l.most = some n) (hdf : d.params.defaults = [])
    (call : ∀ (w : World) (s₀ s₁ : Shared) (mg mb : Str → Option Value) (fa : Addr) (o : Obj) (pm cd doc : Value) (a : Addr) (vs : List Value) (ns : List Int),
      Ground q loose [] XP w s₀ mg mb s₁.heap → YP w s₁.heap →
      s₁.heap.get? fa = some o → o.data = .func (docDef d.name d.params d.body d.scope pm cd doc) → s₁.heap.CodeRec cd d.name → mg d.name = some (.ref fa) →
      s₁.heap.get? a = some { cls := .type "list", data := .seq vs.toArray } → IntsAre vs ns → ns.length ≤ n → s₁.gens = #[] →
      codeAny (model l.prog w) callerA (.call (.ref fa) ⟨[.ref a], []⟩) (fun r s' => r = .ok (.ret (.bool true)) ∧ OldK s₁.heap s'.heap ∧ s'.os = s₁.os ∧ AllBare s'.gens) s₁) :
    WalkO q loose XP YP l.row.toRowW d [] (fun f vs => PySem.call f vs) := by
  intro w s₀ s₁ mg mb G Y fa o pm cd doc dV kV ho hd hcd hD hmg hg args vals as hpre hlay hrd hwl hlo
  obtain rfl : dV = .none := Dflts.none hD hdf
  obtain rfl : kV = .none := Dflts.noKw hD
  obtain ⟨a, vs, ns, rfl, rfl, hobj, hints, hlen⟩ := script_of hn hpre hwl
  refine enter_call (codeAny_mono (call w s₀ s₁ mg mb fa o pm cd doc a vs ns G Y ho (fd_plain hd) hcd hmg hobj hints hlen hg) fun r s' hq => ?_)
  obtain ⟨rfl, h2, h3, h4⟩ := hq
  exact ⟨.inl ⟨.bool true, .bool true, [], rfl, fun _ => rfl, .bool true, post_true l _, fun _ => ⟨List.Pairwise.nil, fun _ hm => (nomatch hm)⟩⟩, h2, h3, h4⟩
section
variable {prog : Program} {w : World} {A : Around} {E : Value → Shared → Prop} {s : Shared} {K : Frag}
end
end Att
namespace L2
open PySem PySem.Spec PyProof.Rows
theorem vals_ints : ∀ {vs : List Value} {ns : List Int}, IntsAre vs ns → Vals (ns.map V.int) vs
  | _, _, .nil => .nil
  | _, _, .cons n t h => .cons ⟨t, rfl⟩ (vals_ints h)
def Only (H : Hp) : Prop := ∀ b, H b = none ∨ ∃ o xs, H b = some (.frz o (.lst xs))
theorem law_call {P : Program} {w : World} {K : PySem.W.Frag} {mg mb : Str → Option Value} {CX : CXT} {k : Nat} {fa a : Addr} {fd : FuncData} {x : Str} {sp : Sp} {s₁ : Shared} {vs : List Value} {ns : List Int}
    (KX : K.In s₁.heap) (hns : s₁.heap.Ns mainGlobals mg) (hb : s₁.heap.Ns builtinsNs mb) (hbb : ∀ x : Str, x ≠ "__name__" → mb x = bootBuiltins x) (hlim : s₁.heap.NoLimit) (hg : s₁.gens = #[])
    (ha : s₁.heap.get? a = some { cls := .type "list", data := .seq vs.toArray }) (hi : IntsAre vs ns) (hl : ns.length ≤ sizeLine) (hr : Room k callerA)
    (F : ∀ base : Heap, K.In base → base.Ns mainGlobals mg → FnOk P w K mg base CX k fa fd [x] sp) (hbind : ∀ (s : Shared) (u : Value), BindsTo s fd ⟨[u], []⟩ [(x, u)])
    (hsp : ∀ H : Hp, Only H → SqL K H a (ns.map V.int) → sp [.ref a] H (fun v _ => v = .bl true) fun _ _ _ => False)
    (hCX : ∀ H e s', CX [] H s₁ (fun _ _ _ => False) e s' → False) :
    codeAny (model P w) callerA (.call (.ref fa) ⟨[.ref a], []⟩) (fun r s' => r = .ok (.ret (.bool true)) ∧ OldK s₁.heap s'.heap ∧ s'.os = s₁.os ∧ AllBare s'.gens) s₁ := by
  have rv := vals_ints hi
  have lenV := hi.length
  have core : ∀ H : Hp, Only H → SqL K H a (ns.map V.int) → HOk P w H s₁.heap → (∀ b, H b ≠ none → b = a) → (H a ≠ none → K.lookup a = none) →
      codeAny (model P w) callerA (.call (.ref fa) ⟨[.ref a], []⟩) (fun r s' => r = .ok (.ret (.bool true)) ∧ OldK s₁.heap s'.heap ∧ s'.os = s₁.os ∧ AllBare s'.gens) s₁ := by
    intro H hO hS hok hA hK
    have base_of : ∀ {b : Addr} {o : Obj}, s₁.heap.get? b = some o → H b = none → (hidT s₁.heap H).get? b = some o := fun e n => hidT_get e n
    have noA : ∀ {b : Addr} {o : Obj} {es : Array DictEntry} {ep : Nat}, s₁.heap.get? b = some o → o.data = .dict es ep → H b = none := fun {b o es ep} e d => by
      cases q : H b with
      | none => rfl
      | some u =>
        have e' : b = a := hA b (by rw [q]; simp)
        subst e'
        rw [ha] at e; cases e
        have d' : Data.seq vs.toArray _ = Data.dict es ep := d
        cases d'
    have nsK : ∀ {b : Addr} {m : Str → Option Value}, s₁.heap.Ns b m → (hidT s₁.heap H).Ns b m := fun {b m} ⟨o, es, ep, e, d, r⟩ => ⟨o, es, ep, base_of e (noA e d), d, r⟩
    have hKb : K.In (hidT s₁.heap H) := fun b o e => base_of (KX b o e) (by
      cases q : H b with
      | none => rfl
      | some u =>
        have e' : b = a := hA b (by rw [q]; simp)
        subst e'
        rw [hK (by rw [q]; simp)] at e; cases e)
    have hM : Mod K mg (hidT s₁.heap H) := ⟨hKb, nsK hns, ⟨mb, nsK hb, hbb⟩, let ⟨mc, h1, h2⟩ := hlim; ⟨mc, nsK h1, h2⟩⟩
    have e0 : Env0 P w K mg (hidT s₁.heap H) callerA [] s₁ H := ⟨rfl, hM, fun b o e => of_hidT e, Nat.le_of_eq (hidT_size _ _), trivial, fun b hb => absurd (show b ∈ ([] : List Addr) from hb) (by simp), hok, .of_eq hg, .inl rfl⟩
    refine codeAny_mono ((F _ hKb (nsK hns)).run callerA [] s₁ H ⟨[.ref a], []⟩ [.ref a] [.ref a] _ _ hr e0 (hbind s₁ (.ref a)) (.cons rfl .nil) (hsp H hO hS)) fun r s' h => ?_
    cases r with
    | error e => exact (hCX H e s' h).elim
    | ok fl =>
      cases fl with
      | next => exact False.elim h
      | brk => exact False.elim h
      | cont => exact False.elim h
      | ret u =>
        obtain ⟨v, H', os, bare, un, hok', r', q⟩ := h
        have q' : v = .bl true := q
        subst q'
        obtain rfl : u = Value.bool true := r'
        refine ⟨rfl, OldK.of_keep fun b o e => ?_, os, bare⟩
        cases q : H b with
        | none => exact un.keep b o e q (by intro z; exact absurd (show b ∈ ([] : List Addr) from z) (by simp)) (by simp)
        | some u =>
          rcases hO b with z | ⟨ob, xs, z⟩
          · rw [q] at z; cases z
          · have z2 := un.frzs b ob _ z
            obtain ⟨e1, _⟩ := hok b _ z
            obtain ⟨e2, _⟩ := hok' b _ z2
            rw [e] at e1; cases e1
            exact e2
  cases hk : K.lookup a with
  | some o =>
    have e := KX a o hk
    rw [ha] at e
    cases e
    refine core (fun _ => none) (fun _ => .inl rfl) (.inr ⟨_, vs.toArray, _, hk, rfl, rfl, rfl, by rw [List.size_toArray, lenV]; exact hl, by simpa using rv⟩) (fun b u z => by have z' : (none : Option HO) = some u := z; cases z') (fun b z => absurd rfl z) fun z => absurd rfl z
  | none =>
    refine core (fun b => if b = a then some (.frz { cls := .type "list", data := .seq vs.toArray } (.lst (ns.map V.int))) else none) (fun b => ?_) (.inl (.inr ⟨{ cls := .type "list", data := .seq vs.toArray }, if_pos rfl⟩)) (fun b u z => ?_) (fun b z => ?_) fun _ => hk
    · by_cases hb : b = a
      · exact .inr ⟨_, _, if_pos hb⟩
      · exact .inl (if_neg hb)
    · by_cases hb : b = a
      · have z' := (if_pos hb).symm.trans z
        cases z'
        subst hb
        exact ⟨ha, by rw [List.length_map]; exact hl, vs, _, rv, ha⟩
      · have z' := (if_neg hb).symm.trans z
        cases z'
    · by_cases hb : b = a
      · exact hb
      · exact absurd (if_neg hb) z
end L2
namespace L2
open PySem PySem.Spec PyProof.Rows
theorem walk_of {l : PySem.W.OpenLaw} {n k : Nat} {q : Program} {loose : List Str} {XP : (Str → Option Value) → Heap → Prop} {YP : World → Heap → Prop} {d : DefRec} {K : Params → PySem.W.Frag} {CX : World → CXT} {sp : World → Sp} {x : Str}
    (hn : l.most = some n) (hn2 : n ≤ sizeLine) (hdf : d.params.defaults = []) (hr : Room k callerA)
    (hY : ∀ (w : World) (h : Heap), YP w h → (K w.params).In h)
    (F : ∀ (w : World) (mg : Str → Option Value) (fa : Addr) (h : Heap), (K w.params).In h → h.Ns mainGlobals mg → mg d.name = some (.ref fa) →
      ∃ fd : FuncData, (∀ (s : Shared) (u : Value), BindsTo s fd ⟨[u], []⟩ [(x, u)]) ∧
        ∀ base : Heap, (K w.params).In base → base.Ns mainGlobals mg → FnOk l.prog w (K w.params) mg base (CX w) k fa fd [x] (sp w))
    (hsp : ∀ (w : World) (H : Hp) (a : Addr) (ns : List Int), ns.length ≤ n → Only H → SqL (K w.params) H a (ns.map V.int) → sp w [.ref a] H (fun v _ => v = .bl true) fun _ _ _ => False)
    (hCX : ∀ (w : World) (H : Hp) (s : Shared) (e : Value) (s' : Shared), CX w [] H s (fun _ _ _ => False) e s' → False) :
    PySem.W.WalkO q loose XP YP l.row.toRowW d [] (fun f vs => PySem.call f vs) := by
  refine Att.attach_call hn hdf fun w s₀ s₁ mg mb fa o pm cd doc a vs ns G Y ho hd hcd hmg hobj hints hlen hg => ?_
  have KX := hY w _ Y
  obtain ⟨fd, hb, hF⟩ := F w mg fa _ KX G.T.g hmg
  exact law_call KX G.T.g G.T.b G.T.builtins G.T.nolimit hg hobj hints (Nat.le_trans hlen hn2) hr hF hb (fun H hO hS => hsp w H a ns hlen hO hS) fun H e s' => hCX w H s₁ e s'
end L2
namespace L2
open PySem PySem.Spec PyProof.Rows
def inClass (s : Stmt) (j : Nat) : Stmt := match s with
  | .ClassDef _ _ _ body _ _ _ _ _ _ _ => body.getD j (.Pass ⟨0, 0, 0, 0⟩)
  | _ => .Pass ⟨0, 0, 0, 0⟩
def defArgs (s : Stmt) : Arguments := match s with
  | .FunctionDef _ a _ _ _ _ _ _ _ _ => a
  | _ => { posonlyargs := [], args := [], vararg := none, kwonlyargs := [], kw_defaults := [], kwarg := none, defaults := [] }
def defBody (s : Stmt) : List Stmt := match s with
  | .FunctionDef _ _ b _ _ _ _ _ _ _ => b
  | _ => []
def defScope (s : Stmt) : Scope := match s with
  | .FunctionDef _ _ _ _ _ _ sc _ _ _ => sc
  | _ => { kind := .function, names := [], isGenerator := false, isCoroutine := false }
abbrev CX0 : CXT := fun _ _ _ _ _ _ => False
abbrev E0 : XK := fun _ _ _ => False
theorem pass0 {X : Cx} : Passes CX0 X E0 := fun _ _ _ _ _ _ _ h => h.elim
structure Fun (K : PySem.W.Frag) (x qual : Str) (st : Stmt) (f : Addr) (fd : FuncData) : Prop where
  ex : ∃ (oc : Value) (od : Option Addr) (kV doc pm : Value) (an : Option Addr) (cdv ct : Value) (osl : Array (Option Value)),
    fd = PySem.W.fnOf x qual (defArgs st) (defBody st) (defScope st) .none kV doc pm an cdv ct ∧ K.lookup f = some ⟨oc, od, .func fd, osl⟩ ∧ PySem.W.codeIn K cdv qual = true
  kp : PySem.W.keepIn K (.ref f) = true
section
variable {P : Program} {w : World} {K : PySem.W.Frag} {mg : Str → Option Value} {base : Heap}
theorem Fun.ok {x qual : Str} {st : Stmt} {f : Addr} {fd : FuncData} {N ps : List Str} {k : Nat} {sp : Sp} (F : Fun K x qual st f fd) (S : FnScope N ps (defScope st)) (len : ∀ vs H Q E, sp vs H Q E → vs.length = ps.length)
    (hbody : ∀ (cdv : Value) (A : Around) (outer : List Env) (s : Shared) (H : Hp) (vs : List V) (Q : VK) (E : XK), Room k (A.deeper (envOfC qual (defScope st) s.heap.objs.size f cdv)) → sp vs H Q E →
      ∃ t, PSs (cxOf CX0 P w K mg base N qual (defScope st) f cdv A outer s H E).nox (defBody st) t ∧ t { nx := fun _ H' => Q .non H', rt := Q } (start N vs) H) : FnOk P w K mg base CX0 (k + 1) f fd ps sp := by
  obtain ⟨oc, od, kV, doc, pm, an, cdv, ct, osl, rfl, lk, hcd⟩ := F.ex
  refine fn_of lk hcd S len fun A outer s H vs Q E hr hsp => ?_
  obtain ⟨t, h, q⟩ := hbody cdv A outer s H vs Q E hr hsp
  exact ⟨t, h.nox, q⟩
theorem Fun.binds {x qual : Str} {st : Stmt} {f : Addr} {fd : FuncData} {ps : List Str} (F : Fun K x qual st f fd)
    (h : ∀ (kV doc pm : Value) (an : Option Addr) (cdv ct : Value) (us : List Value), us.length = ps.length → bindArgs (PySem.W.fnOf x qual (defArgs st) (defBody st) (defScope st) .none kV doc pm an cdv ct) ⟨us, []⟩ = pure (ps.zip us)) : Binds K fd ps [] := by
  obtain ⟨oc, od, kV, doc, pm, an, cdv, ct, osl, rfl, lk, hcd⟩ := F.ex
  exact .all (h kV doc pm an cdv ct)
theorem fun_mk {x qual : Str} {st : Stmt} {f : Addr} {oc : Value} {od an : Option Addr} {osl : Array (Option Value)} {kV doc pm cdv ct : Value} (l : K.lookup f = some ⟨oc, od, .func (PySem.W.fnOf x qual (defArgs st) (defBody st) (defScope st) .none kV doc pm an cdv ct), osl⟩)
    (c : PySem.W.codeIn K cdv qual = true) (k : PySem.W.keepIn K (.ref f) = true) : Fun K x qual st f (PySem.W.fnOf x qual (defArgs st) (defBody st) (defScope st) .none kV doc pm an cdv ct) := ⟨⟨oc, od, kV, doc, pm, an, cdv, ct, osl, rfl, l, c⟩, k⟩
end
section
variable {X : Cx}
theorem pv (i : Nat) {x : Str} {pos : Pos} (hN : X.N[i]? = some x := by rfl) (hv : Vis X.env.scope x := by first | exact Or.inl rfl | exact Or.inr (Or.inl rfl) | exact Or.inr (Or.inr rfl)) (hd : (x == ("__debug__" : Str)) = false := by decide)
    (hcd : (x == ("__classdict__" : Str)) = false := by decide) : PE X (.Name x pos) (tVar i) := pe_var hN hv hd hcd
end
theorem iteF {A B : Prop} (h : B) : if false = true then A else B := by
  rw [if_neg Bool.false_ne_true]
  exact h
theorem iteT {A B : Prop} (h : A) : if true = true then A else B := by
  rw [if_pos rfl]
  exact h
theorem ite2 {c A B : Prop} [Decidable c] (h1 : c → A) (h2 : ¬ c → B) : if c then A else B := by
  by_cases h : c
  · rw [if_pos h]
    exact h1 h
  · rw [if_neg h]
    exact h2 h
theorem iteNS {c A B : Prop} [Decidable c] (hc : c) (h : B) : if (!decide c) = true then A else B := by
  rw [decide_eq_true hc]
  exact iteF h
def Same (H H' : Hp) : Prop := ∀ b o, H b = some o → H' b = some o
theorem Same.refl (H : Hp) : Same H H := fun _ _ h => h
theorem Same.trans {H H1 H2 : Hp} (a : Same H H1) (b : Same H1 H2) : Same H H2 := fun c o h => b c o (a c o h)
theorem Same.seq {K : PySem.W.Frag} {H H' : Hp} {a : Addr} {xs : List V} (e : Same H H') (h : SqL K H a xs) : SqL K H' a xs := by
  rcases h with (h | ⟨o, h⟩) | h
  · exact .inl (.inl (e _ _ h))
  · exact .inl (.inr ⟨o, e _ _ h⟩)
  · exact .inr h
end L2
namespace L2
open PySem PySem.Spec PyProof.Rows
section
variable {X : Cx}
theorem call_isinst : CallR X (.builtin "isinstance") (fun xs H Q => ∃ x t n b, xs = [x, .ty n] ∧ TyOf X.K H x t ∧ PySem.W.kitOne X.K t (.type n) = some b ∧ Q (.bl b) H) := by
  intro pins s σ H xs us Q I r h
  obtain ⟨x, t, n, b, rfl, ty, e, q⟩ := h
  obtain ⟨u, u2, rfl, rx, r2⟩ := vals2 r
  cases (show u2 = Value.type n from r2)
  exact isinst_ok I rx ty e fun tk => ⟨.bl b, H, I.tok _, rfl, q⟩
theorem mt_startswith3 : MtR X "str.startswith" (fun x vs H Q => ∃ z y i, x = .str z ∧ vs = [.str y, .int i] ∧ Q (.bl (Txt.startswith3 z y i)) H) := by
  intro pins s σ H x xs v us Q I rx r h
  obtain ⟨z, y, i, rfl, rfl, q⟩ := h
  obtain ⟨t, rfl⟩ := rx
  obtain ⟨u, u2, rfl, ⟨t1, rfl⟩, ⟨t2, rfl⟩⟩ := vals2 r
  exact SC.startswith3 ⟨.bl _, H, I, rfl, q⟩
theorem mt_startswith : MtR X "str.startswith" (fun x vs H Q => ∃ z y, x = .str z ∧ vs = [.str y] ∧ Q (.bl (Txt.startswith z y)) H) := by
  intro pins s σ H x xs v us Q I rx r h
  obtain ⟨z, y, rfl, rfl, q⟩ := h
  obtain ⟨t, rfl⟩ := rx
  obtain ⟨u, rfl, ⟨t1, rfl⟩⟩ := vals1 r
  exact SC.startswith ⟨.bl _, H, I, rfl, q⟩
theorem mt_isdigit : MtR X "str.isdigit" (fun x vs H Q => ∃ z, x = .str z ∧ vs = [] ∧ Q (.bl (Txt.isdigit z)) H) := by
  intro pins s σ H x xs v us Q I rx r h
  obtain ⟨z, rfl, rfl, q⟩ := h
  obtain ⟨t, rfl⟩ := rx
  cases r
  exact SC.isdigit ⟨.bl _, H, I, rfl, q⟩
theorem call_int_text : CallR X (.type "int") (fun xs H Q => ∃ z n, xs = [.str z] ∧ PySem.intText? z = some n ∧ z.length ≤ 640 ∧ Q (.int n) H) := by
  intro pins s σ H xs us Q I r h
  obtain ⟨z, n, rfl, e, hl, q⟩ := h
  obtain ⟨u, rfl, ⟨t, rfl⟩⟩ := vals1 r
  exact PySem.W.KIN.call_text e hl ⟨.int n, H, I.tok _, ⟨_, rfl⟩, q⟩
theorem op_mul_str : OpR X (binaryOp .Mult) (fun x y H Q => ∃ z k, x = .str z ∧ y = .int k ∧ 0 ≤ k ∧ k ≤ 1048576 ∧ z.length ≤ 16 ∧ Q (.str (Txt.mul z k)) H) := by
  intro pins s σ H x y v u Q I rx ry h
  obtain ⟨z, k, rfl, rfl, h0, h1, h2, q⟩ := h
  obtain ⟨t, rfl⟩ := rx
  obtain ⟨t', rfl⟩ := ry
  exact SB.mul (mulOk_of 16 1048576 h2 h1 (by omega) (by decide) (by decide)) fun t' k' => ⟨.str _, H, I.tok _, ⟨_, rfl⟩, q⟩
theorem sl_str : SlR X (fun x lo hi H Q => ∃ z, x = .str z ∧ z.length ≤ sizeLine ∧ Q (.str (Txt.slice z lo hi)) H) := by
  intro pins s σ H x v vl vu lo hi sl Q I rx hs pl pu h
  obtain ⟨z, rfl, hz, q⟩ := h
  obtain ⟨t, rfl⟩ := rx
  refine ⟨"str", _, F.slot_str_getitem.lookup, typeIs_str _ _ _, ?_⟩
  cases pl <;> cases pu
  · exact wpAny_getItem_str_slice (l := none) (u := none) (st := none) hs rfl (post_val_or_str ⟨Nat.le_trans (Txt.slice_le z _ _) hz, fun t' k => ⟨.str _, H, I.tok _, ⟨_, rfl⟩, q⟩⟩)
  · exact wpAny_getItem_str_slice (l := none) (u := some (_, _)) (st := none) hs rfl (post_val_or_str ⟨Nat.le_trans (Txt.slice_le z _ _) hz, fun t' k => ⟨.str _, H, I.tok _, ⟨_, rfl⟩, q⟩⟩)
  · exact wpAny_getItem_str_slice (l := some (_, _)) (u := none) (st := none) hs rfl (post_val_or_str ⟨Nat.le_trans (Txt.slice_le z _ _) hz, fun t' k => ⟨.str _, H, I.tok _, ⟨_, rfl⟩, q⟩⟩)
  · exact wpAny_getItem_str_slice (l := some (_, _)) (u := some (_, _)) (st := none) hs rfl (post_val_or_str ⟨Nat.le_trans (Txt.slice_le z _ _) hz, fun t' k => ⟨.str _, H, I.tok _, ⟨_, rfl⟩, q⟩⟩)
theorem call_all_bl (hc : X.A.handled = none) : CallR X (.builtin "all") (fun xs H Q => ∃ (p : Addr) (bs : List Bool), xs = [.ref p] ∧ SqL X.K H p (bs.map V.bl) ∧ Q (.bl (bs.all id)) H) := by
  intro pins s σ H xs us Q I r h
  obtain ⟨p, bs, rfl, hq, q⟩ := h
  obtain ⟨u, rfl, rx⟩ := vals1 r
  cases (show u = Value.ref p from rx)
  obtain ⟨its, rv, pl, hz⟩ := I.list hq
  have hl := pl.isList
  have hlt : p < s.heap.objs.size := by obtain ⟨_, e, _⟩ := hl; exact Heap.lt_size e
  have hh : X.A.handled = none := hc
  have hlen : bs.length = its.length := by have := rv.length; rw [List.length_map] at this; exact this
  refine call_all_walk (wpAny_pyIter_list hl ?_)
  refine ⟨s.heap.objs.size, [s.heap.objs.size, p], [s.heap.objs.size], its.toArray.size, _, _, fun i => (bs[i]?).getD true, rfl, Walks.list (A := X.A.in1) hh _ p (Nat.ne_of_lt hlt) its.toArray,
    ⟨⟨_, Heap.get?_push_size _ rfl, rfl, rfl⟩, hl.push _⟩, fun i v s' Q' E' hP hQ => ?_, fun h' tk hk => ?_⟩
  · have hP' : its[i]? = some v := by simpa using hP
    have hi : i < its.length := (List.getElem?_eq_some_iff.mp hP').1
    have hb : (bs.map V.bl)[i]? = some (V.bl (bs[i]'(by omega))) := by rw [List.getElem?_map, List.getElem?_eq_getElem (by omega)]; rfl
    obtain ⟨u', e1, e2⟩ := rv.get hb
    rw [hP'] at e1
    cases e1
    cases (show v = Value.bool _ from e2)
    have hQ' : Q' ((bs[i]?).getD true) s' := hQ
    rw [List.getElem?_eq_getElem (by omega)] at hQ'
    exact wpAny_truthy_bool hQ'
  · have e : ((List.range its.toArray.size).all fun i => (bs[i]?).getD true) = bs.all id := by
      rw [List.size_toArray, ← hlen]; exact LSm.range_all bs
    rw [e]
    exact ⟨.bl _, H, I.kept (LSm.kept_iter hk), rfl, q⟩
end
end L2
namespace L2
open PySem PySem.Spec PyProof.Rows
def cloOf (env : Env) : List (Str × NameKind) → List (Str × Addr) → List (Str × Addr)
  | [], cs => cs
  | (n, k) :: r, cs => cloOf env r (if k == .free then match env.cells.lookup n with | some a => (n, a) :: cs | none => cs else cs)
theorem closureFor_free {scope : Scope} {env : Env} (h : ∀ y ∈ scope.names, y.2 = .free → ∃ c, env.cells.lookup y.1 = some c) : closureFor scope env = pure (cloOf env scope.names []) := by
  have key : ∀ (l : List (Str × NameKind)) (cs : List (Str × Addr)), (∀ y ∈ l, y.2 = .free → ∃ c, env.cells.lookup y.1 = some c) →
      (forIn l cs (fun (x : Str × NameKind) (r : List (Str × Addr)) => (if (x.2 == NameKind.free) = true then (do let a ← cellOf env x.1; pure (ForInStep.yield ((x.1, a) :: r))) else pure (ForInStep.yield r) : Sem (ForInStep (List (Str × Addr)))))) = (pure (cloOf env l cs) : Sem _) := by
    intro l
    induction l with
    | nil => intro cs _; rfl
    | cons y r ih =>
      intro cs hy
      obtain ⟨n, k⟩ := y
      have hr : ∀ z ∈ r, z.2 = .free → ∃ c, env.cells.lookup z.1 = some c := fun z hz => hy z (List.mem_cons_of_mem _ hz)
      rw [List.forIn_cons]
      by_cases hk : (k == NameKind.free) = true
      · obtain ⟨c, hc⟩ := hy (n, k) List.mem_cons_self (by simpa using hk)
        have e : cellOf env n = pure c := by unfold cellOf; rw [hc]
        simp only [hk, if_true, e, pure_bind, cloOf, hc]
        exact ih _ hr
      · have hk' : (k == NameKind.free) = false := by simpa using hk
        simp only [hk', Bool.false_eq_true, if_false, pure_bind, cloOf]
        exact ih _ hr
  have e : closureFor scope env = (forIn scope.names ([] : List (Str × Addr)) (fun (x : Str × NameKind) (r : List (Str × Addr)) => (if (x.2 == NameKind.free) = true then (do let a ← cellOf env x.1; pure (ForInStep.yield ((x.1, a) :: r))) else pure (ForInStep.yield r) : Sem (ForInStep (List (Str × Addr))))) >>= fun cs => pure cs) := by
    unfold closureFor
    rfl
  rw [e, key scope.names [] h]
  all_goals rfl
theorem cloOf_sub {env : Env} : ∀ (l : List (Str × NameKind)) (cs : List (Str × Addr)), (∀ p ∈ cs, env.cells.lookup p.1 = some p.2) → ∀ p ∈ cloOf env l cs, env.cells.lookup p.1 = some p.2
  | [], cs, h, p, hp => h p hp
  | (n, k) :: r, cs, h, p, hp => by
    unfold cloOf at hp
    refine cloOf_sub r _ ?_ p hp
    split
    · split
      · rename_i a ea
        intro q hq
        rcases List.mem_cons.mp hq with e | hq
        · rw [e]; exact ea
        · exact h q hq
      · exact h
    · exact h
theorem cloOf_keeps {env : Env} : ∀ (l : List (Str × NameKind)) (cs : List (Str × Addr)) {y : Str}, (∃ p ∈ cs, p.1 = y) → ∃ p ∈ cloOf env l cs, p.1 = y
  | [], cs, y, h => h
  | (n, k) :: r, cs, y, ⟨p, hp, e⟩ => by
    unfold cloOf
    refine cloOf_keeps r _ ?_
    split
    · split
      · exact ⟨p, List.mem_cons_of_mem _ hp, e⟩
      · exact ⟨p, hp, e⟩
    · exact ⟨p, hp, e⟩
theorem cloOf_has {env : Env} : ∀ (l : List (Str × NameKind)) (cs : List (Str × Addr)) {y : Str} {c : Addr}, (y, NameKind.free) ∈ l → env.cells.lookup y = some c → ∃ p ∈ cloOf env l cs, p.1 = y
  | (n, k) :: r, cs, y, c, hm, hc => by
    unfold cloOf
    rcases List.mem_cons.mp hm with e | hm
    · cases e
      refine cloOf_keeps r _ ?_
      rw [if_pos (by rfl), hc]
      exact ⟨_, List.mem_cons_self, rfl⟩
    · exact cloOf_has r _ hm hc
theorem lookup_of_mem {α : Type} : ∀ {l : List (Str × α)} {p : Str × α}, p ∈ l → ∃ c, l.lookup p.1 = some c
  | q :: l, p, h => by
    obtain ⟨n, a⟩ := q
    rw [List.lookup_cons]
    split
    · exact ⟨_, rfl⟩
    · rename_i hne
      rcases List.mem_cons.mp h with e | h
      · subst e; simp at hne
      · exact lookup_of_mem h
theorem cloOf_lookup {env : Env} {l : List (Str × NameKind)} {y : Str} {c : Addr} (hm : (y, NameKind.free) ∈ l) (hc : env.cells.lookup y = some c) : (cloOf env l []).lookup y = some c := by
  obtain ⟨p, hp, e⟩ := cloOf_has l [] hm hc
  obtain ⟨c', e'⟩ := lookup_of_mem hp
  rw [e] at e'
  have q := cloOf_sub l [] (fun _ z => nomatch z) _ (PySem.mem_of_lookup e')
  rw [hc] at q
  rw [e']
  exact q.symm
theorem cloOf_lookup_sub {env : Env} {l : List (Str × NameKind)} {y : Str} {c : Addr} (h : (cloOf env l []).lookup y = some c) : env.cells.lookup y = some c :=
  cloOf_sub l [] (fun _ z => nomatch z) _ (PySem.mem_of_lookup h)
theorem relabel_free {env : Env} : ∀ {names : List (Str × NameKind)} {x : Str} {k : NameKind}, (names.map fun (n, k) => if (k == NameKind.free && env.scope.kind == .function && env.kindOf n == some .cell) then (n, NameKind.cell) else (n, k)).lookup x = some k →
    ∃ k', names.lookup x = some k' ∧ (k' = k ∨ k' = .free)
  | [], _, _, h => by simp at h
  | (n, k0) :: r, x, k, h => by
    have ih := @relabel_free env r x k
    have h : List.lookup x ((if (k0 == NameKind.free && env.scope.kind == .function && env.kindOf n == some .cell) = true then (n, NameKind.cell) else (n, k0)) :: _) = some k := h
    cases hx : x == n with
    | true =>
      refine ⟨k0, by simp only [List.lookup_cons, hx], ?_⟩
      by_cases hc : (k0 == NameKind.free && env.scope.kind == .function && env.kindOf n == some .cell) = true
      · refine .inr ?_
        simp only [Bool.and_eq_true] at hc
        exact beq_iff_eq.mp hc.1.1
      · rw [if_neg hc] at h
        simp only [List.lookup_cons, hx] at h
        exact .inl (Option.some.inj h)
    | false =>
      have h2 : List.lookup x (r.map fun (n, k) => if (k == NameKind.free && env.scope.kind == .function && env.kindOf n == some .cell) then (n, NameKind.cell) else (n, k)) = some k := by
        by_cases hc : (k0 == NameKind.free && env.scope.kind == .function && env.kindOf n == some .cell) = true
        · rw [if_pos hc] at h; simp only [List.lookup_cons, hx] at h; exact h
        · rw [if_neg hc] at h; simp only [List.lookup_cons, hx] at h; exact h
      obtain ⟨k', e1, e2⟩ := ih h2
      exact ⟨k', by simp only [List.lookup_cons, hx]; exact e1, e2⟩
theorem relabel_of_free {env : Env} : ∀ {names : List (Str × NameKind)} {x : Str}, names.lookup x = some .free →
    (names.map fun (n, k) => if (k == NameKind.free && env.scope.kind == .function && env.kindOf n == some .cell) then (n, NameKind.cell) else (n, k)).lookup x = some .cell ∨
    (names.map fun (n, k) => if (k == NameKind.free && env.scope.kind == .function && env.kindOf n == some .cell) then (n, NameKind.cell) else (n, k)).lookup x = some .free
  | [], _, h => by simp at h
  | (n, k0) :: r, x, h => by
    have ih := @relabel_of_free env r x
    show List.lookup x ((if (k0 == NameKind.free && env.scope.kind == .function && env.kindOf n == some .cell) = true then (n, NameKind.cell) else (n, k0)) :: _) = some .cell ∨ List.lookup x ((if (k0 == NameKind.free && env.scope.kind == .function && env.kindOf n == some .cell) = true then (n, NameKind.cell) else (n, k0)) :: _) = some .free
    cases hx : x == n with
    | true =>
      simp only [List.lookup_cons, hx] at h
      by_cases hc : (k0 == NameKind.free && env.scope.kind == .function && env.kindOf n == some .cell) = true
      · rw [if_pos hc]; simp only [List.lookup_cons, hx]; simp
      · rw [if_neg hc]; simp only [List.lookup_cons, hx]; exact .inr (by rw [Option.some.inj h])
    | false =>
      simp only [List.lookup_cons, hx] at h
      by_cases hc : (k0 == NameKind.free && env.scope.kind == .function && env.kindOf n == some .cell) = true
      · rw [if_pos hc]; simp only [List.lookup_cons, hx]; exact ih h
      · rw [if_neg hc]; simp only [List.lookup_cons, hx]; exact ih h
def Its (z : Str) : It := ⟨fun i _ => i < z.length, fun i H x H' => H' = H ∧ ∃ c, z.cps.toList[i]? = some c ∧ x = .str ⟨#[c]⟩, fun i _ => z.length ≤ i⟩
structure StrIt (P : Program) (w : World) (it : Addr) (ty : String) (z : Str) (t : Tok) : Prop where
  nx : ∀ (A : Around) (i c : Nat) (s : Shared) (Q : Option Value → Shared → Prop) (E : Value → Shared → Prop), s.heap.IsStrIter it ty z t i → z.cps[i]? = some c → (∀ h', h'.IsStrIter it ty z t (i + 1) → Heap.SameBut it s.heap h' → Q (some (.str ⟨#[c]⟩ s.toks)) { s with heap := h', toks := s.toks + 1 }) → wpAny (model P w) A (pyNext (.ref it)) Q E s
  en : ∀ (A : Around) (i : Nat) (s : Shared) (Q : Option Value → Shared → Prop) (E : Value → Shared → Prop), QtH A s.heap → s.heap.IsStrIter it ty z t i → z.cps[i]? = none →
    (∀ h', Heap.ExtBut it s.heap h' → Q none { s with heap := h' }) → wpAny (model P w) A (pyNext (.ref it)) Q E s
  me : ∀ (A : Around) (i : Nat) (s : Shared) (Q : Value → Shared → Prop) (E : Value → Shared → Prop), s.heap.IsStrIter it ty z t i → Q (.ref it) s → wpAny (model P w) A (pyIter (.ref it)) Q E s
  ne : ["enumerate", "zip", "dict_itemiterator", "dict_reverseitemiterator", "odict_iterator", "itertools.zip_longest", "itertools.pairwise"].contains ty = false
theorem StrIt.ascii {P : Program} {w : World} (it : Addr) (z : Str) (t : Tok) : StrIt P w it "str_ascii_iterator" z t :=
  ⟨fun _ _ _ _ _ _ st hx hQ => wpAny_pyNext_ascii_item st hx hQ, fun _ _ _ _ _ hA st hx hQ => ascii_endQ hA st hx hQ, fun _ _ _ _ _ st h => wpAny_pyIter_striter_ascii st h, by decide⟩
theorem StrIt.wide {P : Program} {w : World} (it : Addr) (z : Str) (t : Tok) : StrIt P w it "str_iterator" z t :=
  ⟨fun _ _ _ _ _ _ st hx hQ => wpAny_pyNext_wide_item st hx hQ, fun _ _ _ _ _ hA st hx hQ => wide_endQ hA st hx hQ, fun _ _ _ _ _ st h => wpAny_pyIter_striter_wide st h, by decide⟩
theorem turn_str {P : Program} {w : World} {K : PySem.W.Frag} {tg : Expr} {z : Str} {t : Tok} {it : Addr} {ty : String} (S : StrIt P w it ty z t) :
    Turn P w K tg (Its z) [it] it (fun i h => h.IsStrIter it ty z t i) where
  mem := by simp
  obj := fun i h st b hb => by
    have e : b = it := by simpa using hb
    subst e
    obtain ⟨o, e, c, d⟩ := st
    exact ⟨o, e, fun v q => by rw [d] at q; cases q⟩
  keep := fun i h h' st k => by
    obtain ⟨o, e, r⟩ := st
    exact ⟨o, k it (by simp) o e, r⟩
  item := by
    intro X hP hw hK hc i pins s σ H E I hf st hg
    subst hP hw hK
    obtain ⟨f0, f1, f2, f3, f4, f5⟩ := hf it (by simp)
    have hlt : i < z.cps.size := hg
    refine S.nx X.A i z.cps[i] s _ _ st (by simp [hlt]) fun h' st' sb => ?_
    have I1 : Inv X pins σ H { s with heap := h', toks := s.toks + 1 } := I.turned (fun b o hb e => sb.extBut b o hb e) f0 f1 f3 f4 f5
    obtain ⟨o, e, c1, d1⟩ := id st'
    exact ⟨_, rfl, go_of (s := { s with heap := h', toks := s.toks + 1 }) e c1 d1 S.ne ⟨.str ⟨#[z.cps[i]]⟩, H, I1, ⟨_, rfl⟩, ⟨rfl, _, by rw [Array.getElem?_toList]; simp [hlt], rfl⟩, st', fun b hb => (hf b hb).1⟩⟩
  done := by
    intro X hP hw hK hc i pins s σ H E I hf st hg
    subst hP hw hK
    obtain ⟨f0, f1, f2, f3, f4, f5⟩ := hf it (by simp)
    refine S.en X.A i s _ _ (I.qt hc) st ?_ fun h' eb => ⟨rfl, I.turned (t' := s.toks) (fun b o hb e => eb b o hb e) f0 f1 f3 f4 f5⟩
    exact Array.getElem?_eq_none hg
  self := fun A i s Q E st h => S.me A i s Q E st h
def iStr (tl : TE) : TI := fun σ H R => tl σ H fun x H1 => ∃ z, x = .str z ∧ R (Its z) H1
theorem pi_str {X : Cx} {tg l : Expr} {tl : TE} (hl : PE X l tl) : PI X tg l (iStr tl) := by
  intro pins s σ H R I h
  refine thn (hl pins s σ H _ I h) fun v s1 ⟨x, H1, I1, r1, q1⟩ => ?_
  obtain ⟨z, rfl, q⟩ := q1
  obtain ⟨t, rfl⟩ := r1
  have fin : ∀ (o : Obj) (ty : String), StrIt X.prog X.w s1.heap.objs.size ty z t → (s1.heap.push o).IsStrIter s1.heap.objs.size ty z t 0 → PIE X pins σ tg R (.ref s1.heap.objs.size) { s1 with heap := s1.heap.push o } := fun o ty S st => by
    refine ⟨s1.heap.objs.size, [s1.heap.objs.size], _, Its z, H1, rfl, I1.kept (t' := s1.toks) fun b o e => Heap.get?_push_of_some _ e, turn_str S, st, fun b hb => ?_, q⟩
    have e : b = s1.heap.objs.size := by simpa using hb
    subst e
    exact I1.fpOk (Nat.le_refl _) (I1.hok.fresh (Nat.le_refl _))
  cases ha : z.cps.all (· < 128)
  · exact wpAny_pyIter_wide ha (fin _ _ (.wide _ z t) ⟨_, Heap.get?_push_size _ rfl, rfl, rfl⟩)
  · exact wpAny_pyIter_ascii ha (fin _ _ (.ascii _ z t) ⟨_, Heap.get?_push_size _ rfl, rfl, rfl⟩)
def Cx.blk (X : Cx) (N' : List Str) (scope : Scope) (C : Addr) (fp : List Addr) (s : Shared) (H : Hp) : Cx :=
  { X with N := N', s₀ := s, H₀ := H, env := compEnvC scope (cloOf X.env scope.names []) C X.env, outer := X.stack, ex := fp, fn := fun _ => false, pn := [], xe := fun _ _ => False }
structure BlkScope (N : List Str) (sc scope : Scope) (x : Str) (N' : List Str) (fv : List Nat) : Prop where
  nocell : ∀ y ∈ scope.names, y.2 ≠ .cell
  kind : scope.kind = .function
  names : ∀ y ∈ scope.names, y.2 = .local → scope.names.lookup y.1 = some .local
  loc : scope.names.lookup x = some .local
  free : ∀ y ∈ scope.names, y.2 = .free → sc.names.lookup y.1 = some .cell ∨ sc.names.lookup y.1 = some .free
  nd : N'.Nodup
  hd : N'[0]? = some x
  len : N'.length = fv.length + 1
  at_ : ∀ j, j < fv.length → (N'[j + 1]?).isSome = true ∧ N'[j + 1]? = (fv[j]?).bind (fun i => N[i]?) ∧ (N'[j + 1]?).bind (fun y => scope.names.lookup y) = some .free
def blkVals (fv : List Nat) (σ : St) : St := fv.map fun k => (σ[k]?).join
abbrev testsOf (ifs : List Expr) (env : Env) : Sem Bool := forIn ifs true fun c r => if r = true then do let ok ← isTrue c env (eval c env); pure (ForInStep.yield ok) else pure (ForInStep.yield r)
def PTs (X : Cx) (ifs : List Expr) (t : TT) : Prop :=
  ∀ (pins : List (Addr × Obj)) (s : Shared) (σ : St) (H : Hp) (Q : Bool → Hp → Prop), Inv X pins σ H s → t σ H Q → wpAny (model X.prog X.w) X.A (testsOf ifs X.env) (TP X pins σ Q) X.xe s
def tAll : TT := fun _ H Q => Q true H
theorem pts_nil {X : Cx} : PTs X [] tAll := fun pins s σ H Q I h => wpAny_pure ⟨H, I, h⟩
def tLC (wi : TI) (fv : List Nat) (tt : TT) (te : TE) : TE := fun σ H Q => wi σ H fun J H1 => ∃ (W : Nat → List V → Hp → Prop) (n : Nat), W 0 [] H1 ∧ n ≤ sizeLine ∧ ∀ i ys H, W i ys H →
  (J.stop i H ∧ ∀ p, H p = none → Q (.ref p) (upd H p (.lst ys))) ∨
  (J.go i H ∧ i < n ∧ ∀ x H', J.yld i H x H' → tt (some x :: blkVals fv σ) H' fun c H2 => if c = true then te (some x :: blkVals fv σ) H2 fun y H3 => W (i + 1) (ys ++ [y]) H3 else W (i + 1) ys H2)
section
variable {X : Cx} {N' : List Str} {scope : Scope} {x : Str} {fv : List Nat}
theorem blk_inv {pins : List (Addr × Obj)} {σ : St} {H : Hp} {s : Shared} {fp : List Addr} {C : Addr} {h1 : Heap} {m : Str → Option Value} {tk : Nat} {pl : List (Addr × Obj)} (S : BlkScope X.N X.env.scope scope x N' fv) (I : Inv X pins σ H s)
    (hf : ∀ b ∈ fp, FpOk X pins H b) (hfo : ∀ b ∈ fp, b < s.heap.objs.size) (hC : s.heap.objs.size ≤ C) (kp : ∀ b o, s.heap.get? b = some o → h1.get? b = some o) (hn : h1.Ns C m)
    (hpl : ∀ p ∈ pl, h1.get? p.1 = some p.2 ∧ s.heap.objs.size ≤ p.1 ∧ p.1 ≠ C ∧ ∀ v, p.2.data ≠ .cell v) :
    Inv (X.blk N' scope C fp s H) pl (none :: blkVals fv σ) H { s with heap := h1, toks := tk } := by
  have clo : ∀ y c, (cloOf X.env scope.names []).lookup y = some c → X.env.cells.lookup y = some c := fun y c e => cloOf_lookup_sub e
  have cell : ∀ y c, (cloOf X.env scope.names []).lookup y = some c → ∃ v, s.heap.IsCell c v := fun y c e => I.cell y c (clo y c e)
  have lt : ∀ y c, (cloOf X.env scope.names []).lookup y = some c → c < s.heap.objs.size := fun y c e => by obtain ⟨v, q⟩ := cell y c e; exact q.lt
  have kc : ∀ c v, s.heap.IsCell c v → h1.IsCell c v := fun c v q => by obtain ⟨o, e, d⟩ := q; exact ⟨o, kp _ _ e, d⟩
  refine ⟨⟨I.ok.mod, S.kind, I.ok.glob, I.ok.blt, hC, fun y z c e1 e2 => I.ok.inj y z c (clo y c e1) (clo z c e2), fun y hy => ?_, fun y c e => ?_, I.ok.hd, I.ok.frames, .inl rfl, fun b hb => ⟨?_, fun y c e z => (hf b hb).2.2.2.2.1 y c (clo y c e) z⟩, fun b o e => I.bs b o e, Nat.le_trans I.ok.bsz I.sz, fun b o e hb => ?_, fun b hb hb2 => ?_, I.stack, I.stkFree⟩,
    rfl, I.bare, Un.kept kp, ⟨m, hn, fun i y v h1' h2 h3 => ?_⟩, fun y c e => ?_, I.hok.fresh hC, fun y c e => I.freeC y c (clo y c e), fun p hp => ?_, I.hok.kept kp, ?_⟩
  · have hy' : ∃ k, scope.names.lookup y = some k ∧ k = .free := by
      rcases hy with hy | hy
      · obtain ⟨k', e1, e2⟩ := relabel_free (env := X.env) (names := scope.names) (x := y) (k := .cell) hy
        rcases e2 with e2 | e2
        · exact absurd e2 (S.nocell _ (PySem.mem_of_lookup e1))
        · exact ⟨k', e1, e2⟩
      · obtain ⟨k', e1, e2⟩ := relabel_free (env := X.env) (names := scope.names) (x := y) (k := .free) hy
        rcases e2 with e2 | e2
        · exact ⟨k', e1, e2⟩
        · exact ⟨k', e1, e2⟩
    obtain ⟨k, e, rfl⟩ := hy'
    have hm := PySem.mem_of_lookup e
    obtain ⟨c, hc⟩ := I.ok.has y (S.free _ hm rfl)
    exact ⟨c, cloOf_lookup hm hc⟩
  · exact (Bool.false_ne_true (show false = true from e)).elim
  · exact Nat.ne_of_lt (Nat.lt_of_lt_of_le (hfo b hb) hC)
  · have e' := e
    rcases (hf b hb).2.2.2.1 with z | z
    · exact I.ok.noex b o e z
    · exact absurd (Nat.lt_of_lt_of_le (Heap.lt_size e) (Nat.le_trans I.ok.bsz z)) (Nat.lt_irrefl _)
  · have q := I.stkSub b hb2
    rcases List.mem_cons.mp q with z | z
    · exact (hf b hb).2.1 z
    · exact (hf b hb).2.2.1 z
  · cases i with
    | zero =>
      have z : (none : Option V) = some v := Option.some.inj h2
      cases z
    | succ j =>
      have h2' : (blkVals fv σ)[j]? = some (some v) := h2
      unfold blkVals at h2'
      rw [List.getElem?_map] at h2'
      cases ej : fv[j]? with
      | none => rw [ej] at h2'; cases h2'
      | some k =>
        rw [ej] at h2'
        have h4 : (σ[k]?).join = some v := Option.some.inj h2'
        have h5 : σ[k]? = some (some v) := by
          cases es : σ[k]? with
          | none => rw [es] at h4; cases h4
          | some w' => rw [es] at h4; rw [show w' = some v from h4]
        have hj : j < fv.length := (List.getElem?_eq_some_iff.mp ej).1
        obtain ⟨_, a1, a2⟩ := S.at_ j hj
        have h1'' : N'[j + 1]? = some y := h1'
        rw [h1''] at a1 a2
        rw [ej] at a1
        have a3 : X.N[k]? = some y := a1.symm
        have a4 : scope.names.lookup y = some .free := a2
        have hm := PySem.mem_of_lookup a4
        have kd : X.env.kindOf y = some .cell ∨ X.env.kindOf y = some .free := S.free _ hm rfl
        obtain ⟨mX, _, hlX⟩ := I.loc
        obtain ⟨u, ru, lk⟩ := hlX k y v a3 h5 (kd.elim (fun z => .inr (.inl z)) fun z => .inr (.inr z))
        refine ⟨u, ru, .inr ?_⟩
        rcases lk with ⟨z, _⟩ | ⟨_, c, hc, hcell⟩
        · rcases kd with z' | z' <;> rw [z'] at z <;> cases z
        · exact ⟨relabel_of_free (env := X.env) a4, c, cloOf_lookup hm hc, kc _ _ hcell⟩
  · obtain ⟨v, q⟩ := cell y c e
    exact ⟨v, kc _ _ q⟩
  · have hp' : p ∈ pl := hp
    obtain ⟨e, l1, l2, d⟩ := hpl p hp'
    exact ⟨e, I.hok.fresh l1, l2, fun z => absurd (I.stkSub _ z) (fun q => by
      rcases List.mem_cons.mp q with q | q
      · exact absurd I.lt (by rw [← q]; exact Nat.not_lt.mpr l1)
      · exact I.nofs l1 q), d⟩
  · show (none :: blkVals fv σ).length = N'.length
    rw [S.len]
    unfold blkVals
    simp
end
end L2
namespace L2
open PySem PySem.Spec PyProof.Rows
theorem nox {α : Type} {t : Sem α} {Q Q' : α → Shared → Prop} {M : Model} {A : Around} {E : Value → Shared → Prop} {s : Shared} (h : wpAny M A t Q (fun _ _ => False) s) (hQ : ∀ a s, Q a s → Q' a s) : wpAny M A t Q' E s := wpAny_mono h hQ fun _ _ f => f.elim
set_option maxHeartbeats 1600000 in
theorem pe_lc {X : Cx} {elt iter : Expr} {x : Str} {px : Pos} {ifs : List Expr} {scope : Scope} {pos : Pos} {N' : List Str} {fv : List Nat} {wi : TI} {tt : TT} {te : TE}
    (S : BlkScope X.N X.env.scope scope x N' fv) (hc : X.calm = true) (hi : PI X (.Name x px) iter wi)
    (ht : ∀ C fp s H, PTs (X.blk N' scope C fp s H) ifs tt) (he : ∀ C fp s H, PE (X.blk N' scope C fp s H) elt te)
    (hs : ∀ x, foldedSetIterable iter X.env x = pure x := by intro _; rfl) :
    PE X (.ListComp elt [⟨.Name x px, iter, ifs, 0⟩] scope pos) (tLC wi fv tt te) := by
  intro pins s σ H Q I h
  rw [eval_ListComp]
  refine wpAny_comprehension_free (use := none) rfl hs (closureFor_free fun y hy hk => I.ok.has y.1 (S.free y hy hk)) S.kind S.names
    (wpAny_mono (hi pins s σ H _ I h) (fun xv s1 h1 => wpAny_mono h1 (fun itv s2 h2 => ?_) fun _ _ e => e) fun _ _ e => e)
  obtain ⟨it, fp, tn, J, H2, rfl, I2, T, st2, f2, W, n, w0, hn, turn⟩ := h2
  refine wpAny_newObj_type (wpAny_newFunctionEnv S.nocell (by intro y hy; simp at hy) (fun h1 hns hsb => ?_) S.kind)
  dsimp only at hns hsb ⊢
  generalize hH : s2.heap.push { cls := .type "list", dict := none, data := .seq ([] : List Value).toArray } = G at hns hsb ⊢
  have hG : G.objs.size = s2.heap.objs.size + 1 := by rw [← hH, Heap.size_push]
  have kpG : ∀ b o, s2.heap.get? b = some o → G.get? b = some o := fun b o e => hH ▸ Heap.get?_push_of_some _ e
  have kp1 : ∀ b o, b < G.objs.size → G.get? b = some o → h1.get? b = some o := fun b o lt e => hsb.extBut b o (Nat.ne_of_lt lt) (Heap.get?_push_of_some _ e)
  have kp : ∀ b o, s2.heap.get? b = some o → h1.get? b = some o := fun b o e => kp1 b o (by rw [hG]; exact Nat.lt_succ_of_lt (Heap.lt_size e)) (kpG b o e)
  have hD : h1.PlainList s2.heap.objs.size #[] := ⟨_, kp1 _ _ (by rw [hG]; exact Nat.lt_succ_self _) (hH ▸ Heap.get?_push_size _ rfl)⟩
  have hDC : s2.heap.objs.size ≠ G.objs.size := by rw [hG]; exact Nat.ne_of_lt (Nat.lt_succ_self _)
  have hC : s2.heap.objs.size ≤ G.objs.size := by rw [hG]; exact Nat.le_succ _
  have hfo : ∀ b ∈ fp, b < s2.heap.objs.size := fun b hb => by obtain ⟨o, e, _⟩ := T.obj 0 _ st2 b hb; exact Heap.lt_size e
  have stat : ∀ {H' : Hp} {pl : List (Addr × Obj)}, (∀ b ∈ fp, H' b = none) → (∀ p ∈ pl, p.1 ∉ fp) → ∀ b ∈ fp, FpOk (X.blk N' scope G.objs.size fp s2 H2) pl H' b := fun {H' pl} hn hpl b hb => by
    obtain ⟨_, g1, g2, g3, g4, g5⟩ := f2 b hb
    refine ⟨hn b hb, Nat.ne_of_lt (Nat.lt_of_lt_of_le (hfo b hb) hC), fun z => ?_, .inl hb, fun y c e => g4 y c (cloOf_lookup_sub e), fun p hp e => ?_⟩
    · rcases List.mem_cons.mp (I2.stkSub b z) with q | q
      · exact g1 q
      · exact g2 q
    · exact hpl p hp (e ▸ hb)
  have hDf : s2.heap.objs.size ∉ fp := fun z => absurd (hfo _ z) (Nat.lt_irrefl _)
  have hlc : (X.blk N' scope G.objs.size fp s2 H2).env.scope.names.lookup x = some .local := lookup_relabel_local S.loc
  have hcl : ∀ y c, (X.blk N' scope G.objs.size fp s2 H2).env.cells.lookup y = some c → c ≠ s2.heap.objs.size := fun y c e z => by
    obtain ⟨v, q⟩ := I2.cell y c (cloOf_lookup_sub e)
    exact absurd q.lt (by rw [z]; exact Nat.lt_irrefl _)
  have pin1 : ∀ {s' : Shared} {H' : Hp} {ob : Obj} {i : Nat} {ys : List V}, Inv (X.blk N' scope G.objs.size fp s2 H2) [] (none :: blkVals fv σ) H' s' → s'.heap.get? s2.heap.objs.size = some ob → (∀ v, ob.data ≠ .cell v) → H' s2.heap.objs.size = none →
      Inv (X.blk N' scope G.objs.size fp s2 H2) [(s2.heap.objs.size, ob)] (none :: blkVals fv σ) H' s' := fun {s' H' ob i ys} J1 e d f => J1.pins_of fun p hp => by
    have z : p = (s2.heap.objs.size, ob) := by simpa using hp
    subst z
    refine ⟨e, f, hDC, fun z => ?_, d⟩
    rcases List.mem_cons.mp (I2.stkSub _ z) with q | q
    · exact absurd I2.lt (by rw [← q]; exact Nat.lt_irrefl _)
    · exact I2.nofs (Nat.le_refl _) q
  have loop : ∀ s3 : Shared, s3 = { s2 with heap := h1, toks := s2.toks + ([] : List (Str × Value)).length } →
      codeAny (model X.prog X.w) X.A (.compLoop (.ListComp elt [⟨.Name x px, iter, ifs, 0⟩] scope pos) 0 (.ref it) (.ref s2.heap.objs.size) (X.blk N' scope G.objs.size fp s2 H2).env)
        (compPost (model X.prog X.w) X.A X.xe none (EP X pins σ Q) (.ref s2.heap.objs.size) G.objs.size) s3 := by
    rintro s3 rfl
    refine codeAny_compLoop_tests (fun k s' => ∃ i ys H' its, k = n + 1 - i ∧ i ≤ n ∧ ys.length ≤ i ∧ Vals ys its ∧ s'.heap.PlainList s2.heap.objs.size its.toArray ∧
      Inv (X.blk N' scope G.objs.size fp s2 H2) [] (none :: blkVals fv σ) H' s' ∧ H' s2.heap.objs.size = none ∧ tn i s'.heap ∧ (∀ b ∈ fp, H' b = none) ∧ W i ys H') ?_ (n + 1)
      ⟨0, [], H2, [], rfl, Nat.zero_le _, Nat.le_refl _, .nil, hD, blk_inv S I2 f2 hfo hC kp hns (fun p hp => nomatch hp), I2.hok.fresh (Nat.le_refl _), T.keep _ _ _ st2 fun b _ o e => kp b o e, fun b hb => (f2 b hb).1, w0⟩
    rintro k s4 ⟨i, ys, H4, its, rfl, hin, hyi, rv, pl4, I4, fD4, st4, ff4, w4⟩
    obtain ⟨cnt, eD⟩ := id pl4
    have I4p := pin1 (i := i) (ys := ys) I4 eD (fun v z => by cases z) fD4
    have np : ∀ p ∈ [(s2.heap.objs.size, ({ cls := .type "list", data := .seq its.toArray cnt } : Obj))], p.1 ∉ fp := fun p hp => by
      have z : p = (s2.heap.objs.size, ({ cls := .type "list", data := .seq its.toArray cnt } : Obj)) := by simpa using hp
      subst z; exact hDf
    rcases turn i ys H4 w4 with ⟨stop, fin⟩ | ⟨go, hi2, step⟩
    · refine wpAny_mono (T.done (X.blk N' scope G.objs.size fp s2 H2) rfl rfl rfl hc i _ s4 _ H4 _ I4p (stat ff4 np) st4 stop) (fun r s5 ⟨hr, I5⟩ => ?_) fun _ _ e => e
      subst hr
      obtain ⟨m5, hm5, _⟩ := I5.loc
      have eD5 : s5.heap.get? s2.heap.objs.size = some { cls := .type "list", data := .seq its.toArray cnt } := (I5.pin _ (List.mem_append_right _ List.mem_cons_self)).1
      refine ⟨m5, hm5, fun h' sb => ⟨.ref s2.heap.objs.size, upd H4 s2.heap.objs.size (.lst ys), ?_, rfl, fin _ fD4⟩⟩
      have ltC : ∀ {b : Addr} {o : Obj}, s2.heap.get? b = some o → b ≠ G.objs.size := fun {b o} e => Nat.ne_of_lt (Nat.lt_of_lt_of_le (Heap.lt_size e) hC)
      have fD2 : H2 s2.heap.objs.size = none := I2.hok.fresh (Nat.le_refl _)
      have ltD : ∀ {b : Addr} {o : Obj}, s2.heap.get? b = some o → b ≠ s2.heap.objs.size := fun {b o} e => Nat.ne_of_lt (Heap.lt_size e)
      have B := I5.base
      refine I2.call' (s' := { s5 with heap := h' }) (ch := fp) I5.os ⟨fun b o e nb hb hx => ?_, fun b o e nb hb hx => ?_, fun b o e nb hx => ?_, fun b o e hx => ?_, fun b xs e => ?_, fun b o u e => ?_, fun b ps e => ?_⟩ ?_ I5.bare fun b hb => ?_
      · exact sb.extBut b o (ltC e) (B.keep b o e nb hb hx)
      · obtain ⟨sl, q⟩ := B.slot b o e nb hb hx
        exact ⟨sl, sb.extBut b _ (ltC e) q⟩
      · rw [upd_ne (ltD e)]; exact B.free b o e nb hx
      · obtain ⟨o', q⟩ := B.there b o e hx
        exact ⟨o', sb.extBut b o' (ltC e) q⟩
      · have e' : H2 b = some (.tup xs) := e
        rw [upd_ne (ne_of_none e' fD2)]; exact B.tups b xs e
      · have e' : H2 b = some (.frz o u) := e
        rw [upd_ne (ne_of_none e' fD2)]; exact B.frzs b o u e
      · have e' : H2 b = some (.tbl ps) := e
        rw [upd_ne (ne_of_none e' fD2)]; exact B.tbls b ps e
      · intro b u e
        by_cases hb : b = s2.heap.objs.size
        · subst hb
          rw [upd_same] at e
          cases e
          exact ⟨Nat.le_trans hyi (Nat.le_trans hin hn), its, cnt, rv, sb.extBut _ _ hDC eD5⟩
        · rw [upd_ne hb] at e
          have fC : H4 G.objs.size = none := I5.free
          refine (I5.hok b u e).stay (fun c v hc' q => sb.extBut c v ?_ q) (fun c q => by rw [upd_ne (ne_of_none q fD4)]; exact q) fun c xs q => by rw [upd_ne (ne_of_none q fD4)]; exact q
          rcases hc' with z | z
          · subst z; exact ne_of_none e fC
          · exact ne_of_none z fC
      · obtain ⟨_, g1, g2, g3, g4, g5⟩ := f2 b hb
        exact ⟨g3, g1, g4, g5⟩
    · refine wpAny_mono (T.item (X.blk N' scope G.objs.size fp s2 H2) rfl rfl rfl hc i _ s4 _ H4 _ I4p (stat ff4 np) st4 go) (fun r s5 ⟨u, hr, h5⟩ => ?_) fun _ _ e => e
      subst hr
      show wpAny _ _ (letOwnedTupleGo (.Name x px) (.ref it) u >>= fun _ => assign (.Name x px) (X.blk N' scope G.objs.size fp s2 H2).env u) _ _ s5
      refine wpAny_bind (wpAny_mono h5 (fun _ s6 ⟨xv, H6, I6, r6, y6, st6, ff6⟩ => ?_) fun _ _ e => e)
      have I6' := I6.pinned (stat ff6 np) (T.obj _ _ st6)
      have out : ∀ {σ' : St} {H' : Hp} {s' : Shared}, Inv (X.blk N' scope G.objs.size fp s2 H2) ([(s2.heap.objs.size, ({ cls := .type "list", data := .seq its.toArray cnt } : Obj))] ++ pinsAt fp s6.heap) σ' H' s' →
          s'.heap.PlainList s2.heap.objs.size its.toArray ∧ H' s2.heap.objs.size = none ∧ (∀ b ∈ fp, H' b = none) ∧ (∀ b ∈ fp, ∀ o, s6.heap.get? b = some o → s'.heap.get? b = some o) := fun {σ' H' s'} J1 => by
        have q := J1.pin (s2.heap.objs.size, ({ cls := .type "list", data := .seq its.toArray cnt } : Obj)) (List.mem_append_right _ (List.mem_append_left _ List.mem_cons_self))
        refine ⟨⟨cnt, q.1⟩, q.2.1, fun b hb => ?_, fun b hb o e => (J1.pin (b, o) (List.mem_append_right _ (List.mem_append_right _ (mem_pinsAt hb e)))).1⟩
        obtain ⟨o, e, d⟩ := T.obj _ _ st6 b hb
        exact (J1.pin (b, o) (List.mem_append_right _ (List.mem_append_right _ (mem_pinsAt hb e)))).2.1
      refine nox ((pg_name (X := X.blk N' scope G.objs.size fp s2 H2) (i := 0) S.nd S.hd (.inl hlc) (.inr hlc)) _ s6 _ H6 xv u (fun σ' H' => σ' = some xv :: blkVals fv σ ∧ H' = H6) I6' r6 ⟨rfl, rfl⟩) fun _ s7 ⟨σ7, H7, I7, e7, e7'⟩ => ?_
      subst e7 e7'
      refine nox (ht _ _ _ _ _ s7 _ H7 _ I7 (step xv H7 y6)) fun ok s8 ⟨H8, I8, q8⟩ => ?_
      cases ok with
      | false =>
        obtain ⟨o1, o2, o3, o4⟩ := out I8
        exact ⟨n + 1 - (i + 1), by omega, i + 1, ys, H8, its, rfl, hi2, Nat.le_succ_of_le hyi, rv, o1, (I8.pins_of (pins' := []) fun p hp => nomatch hp).weak (σ' := none :: blkVals fv σ) rfl (fun j v e => by
          cases j with
          | zero => cases (show (none : Option V) = some v from Option.some.inj e)
          | succ j => exact e), o2, T.keep _ _ _ st6 o4, o3, q8⟩
      | true =>
        refine nox (he _ _ _ _ _ s8 _ H8 _ I8 q8) fun yv s9 ⟨y, H9, I9, r9, q9⟩ => ?_
        obtain ⟨o1, o2, o3, o4⟩ := out I9
        have hlen := rv.length
        refine wpAny_list_append_plain (hsz := by rw [List.size_toArray, ← hlen]; exact Nat.le_trans hyi (Nat.le_trans hin hn)) o1 fun h' pl' sb' => ?_
        have I9' : Inv (X.blk N' scope G.objs.size fp s2 H2) [] (some xv :: blkVals fv σ) H9 { s9 with heap := h' } :=
          (I9.pins_of (pins' := []) fun p hp => nomatch hp).turned (t' := s9.toks) (it := s2.heap.objs.size) (fun b o hb e => sb'.extBut b o hb e) o2 hDC (.inr (Nat.le_refl _)) hcl (fun p hp => nomatch hp)
        refine ⟨n + 1 - (i + 1), by omega, i + 1, ys ++ [y], H9, its ++ [yv], rfl, hi2, by rw [List.length_append]; exact Nat.succ_le_succ hyi, rv.append (.cons r9 .nil), ?_, I9'.weak (σ' := none :: blkVals fv σ) rfl (fun j v e => by
          cases j with
          | zero => cases (show (none : Option V) = some v from Option.some.inj e)
          | succ j => exact e), o2, T.keep _ _ _ st6 fun b hb o e => sb'.extBut b o (fun z => hDf (z ▸ hb)) (o4 b hb o e), o3, q9⟩
        have e9 : (its ++ [yv]).toArray = its.toArray.push yv := by simp
        rw [e9]
        exact pl'
  exact codeAny_compStart_list (loop _ rfl) (T.self _ 0 _ _ _ (T.keep _ _ _ st2 fun b _ o e => kp b o e) (loop _ rfl))
end L2
namespace L2
open PySem PySem.Spec PyProof.Rows
theorem strsAre_of {ys : List Str} : ∀ {us : List Value}, Vals (ys.map V.str) us → StrsAre us ys := by
  induction ys with
  | nil => intro us r; rw [List.map_nil] at r; cases r; exact .nil
  | cons y ys ih =>
    intro us r
    rw [List.map_cons] at r
    cases r with
    | cons r1 r2 =>
      obtain ⟨t, e⟩ := r1
      subst e
      exact .cons y t (ih r2)
theorem mt_join {X : Cx} : MtR X "str.join" (fun x vs H Q => ∃ (sep : Str) (p : Addr) (ys : List Str), x = .str sep ∧ vs = [.ref p] ∧ SqL X.K H p (ys.map V.str) ∧ (ys.map (·.length)).sum + ys.length * sep.length ≤ 16777216 ∧ Q (.str (Str.join sep ys)) H) := by
  intro pins s σ H x xs v us Q I rx r h
  obtain ⟨sep, p, ys, rfl, rfl, hq, hok, q⟩ := h
  obtain ⟨t, rfl⟩ := rx
  obtain ⟨u, rfl, rp⟩ := vals1 r
  cases (show u = Value.ref p from rp)
  obtain ⟨its, rv, pl, hz⟩ := I.list hq
  refine join_list pl.isList (by simpa using strsAre_of rv) hok fun t' k => ⟨.str _, H, I.tok _, ⟨_, rfl⟩, ?_⟩
  rw [eq_of_beq (join_closes (sep := sep) (sep' := sep) (ys := ys) rfl)]
  exact q
end L2
namespace L2
open PySem PySem.Spec PyProof.Rows
set_option maxHeartbeats 1600000 in
theorem lc_core {X : Cx} {elt iter : Expr} {x : Str} {px : Pos} {ifs : List Expr} {scope : Scope} {pos : Pos} {N' : List Str} {fv : List Nat} {tt : TT} {te : TE} {pins : List (Addr × Obj)} {σ : St} {s2 : Shared} {H2 : Hp} {it : Addr} {fp : List Addr} {tn : Nat → Heap → Prop} {J : It}
    {RR : Value → Addr → Result → Shared → Prop} {Fin : List V → Hp → Prop} {E : Value → Shared → Prop} {W : Nat → List V → Hp → Prop} {n : Nat}
    (S : BlkScope X.N X.env.scope scope x N' fv) (hc : X.calm = true)
    (ht : ∀ C fp s H, PTs (X.blk N' scope C fp s H) ifs tt) (he : ∀ C fp s H, PE (X.blk N' scope C fp s H) elt te)
    (I2 : Inv X pins σ H2 s2) (T : Turn X.prog X.w X.K (.Name x px) J fp it tn) (st2 : tn 0 s2.heap) (f2 : ∀ b ∈ fp, FpOk X pins H2 b) (w0 : W 0 [] H2) (hn : n ≤ sizeLine)
    (turn : ∀ i ys H, W i ys H → (J.stop i H ∧ Fin ys H) ∨ (J.go i H ∧ i < n ∧ ∀ x H', J.yld i H x H' → tt (some x :: blkVals fv σ) H' fun c H2 => if c = true then te (some x :: blkVals fv σ) H2 fun y H3 => W (i + 1) (ys ++ [y]) H3 else W (i + 1) ys H2))
    (fin : ∀ (D C : Addr) (ys : List V) (H4 : Hp) (s5 : Shared) (m5 : Str → Option Value), Inv X pins σ (upd H4 D (.lst ys)) s5 → s5.heap.Ns C m5 → C ≠ D → H4 D = none → H4 C = none → C ≠ X.env.locals → X.s₀.heap.objs.size ≤ C → (∀ y c, X.env.cells.lookup y = some c → c ≠ C) → (∀ p ∈ X.pn ++ pins, p.1 ≠ C) → Fin ys H4 → RR (.ref D) C (.ok .next) s5) :
    wpAny (model X.prog X.w) X.A (newList []) (fun acc s₃ => wpAny (model X.prog X.w) X.A (newFunctionEnv scope X.env.globals (cloOf X.env scope.names []) [] X.env.qual none .none (some X.env)) (fun cenv s₄ =>
      codeAny (model X.prog X.w) X.A (.compStart (.ListComp elt [⟨.Name x px, iter, ifs, 0⟩] scope pos) 0 (.ref it) acc { cenv with scope := relabel scope X.env }) (RR acc cenv.locals) s₄) E s₃) E s2 := by
  refine wpAny_newObj_type (wpAny_newFunctionEnv S.nocell (by intro y hy; simp at hy) (fun h1 hns hsb => ?_) S.kind)
  dsimp only at hns hsb ⊢
  generalize hH : s2.heap.push { cls := .type "list", dict := none, data := .seq ([] : List Value).toArray } = G at hns hsb ⊢
  have hG : G.objs.size = s2.heap.objs.size + 1 := by rw [← hH, Heap.size_push]
  have kpG : ∀ b o, s2.heap.get? b = some o → G.get? b = some o := fun b o e => hH ▸ Heap.get?_push_of_some _ e
  have kp1 : ∀ b o, b < G.objs.size → G.get? b = some o → h1.get? b = some o := fun b o lt e => hsb.extBut b o (Nat.ne_of_lt lt) (Heap.get?_push_of_some _ e)
  have kp : ∀ b o, s2.heap.get? b = some o → h1.get? b = some o := fun b o e => kp1 b o (by rw [hG]; exact Nat.lt_succ_of_lt (Heap.lt_size e)) (kpG b o e)
  have hD : h1.PlainList s2.heap.objs.size #[] := ⟨_, kp1 _ _ (by rw [hG]; exact Nat.lt_succ_self _) (hH ▸ Heap.get?_push_size _ rfl)⟩
  have hDC : s2.heap.objs.size ≠ G.objs.size := by rw [hG]; exact Nat.ne_of_lt (Nat.lt_succ_self _)
  have hC : s2.heap.objs.size ≤ G.objs.size := by rw [hG]; exact Nat.le_succ _
  have hfo : ∀ b ∈ fp, b < s2.heap.objs.size := fun b hb => by obtain ⟨o, e, _⟩ := T.obj 0 _ st2 b hb; exact Heap.lt_size e
  have stat : ∀ {H' : Hp} {pl : List (Addr × Obj)}, (∀ b ∈ fp, H' b = none) → (∀ p ∈ pl, p.1 ∉ fp) → ∀ b ∈ fp, FpOk (X.blk N' scope G.objs.size fp s2 H2) pl H' b := fun {H' pl} hn hpl b hb => by
    obtain ⟨_, g1, g2, g3, g4, g5⟩ := f2 b hb
    refine ⟨hn b hb, Nat.ne_of_lt (Nat.lt_of_lt_of_le (hfo b hb) hC), fun z => ?_, .inl hb, fun y c e => g4 y c (cloOf_lookup_sub e), fun p hp e => ?_⟩
    · rcases List.mem_cons.mp (I2.stkSub b z) with q | q
      · exact g1 q
      · exact g2 q
    · exact hpl p hp (e ▸ hb)
  have hDf : s2.heap.objs.size ∉ fp := fun z => absurd (hfo _ z) (Nat.lt_irrefl _)
  have hlc : (X.blk N' scope G.objs.size fp s2 H2).env.scope.names.lookup x = some .local := lookup_relabel_local S.loc
  have hcl : ∀ y c, (X.blk N' scope G.objs.size fp s2 H2).env.cells.lookup y = some c → c ≠ s2.heap.objs.size := fun y c e z => by
    obtain ⟨v, q⟩ := I2.cell y c (cloOf_lookup_sub e)
    exact absurd q.lt (by rw [z]; exact Nat.lt_irrefl _)
  have pin1 : ∀ {s' : Shared} {H' : Hp} {ob : Obj} {i : Nat} {ys : List V}, Inv (X.blk N' scope G.objs.size fp s2 H2) [] (none :: blkVals fv σ) H' s' → s'.heap.get? s2.heap.objs.size = some ob → (∀ v, ob.data ≠ .cell v) → H' s2.heap.objs.size = none →
      Inv (X.blk N' scope G.objs.size fp s2 H2) [(s2.heap.objs.size, ob)] (none :: blkVals fv σ) H' s' := fun {s' H' ob i ys} J1 e d f => J1.pins_of fun p hp => by
    have z : p = (s2.heap.objs.size, ob) := by simpa using hp
    subst z
    refine ⟨e, f, hDC, fun z => ?_, d⟩
    rcases List.mem_cons.mp (I2.stkSub _ z) with q | q
    · exact absurd I2.lt (by rw [← q]; exact Nat.lt_irrefl _)
    · exact I2.nofs (Nat.le_refl _) q
  have loop : ∀ s3 : Shared, s3 = { s2 with heap := h1, toks := s2.toks + ([] : List (Str × Value)).length } →
      codeAny (model X.prog X.w) X.A (.compLoop (.ListComp elt [⟨.Name x px, iter, ifs, 0⟩] scope pos) 0 (.ref it) (.ref s2.heap.objs.size) (X.blk N' scope G.objs.size fp s2 H2).env)
        (RR (.ref s2.heap.objs.size) G.objs.size) s3 := by
    rintro s3 rfl
    refine codeAny_compLoop_tests (fun k s' => ∃ i ys H' its, k = n + 1 - i ∧ i ≤ n ∧ ys.length ≤ i ∧ Vals ys its ∧ s'.heap.PlainList s2.heap.objs.size its.toArray ∧
      Inv (X.blk N' scope G.objs.size fp s2 H2) [] (none :: blkVals fv σ) H' s' ∧ H' s2.heap.objs.size = none ∧ tn i s'.heap ∧ (∀ b ∈ fp, H' b = none) ∧ W i ys H') ?_ (n + 1)
      ⟨0, [], H2, [], rfl, Nat.zero_le _, Nat.le_refl _, .nil, hD, blk_inv S I2 f2 hfo hC kp hns (fun p hp => nomatch hp), I2.hok.fresh (Nat.le_refl _), T.keep _ _ _ st2 fun b _ o e => kp b o e, fun b hb => (f2 b hb).1, w0⟩
    rintro k s4 ⟨i, ys, H4, its, rfl, hin, hyi, rv, pl4, I4, fD4, st4, ff4, w4⟩
    obtain ⟨cnt, eD⟩ := id pl4
    have I4p := pin1 (i := i) (ys := ys) I4 eD (fun v z => by cases z) fD4
    have np : ∀ p ∈ [(s2.heap.objs.size, ({ cls := .type "list", data := .seq its.toArray cnt } : Obj))], p.1 ∉ fp := fun p hp => by
      have z : p = (s2.heap.objs.size, ({ cls := .type "list", data := .seq its.toArray cnt } : Obj)) := by simpa using hp
      subst z; exact hDf
    rcases turn i ys H4 w4 with ⟨stop, fn⟩ | ⟨go, hi2, step⟩
    · refine wpAny_mono (T.done (X.blk N' scope G.objs.size fp s2 H2) rfl rfl rfl hc i _ s4 _ H4 _ I4p (stat ff4 np) st4 stop) (fun r s5 ⟨hr, I5⟩ => ?_) fun _ _ e => e
      subst hr
      obtain ⟨m5, hm5, _⟩ := I5.loc
      have eD5 : s5.heap.get? s2.heap.objs.size = some { cls := .type "list", data := .seq its.toArray cnt } := (I5.pin _ (List.mem_append_right _ List.mem_cons_self)).1
      have fD2 : H2 s2.heap.objs.size = none := I2.hok.fresh (Nat.le_refl _)
      have ltD : ∀ {b : Addr} {o : Obj}, s2.heap.get? b = some o → b ≠ s2.heap.objs.size := fun {b o} e => Nat.ne_of_lt (Heap.lt_size e)
      have B := I5.base
      have fC : H4 G.objs.size = none := I5.free
      have I5X : Inv X pins σ (upd H4 s2.heap.objs.size (.lst ys)) s5 := by
        refine I2.call' (s' := s5) (ch := fp) I5.os ⟨fun b o e nb hb hx => B.keep b o e nb hb hx, fun b o e nb hb hx => B.slot b o e nb hb hx, fun b o e nb hx => ?_, fun b o e hx => B.there b o e hx, fun b xs e => ?_, fun b o u e => ?_, fun b ps e => ?_⟩ ?_ I5.bare fun b hb => ?_
        · rw [upd_ne (ltD e)]; exact B.free b o e nb hx
        · have e' : H2 b = some (.tup xs) := e
          rw [upd_ne (ne_of_none e' fD2)]; exact B.tups b xs e
        · have e' : H2 b = some (.frz o u) := e
          rw [upd_ne (ne_of_none e' fD2)]; exact B.frzs b o u e
        · have e' : H2 b = some (.tbl ps) := e
          rw [upd_ne (ne_of_none e' fD2)]; exact B.tbls b ps e
        · intro b u e
          by_cases hb : b = s2.heap.objs.size
          · subst hb
            rw [upd_same] at e
            cases e
            exact ⟨Nat.le_trans hyi (Nat.le_trans hin hn), its, cnt, rv, eD5⟩
          · rw [upd_ne hb] at e
            exact (I5.hok b u e).stay (fun c v hc' q => q) (fun c q => by rw [upd_ne (ne_of_none q fD4)]; exact q) fun c xs q => by rw [upd_ne (ne_of_none q fD4)]; exact q
        · obtain ⟨_, g1, g2, g3, g4, g5⟩ := f2 b hb
          exact ⟨g3, g1, g4, g5⟩
      refine fin s2.heap.objs.size G.objs.size ys H4 s5 m5 I5X hm5 hDC.symm fD4 fC (Nat.ne_of_gt (Nat.lt_of_lt_of_le I2.lt hC)) (Nat.le_trans I2.sz hC) (fun y c e z => ?_) (fun p hp z => ?_) fn
      · obtain ⟨v, q⟩ := I2.cell y c e
        exact absurd (Nat.lt_of_lt_of_le q.lt hC) (by rw [z]; exact Nat.lt_irrefl _)
      · exact absurd (Nat.lt_of_lt_of_le (Heap.lt_size (I2.pin p hp).1) hC) (by rw [z]; exact Nat.lt_irrefl _)
    · refine wpAny_mono (T.item (X.blk N' scope G.objs.size fp s2 H2) rfl rfl rfl hc i _ s4 _ H4 _ I4p (stat ff4 np) st4 go) (fun r s5 ⟨u, hr, h5⟩ => ?_) fun _ _ e => e
      subst hr
      show wpAny _ _ (letOwnedTupleGo (.Name x px) (.ref it) u >>= fun _ => assign (.Name x px) (X.blk N' scope G.objs.size fp s2 H2).env u) _ _ s5
      refine wpAny_bind (wpAny_mono h5 (fun _ s6 ⟨xv, H6, I6, r6, y6, st6, ff6⟩ => ?_) fun _ _ e => e)
      have I6' := I6.pinned (stat ff6 np) (T.obj _ _ st6)
      have out : ∀ {σ' : St} {H' : Hp} {s' : Shared}, Inv (X.blk N' scope G.objs.size fp s2 H2) ([(s2.heap.objs.size, ({ cls := .type "list", data := .seq its.toArray cnt } : Obj))] ++ pinsAt fp s6.heap) σ' H' s' →
          s'.heap.PlainList s2.heap.objs.size its.toArray ∧ H' s2.heap.objs.size = none ∧ (∀ b ∈ fp, H' b = none) ∧ (∀ b ∈ fp, ∀ o, s6.heap.get? b = some o → s'.heap.get? b = some o) := fun {σ' H' s'} J1 => by
        have q := J1.pin (s2.heap.objs.size, ({ cls := .type "list", data := .seq its.toArray cnt } : Obj)) (List.mem_append_right _ (List.mem_append_left _ List.mem_cons_self))
        refine ⟨⟨cnt, q.1⟩, q.2.1, fun b hb => ?_, fun b hb o e => (J1.pin (b, o) (List.mem_append_right _ (List.mem_append_right _ (mem_pinsAt hb e)))).1⟩
        obtain ⟨o, e, d⟩ := T.obj _ _ st6 b hb
        exact (J1.pin (b, o) (List.mem_append_right _ (List.mem_append_right _ (mem_pinsAt hb e)))).2.1
      refine nox ((pg_name (X := X.blk N' scope G.objs.size fp s2 H2) (i := 0) S.nd S.hd (.inl hlc) (.inr hlc)) _ s6 _ H6 xv u (fun σ' H' => σ' = some xv :: blkVals fv σ ∧ H' = H6) I6' r6 ⟨rfl, rfl⟩) fun _ s7 ⟨σ7, H7, I7, e7, e7'⟩ => ?_
      subst e7 e7'
      refine nox (ht _ _ _ _ _ s7 _ H7 _ I7 (step xv H7 y6)) fun ok s8 ⟨H8, I8, q8⟩ => ?_
      cases ok with
      | false =>
        obtain ⟨o1, o2, o3, o4⟩ := out I8
        exact ⟨n + 1 - (i + 1), by omega, i + 1, ys, H8, its, rfl, hi2, Nat.le_succ_of_le hyi, rv, o1, (I8.pins_of (pins' := []) fun p hp => nomatch hp).weak (σ' := none :: blkVals fv σ) rfl (fun j v e => by
          cases j with
          | zero => cases (show (none : Option V) = some v from Option.some.inj e)
          | succ j => exact e), o2, T.keep _ _ _ st6 o4, o3, q8⟩
      | true =>
        refine nox (he _ _ _ _ _ s8 _ H8 _ I8 q8) fun yv s9 ⟨y, H9, I9, r9, q9⟩ => ?_
        obtain ⟨o1, o2, o3, o4⟩ := out I9
        have hlen := rv.length
        refine wpAny_list_append_plain (hsz := by rw [List.size_toArray, ← hlen]; exact Nat.le_trans hyi (Nat.le_trans hin hn)) o1 fun h' pl' sb' => ?_
        have I9' : Inv (X.blk N' scope G.objs.size fp s2 H2) [] (some xv :: blkVals fv σ) H9 { s9 with heap := h' } :=
          (I9.pins_of (pins' := []) fun p hp => nomatch hp).turned (t' := s9.toks) (it := s2.heap.objs.size) (fun b o hb e => sb'.extBut b o hb e) o2 hDC (.inr (Nat.le_refl _)) hcl (fun p hp => nomatch hp)
        refine ⟨n + 1 - (i + 1), by omega, i + 1, ys ++ [y], H9, its ++ [yv], rfl, hi2, by rw [List.length_append]; exact Nat.succ_le_succ hyi, rv.append (.cons r9 .nil), ?_, I9'.weak (σ' := none :: blkVals fv σ) rfl (fun j v e => by
          cases j with
          | zero => cases (show (none : Option V) = some v from Option.some.inj e)
          | succ j => exact e), o2, T.keep _ _ _ st6 fun b hb o e => sb'.extBut b o (fun z => hDf (z ▸ hb)) (o4 b hb o e), o3, q9⟩
        have e9 : (its ++ [yv]).toArray = its.toArray.push yv := by simp
        rw [e9]
        exact pl'
  exact codeAny_compStart_list (loop _ rfl) (T.self _ 0 _ _ _ (T.keep _ _ _ st2 fun b _ o e => kp b o e) (loop _ rfl))
def tSetLC (j : Nat) (wi : TI) (fv : List Nat) (tt : TT) (te : TE) : TS := fun D σ H => wi σ H fun J H1 => ∃ (W : Nat → List V → Hp → Prop) (n : Nat), W 0 [] H1 ∧ n ≤ sizeLine ∧ ∀ i ys H, W i ys H →
  (J.stop i H ∧ ∀ p, H p = none → D.nx (σ.set j (some (.ref p))) (upd H p (.lst ys))) ∨
  (J.go i H ∧ i < n ∧ ∀ x H', J.yld i H x H' → tt (some x :: blkVals fv σ) H' fun c H2 => if c = true then te (some x :: blkVals fv σ) H2 fun y H3 => W (i + 1) (ys ++ [y]) H3 else W (i + 1) ys H2)
theorem ps_setLC {X : Cx} {elt iter : Expr} {x y : Str} {px py : Pos} {ifs : List Expr} {scope : Scope} {pos spos : Pos} {N' : List Str} {fv : List Nat} {wi : TI} {tt : TT} {te : TE} {j : Nat}
    (hN : X.N.Nodup) (hj : X.N[j]? = some y) (hy : Loc X.env.scope y)
    (S : BlkScope X.N X.env.scope scope x N' fv) (hc : X.calm = true) (hi : PI X (.Name x px) iter wi)
    (ht : ∀ C fp s H, PTs (X.blk N' scope C fp s H) ifs tt) (he : ∀ C fp s H, PE (X.blk N' scope C fp s H) elt te)
    (hsw : swapsWith (.ListComp elt [⟨.Name x px, iter, ifs, 0⟩] scope pos) (some (.Name y py)) spos.line X.env = pure true := by rfl)
    (hf : X.fn y = true ∨ X.env.scope.names.lookup y = some .local := by first | exact .inl rfl | exact .inr rfl | assumption)
    (hs : ∀ x, foldedSetIterable iter X.env x = pure x := by intro _; rfl) :
    PS X (.Assign [.Name y py] (.ListComp elt [⟨.Name x px, iter, ifs, 0⟩] scope pos) spos) (tSetLC j wi fv tt te) := by
  intro pins s σ H D I h
  rw [exec_Assign_Name_used _ _ _ _ hsw]
  refine wpAny_bind (wpAny_standAt (wpAny_bind ?_))
  show wpAny _ X.A (do let _ ← comprehension (.ListComp elt [⟨.Name x px, iter, ifs, 0⟩] scope pos) scope X.env _ (newList []) false (eval iter X.env) (some (assign (.Name y py) X.env))) _ _ s
  refine wpAny_bind (wpAny_mono (wpAny_comprehension_free (use := some (assign (.Name y py) X.env)) (Q := fun _ s' => SP X pins D .next s') rfl hs (closureFor_free fun y hy hk => I.ok.has y.1 (S.free y hy hk)) S.kind S.names
    (wpAny_mono (hi pins s σ H _ I h) (fun xv s1 h1 => wpAny_mono h1 (fun itv s2 h2 => ?_) fun _ _ e => e) fun _ _ e => e)) (fun _ s' hq => wpAny_pure (wpAny_pure hq)) fun _ _ e => e)
  obtain ⟨it, fp, tn, J, H2, rfl, I2, T, st2, f2, W, n, w0, hn, turn⟩ := h2
  refine lc_core (Fin := fun ys H => ∀ p, H p = none → D.nx (σ.set j (some (.ref p))) (upd H p (.lst ys))) (RR := fun acc C => compPost (model X.prog X.w) X.A X.xe (some (assign (.Name y py) X.env)) (fun _ s' => SP X pins D .next s') acc C) S hc ht he I2 T st2 f2 w0 hn turn ?_
  intro E' C ys H4 s5 m5 I5 hm5 hCE fD fC hCL hC0 hCc hCp q
  show wpAny _ X.A (assign (.Name y py) X.env (.ref E')) _ _ _
  refine wpAny_assign_Name (store_ok2 I5 hN hj hy (v := .ref E') rfl (fun s6 I6 hch => ?_) hf)
  obtain ⟨a, sb, ha⟩ := hch
  have nCa : C ≠ a := by
    rcases ha with rfl | ha
    · exact hCL
    · exact fun e => hCc _ _ ha e.symm
  refine ⟨m5, hm5.sameBut sb nCa, fun h' sb' => ⟨_, _, ?_, q E' fD⟩⟩
  exact I6.turned (t' := s6.toks) (it := C) (fun b o hb e => sb'.extBut b o hb e) (by rw [upd_ne hCE]; exact fC) hCL (.inr hC0) hCc hCp
end L2
namespace L2
open PySem PySem.Spec PyProof.Rows
open Builtin Builtin.Str
theorem join_many (c : Nat) : ∀ ys : List Str, ys.length ≤ (Str.join ⟨#[c]⟩ ys).length + 1
  | [] => Nat.zero_le _
  | [y] => by simp
  | y :: u :: ys => by
    have ih := join_many c (u :: ys)
    rw [join_cons_cons]
    have e : (y ++ (⟨#[c]⟩ : Str) ++ Str.join ⟨#[c]⟩ (u :: ys)).length = y.length + 1 + (Str.join ⟨#[c]⟩ (u :: ys)).length := by
      show ((y.cps ++ #[c]) ++ (Str.join ⟨#[c]⟩ (u :: ys)).cps).size = _
      rw [Array.size_append, Array.size_append]
      rfl
    rw [e, List.length_cons]
    omega
theorem vals_strs : ∀ (l : List (Str × Tok)), Vals ((l.map (·.1)).map V.str) (strValues l)
  | [] => .nil
  | p :: l => .cons ⟨p.2, rfl⟩ (vals_strs l)
section
variable {X : Cx}
theorem mt_split1 : MtR X "str.split" (fun x vs H Q => ∃ (z : Str) (c : Nat), x = .str z ∧ vs = [.str ⟨#[c]⟩] ∧ z.length ≤ 1000000 ∧ ∀ p, H p = none → Q (.ref p) (upd H p (.lst ((Txt.split z ⟨#[c]⟩).map V.str)))) := by
  intro pins s σ H x xs v us Q I rx r h
  obtain ⟨z, c, rfl, rfl, hz, q⟩ := h
  obtain ⟨t, rfl⟩ := rx
  obtain ⟨u, rfl, ⟨t1, rfl⟩⟩ := vals1 r
  have hs : (1000002 : Nat) ≤ sizeLine := by decide
  have many : (Txt.split z ⟨#[c]⟩).length ≤ sizeLine := by
    have := join_many c (Txt.split z ⟨#[c]⟩)
    rw [StrLaws.join_split] at this
    omega
  have fin : ∀ (l : List (Str × Tok)) (k : Nat), l.map (·.1) = Txt.split z ⟨#[c]⟩ → EP X pins σ Q (.ref s.heap.objs.size) { s with toks := k, heap := s.heap.push { cls := .type "list", data := .seq (strValues l).toArray } } := fun l k el =>
    ⟨.ref s.heap.objs.size, _, I.laid (t' := k) (o := .lst ((Txt.split z ⟨#[c]⟩).map V.str)) (fun b o e => Heap.get?_push_of_some _ e) (Nat.le_refl _)
      (show ObjOk X.prog X.w _ _ _ (.lst ((Txt.split z ⟨#[c]⟩).map V.str)) from ⟨by rw [List.length_map]; exact many, strValues l, 0, el ▸ vals_strs l, Heap.get?_push_size _ rfl⟩), rfl, q _ (I.hok.fresh (Nat.le_refl _))⟩
  have hy : ((⟨#[c]⟩ : Str).length == 0) = false := rfl
  cases h1 : (decide (z.length < (⟨#[c]⟩ : Str).length) || decide (strKind z < strKind ⟨#[c]⟩)) with
  | true =>
    have es : Txt.split z ⟨#[c]⟩ = [z] := by unfold Txt.split; rw [if_pos h1]
    exact call_meets F.slot_str_split (typeIs_str _ _ _) F.entry_str_split (F.args_str_split_2 _ _) (meets_str_split_cannot_occur z ⟨#[c]⟩ t t1 h1) (fin [(z, t)] s.toks es.symm)
  | false =>
    cases hf : (occurrences z ⟨#[c]⟩ 0 z.length (z.length + 1)).isEmpty with
    | true =>
      have es : Txt.split z ⟨#[c]⟩ = [z] := by unfold Txt.split; rw [if_neg (by rw [h1]; decide), if_pos hf]
      exact call_meets F.slot_str_split (typeIs_str _ _ _) F.entry_str_split (F.args_str_split_2 _ _) (meets_str_split_not_found z ⟨#[c]⟩ t t1 h1 hy hf) (fin [(z, t)] s.toks es.symm)
    | false =>
      have es : Txt.split z ⟨#[c]⟩ = partsBetween z (occurrences z ⟨#[c]⟩ 0 z.length (z.length + 1)) (⟨#[c]⟩ : Str).length := by unfold Txt.split; rw [if_neg (by rw [h1]; decide), if_neg (by rw [hf]; decide)]
      refine call_meets F.slot_str_split (typeIs_str _ _ _) F.entry_str_split (F.args_str_split_2 _ _) (meets_str_split_sep z ⟨#[c]⟩ t t1 h1 hy hf (by omega) (by rw [← es]; exact many)) ?_
      rw [strsFrom_eq]
      exact fin _ _ ((numbered_texts _ _).trans es.symm)
end
end L2
namespace L2
open PySem PySem.Spec PyProof.Rows
section
variable {X : Cx}
end
end L2
namespace L2
open PySem PySem.Spec PyProof.Rows
section
variable {X : Cx}
end
end L2
namespace L2
open PySem PySem.Spec PyProof.Rows
section
variable {M : Model} {A : Around} {E : Value → Shared → Prop} {s : Shared}
theorem note_core {B : Heap} {env : Env} {outer : List Env} {L e : Addr} {oe : Obj} {vs : Array Value} {top a0 : Value} {nx : Bool} {Q : Unit → Shared → Prop}
    (fr : A.frames = some (env :: outer)) (ff : s.heap.FunFrames B (env :: outer)) (fL : env.frame = some L) (eo : s.heap.get? e = some oe) (st : B.StaysIn s.heap) (nb : B.get? e = none)
    (dv : oe.data = .fields vs) (v0 : vs[0]? = some a0) (v2 : vs[2]? = some .none)
    (q : ∀ h', Heap.HeldW B (env :: outer) e oe.cls a0 L h' → s.heap.UpToSlots h' → NoCtx h' e → Q () { s with heap := h' }) :
    wpAny M A (frameOf env >>= fun fv => entryPlaceOf L nx >>= fun pl => EntryCells.newEntry top fv .none (rawInt L) .none pl >>= fun t => setField (.ref e) 1 t) Q E s := by
  have s1 : 1 < vs.size := Nat.lt_of_lt_of_le (by decide) (Nat.le_of_lt (Array.getElem?_eq_some_iff.mp v2).1)
  have ne : e ∉ (env :: outer).filterMap (·.frame) := fun z => by
    obtain ⟨_, o, eo', nf⟩ := ff.mem z
    rw [eo] at eo'
    cases eo'
    exact nf vs dv
  refine wpAny_bind (wpAny_frameOf_fun fr ff fL fun g so => wpAny_bind (wpAny_entryPlaceOf fun pl ip => ?_))
  unfold EntryCells.newEntry newFields
  refine wpAny_bind (wpAny_newObj_type ?_ (ip.sizeOk5 _ _ _ _ _))
  have eg : g.get? e = some oe := (so.2.1 e ne).trans eo
  have ep := Heap.get?_push_of_some (h := g) { cls := .type "traceback", dict := none, data := .fields ([top, .ref L, .none, rawInt L, .none] ++ (if pl.isEmpty then List.replicate 6 Value.none else pl)).toArray } eg
  refine wpAny_setField ep dv s1 ?_
  have tne : g.objs.size ≠ e := fun z => absurd (Heap.lt_size eg) (by rw [z]; exact Nat.lt_irrefl _)
  have d1 := Obj.data_mapFields dv (fun a => a.setIfInBounds 1 (Value.ref g.objs.size))
  have e1 := Heap.get?_update_self (Obj.mapFields fun a => a.setIfInBounds 1 (Value.ref g.objs.size)) ep (Obj.isFreed_of_fields d1)
  have oth : ∀ b o, b ≠ e → g.get? b = some o → ((g.push { cls := .type "traceback", dict := none, data := .fields ([top, .ref L, .none, rawInt L, .none] ++ (if pl.isEmpty then List.replicate 6 Value.none else pl)).toArray }).update e (Obj.mapFields fun a => a.setIfInBounds 1 (Value.ref g.objs.size))).get? b = some o := fun b o hb eb => by
    rw [Heap.get?_update_other _ _ (Ne.symm hb)]
    exact Heap.get?_push_of_some _ eb
  have nofs : ∀ b o, s.heap.get? b = some o → (∀ us, o.data ≠ .fields us) → b ≠ e := fun b o eb nf z => by
    rw [z, eo] at eb
    cases eb
    exact nf vs dv
  have sg : B.StaysIn g := fun b o eb => (so.2.1 b fun z => by rw [(ff.mem z).1] at eb; cases eb).trans (st b o eb)
  refine q _ ⟨fun b o eb => oth b o (fun z => by rw [z, nb] at eb; cases eb) (sg b o eb), nb, ff.of_keeps fun b o eb nf => ?_, ?_⟩ (fun b o eb nf => ?_) ⟨_, _, e1, d1, by rw [Array.getElem?_setIfInBounds_ne (by decide)]; exact v2⟩
  · obtain ⟨sl, eb'⟩ := so.2.2 b o eb
    exact ⟨_, oth b _ (nofs b o eb nf) eb', rfl⟩
  · have eT := (Heap.get?_update_other (g.push { cls := .type "traceback", dict := none, data := .fields ([top, .ref L, .none, rawInt L, .none] ++ (if pl.isEmpty then List.replicate 6 Value.none else pl)).toArray }) (Obj.mapFields fun a => a.setIfInBounds 1 (Value.ref g.objs.size)) (Ne.symm tne)).trans (Heap.get?_push_size g rfl)
    exact ⟨_, _, g.objs.size, _, _, e1, ⟨Obj.cls_mapFields _ _, by rw [Array.getElem?_setIfInBounds_ne (by decide)]; exact v0⟩, d1, by simp [s1], sg.fresh, tne, eT, rfl, by simp⟩
  · obtain ⟨sl, eb'⟩ := so.2.2 b o eb
    exact ⟨sl, oth b _ (nofs b o eb nf) eb'⟩
theorem note_ctx {B : Heap} {env : Env} {outer : List Env} {L e : Addr} {cls a0 : Value} {Q : Unit → Shared → Prop} (fr : A.frames = some (env :: outer)) (fL : env.frame = some L) (fl : Heap.FlyingW B (env :: outer) e cls a0 s.heap) (n : NoCtx s.heap e)
    (q : ∀ h', Heap.HeldW B (env :: outer) e cls a0 L h' → s.heap.UpToSlots h' → NoCtx h' e → Q () { s with heap := h' }) : wpAny M A (noteFrame (.ref e) env) Q E s := by
  obtain ⟨st, nb, ff, oe, vs, T, oT, ts, eo, ⟨hc, v0⟩, dv, v1, nT, hTe, eT, dT, t3⟩ := fl
  obtain ⟨oe', vs', eo', dv', v2⟩ := n
  rw [eo] at eo'
  cases eo'
  rw [dv] at dv'
  cases dv'
  subst hc
  unfold noteFrame
  simp only [fL]
  refine wpAny_bind (wpAny_field eo dv v1 ?_)
  rw [if_pos (show (Value.ref T != Value.none) = true by simp)]
  refine wpAny_bind (wpAny_field eT dT t3 ?_)
  rw [if_neg (show ¬ (Value.none == rawInt L) = true by simp [rawInt])]
  refine wpAny_bind (wpAny_setField eT dT (Array.getElem?_eq_some_iff.mp t3).1 ?_)
  have oth : ∀ b, b ≠ T → (s.heap.update T (Obj.mapFields fun a => a.setIfInBounds 3 Value.none)).get? b = s.heap.get? b := fun b hb => Heap.get?_update_other _ _ (Ne.symm hb)
  have nofs : ∀ b o, s.heap.get? b = some o → (∀ us, o.data ≠ .fields us) → b ≠ T := fun b o eb nf z => by
    rw [z, eT] at eb
    cases eb
    exact nf ts dT
  refine note_core (s := { s with heap := s.heap.update T (Obj.mapFields fun a => a.setIfInBounds 3 Value.none) }) fr (ff.of_keeps fun b o eb nf => ⟨o, (oth b (nofs b o eb nf)).trans eb, rfl⟩) fL ((oth e (Ne.symm hTe)).trans eo)
    (fun b o eb => (oth b fun z => by rw [z, nT] at eb; cases eb).trans (st b o eb)) nb dv v0 v2 fun h' hw up nc => q h' hw (fun b o eb nf => up b o ((oth b (nofs b o eb nf)).trans eb) nf) nc
theorem note_ctx0 {B : Heap} {env : Env} {outer : List Env} {L e : Addr} {oe : Obj} {vs : Array Value} {a0 : Value} {Q : Unit → Shared → Prop} (fr : A.frames = some (env :: outer)) (ff : s.heap.FunFrames B (env :: outer)) (fL : env.frame = some L) (eo : s.heap.get? e = some oe) (st : B.StaysIn s.heap) (nb : B.get? e = none)
    (dv : oe.data = .fields vs) (v1 : vs[1]? = some .none) (v0 : vs[0]? = some a0) (v2 : vs[2]? = some .none)
    (q : ∀ h', Heap.HeldW B (env :: outer) e oe.cls a0 L h' → s.heap.UpToSlots h' → NoCtx h' e → Q () { s with heap := h' }) : wpAny M A (noteFrame (.ref e) env) Q E s := by
  unfold noteFrame
  simp only [fL]
  refine wpAny_bind (wpAny_field eo dv v1 ?_)
  rw [if_neg (by decide)]
  exact note_core fr ff fL eo st nb dv v0 v2 q
theorem flight_ctx {B : Heap} {l : List Env} {e : Addr} {cls a0 x3 : Value} {Q : Unit → Shared → Prop} (st : B.StaysIn s.heap) (nb : B.get? e = none) (ff : s.heap.FunFrames B l) (tr : s.heap.TracedAtW B e cls a0 x3) (n : NoCtx s.heap e)
    (q : ∀ h', Heap.FlyingW B l e cls a0 h' → s.heap.UpToSlots h' → NoCtx h' e → Q () { s with heap := h' }) : wpAny M A (setFlight (.ref e) none) Q E s := by
  obtain ⟨oe, vs, T, oT, ts, eo, hc, dv, v1, nT, hTe, eT, dT, t3⟩ := tr
  have z3 : 3 < ts.size := (Array.getElem?_eq_some_iff.mp t3).1
  unfold setFlight
  refine wpAny_bind (wpAny_field eo dv v1 ?_)
  rw [if_pos (show (Value.ref T != Value.none) = true by simp)]
  refine wpAny_setField eT dT z3 ?_
  show Q () { s with heap := s.heap.update T (Obj.mapFields fun a => a.setIfInBounds 3 Value.none) }
  have oth : ∀ b, b ≠ T → (s.heap.update T (Obj.mapFields fun a => a.setIfInBounds 3 Value.none)).get? b = s.heap.get? b := fun b hb => Heap.get?_update_other _ _ (Ne.symm hb)
  have nofs : ∀ b o, s.heap.get? b = some o → (∀ us, o.data ≠ .fields us) → b ≠ T := fun b o eb nf z => by
    rw [z, eT] at eb
    cases eb
    exact nf ts dT
  have d3 := Obj.data_mapFields dT (fun a => a.setIfInBounds 3 Value.none)
  refine q _ ⟨fun b o eb => (oth b fun z => by rw [z, nT] at eb; cases eb).trans (st b o eb), nb, ff.of_keeps fun b o eb nf => ⟨o, (oth b (nofs b o eb nf)).trans eb, rfl⟩,
    ⟨oe, vs, T, _, _, (oth e (Ne.symm hTe)).trans eo, hc, dv, v1, nT, hTe, Heap.get?_update_self _ eT (Obj.isFreed_of_fields d3), d3, by simp [z3]⟩⟩ (fun b o eb nf => ⟨o.slots, (oth b (nofs b o eb nf)).trans eb⟩) (n.keeps fun o eb => (oth e (Ne.symm hTe)).trans eb)
theorem leaves_ctx {B : Heap} {env : Env} {outer : List Env} {L e : Addr} {cls a0 : Value} {Q : Unit → Shared → Prop} (fr : A.frames = some (env :: outer)) (fL : env.frame = some L) (fl : Heap.FlyingW B (env :: outer) e cls a0 s.heap) (n : NoCtx s.heap e)
    (q : ∀ h', Heap.FlyingW B outer e cls a0 h' → s.heap.UpToSlots h' → NoCtx h' e → Q () { s with heap := h' }) : wpAny M A (leaving env (.ref e)) Q E s := by
  unfold leaving
  refine wpAny_bind (note_ctx fr fL fl n fun h1 w1 u1 n1 => ?_)
  refine flight_ctx (s := { s with heap := h1 }) w1.1 w1.2.1 w1.2.2.1 w1.2.2.2 n1 fun h2 ⟨k1, k2, k3, k4⟩ u2 n2 => q h2 ⟨k1, k2, k3.2.2, k4⟩ (u1.trans u2) n2
theorem leaves_made {B h : Heap} {env : Env} {outer : List Env} {L e : Addr} {cls : Value} {args : List Value} {Q : Unit → Shared → Prop} (fr : A.frames = some (env :: outer)) (fL : env.frame = some L) (st : B.StaysIn h) (ff : h.FunFrames B (env :: outer)) (hx : Heap.MadeExcOf h s.heap e cls args)
    (q : ∀ h' a0, Heap.FlyingW B outer e cls a0 h' → s.heap.UpToSlots h' → NoCtx h' e → Q () { s with heap := h' }) : wpAny M A (leaving env (.ref e)) Q E s := by
  obtain ⟨t, eo, _, _⟩ := hx.there
  have nb : B.get? e = none := by
    cases z : B.get? e with
    | none => rfl
    | some o => have := st e o z; rw [hx.new] at this; cases this
  unfold leaving
  refine wpAny_bind (note_ctx0 (a0 := .ref t) fr (ff.of_keeps fun b o eb _ => ⟨o, hx.keeps b o eb, rfl⟩) fL eo (fun b o eb => hx.keeps b o (st b o eb)) nb rfl rfl rfl rfl fun h1 w1 u1 n1 => ?_)
  refine flight_ctx (s := { s with heap := h1 }) w1.1 w1.2.1 w1.2.2.1 w1.2.2.2 n1 fun h2 ⟨k1, k2, k3, k4⟩ u2 n2 => q h2 (.ref t) ⟨k1, k2, k3.2.2, k4⟩ (u1.trans u2) n2
end
end L2
namespace L2
open PySem PySem.Spec PyProof.Rows
def Cov (l : List Env) (h0 : Heap) (H : Hp) (B h : Heap) : Prop := ∀ b o, h.get? b = some o → b ∉ frs l → (H b ≠ none ∨ ∃ o0, h0.get? b = some o0) → B.get? b = some o
def Fly (l : List Env) (h0 : Heap) (H : Hp) (ea C : Addr) (h : Heap) : Prop := ∃ B a0, Heap.FlyingW B l ea (.ref C) a0 h ∧ Cov l h0 H B h ∧ NoCtx h ea
def CXE (P : Program) (w : World) : CXT := fun outer H s E e s' => ∃ ea C H', e = .ref ea ∧ s'.os = s.os ∧ AllBare s'.gens ∧ Un (frs outer) [] H H' s.heap s'.heap ∧ HOk P w H' s'.heap ∧ Fly outer s.heap H' ea C s'.heap ∧ E e (some C) H'
theorem ObjOk.there {P : Program} {w : World} {H : Hp} {h : Heap} {a : Addr} {o : HO} (x : ObjOk P w H h a o) : ∃ ob, h.get? a = some ob := by
  cases o with
  | lst xs => obtain ⟨_, _, _, _, e⟩ := x; exact ⟨_, e⟩
  | tup xs => obtain ⟨_, _, _, o, e, _⟩ := x; exact ⟨_, e⟩
  | dK kvs => obtain ⟨_, _, _, _, o, _, _, e, _⟩ := x; exact ⟨_, e⟩
  | dT kvs => obtain ⟨_, _, _, _, o, _, _, e, _⟩ := x; exact ⟨_, e⟩
  | set S n => obtain ⟨o, _, _, _, e, _⟩ := x; exact ⟨_, e⟩
  | ins C dx fs => obtain ⟨_, _, _, e, _⟩ := x; exact ⟨_, e⟩
  | own y => obtain ⟨_, e⟩ := x; exact ⟨_, e⟩
  | xd fs => obtain ⟨_, ⟨_, _, _, e, _⟩, _⟩ := x; exact ⟨_, e⟩
  | rng lo hi => obtain ⟨_, _, _, e⟩ := x; exact ⟨_, e⟩
  | frz ob u => obtain ⟨e, _⟩ := x; exact ⟨_, e⟩
  | tbl ps => exact ⟨_, (show h.get? a = some _ from x)⟩
  | met f y => exact ⟨_, (show h.get? a = some _ from x)⟩
  | ext φ => obtain ⟨_, ⟨_, e⟩, _⟩ := x; exact ⟨_, e⟩
section
variable {l : List Env} {H : Hp} {B h h' hc : Heap} {P : Program} {w : World}
theorem Cov.stay (c : Cov l hc H B h) (st : B.StaysIn h') : ∀ b o, h.get? b = some o → b ∉ frs l → (H b ≠ none ∨ ∃ o0, hc.get? b = some o0) → h'.get? b = some o := fun b o e nb hb => st b o (c b o e nb hb)
theorem HOk.moved (x : HOk P w H h) (c : Cov l hc H B h) (st : B.StaysIn h') (fr : ∀ b ∈ frs l, H b = none) : HOk P w H h' := fun a o e => by
  refine (x a o e).stay (fun b u hb q => ?_) (fun b q => q) fun b xs q => q
  have tr : H b ≠ none := by
    rcases hb with rfl | hb
    · rw [e]; intro z; cases z
    · rw [hb]; intro z; cases z
  exact c.stay st b u q (fun z => tr (fr b z)) (.inl tr)
theorem Un.moved {fs : List Addr} {H0 : Hp} {h0 : Heap} (u : Un fs [] H0 H h0 h) (c : Cov l hc H B h) (st : B.StaysIn h') (sm : h.UpToSlots h') (ff : h.FunFrames B l) (hn : ∀ b o, h0.get? b = some o → ∃ o', hc.get? b = some o')
    (hf : ∀ b ∈ fs, b ∈ frs l) (hl : ∀ b o, h0.get? b = some o → b ∈ frs l → b ∈ fs) : Un fs [] H0 H h0 h' := by
  have kp : ∀ b o0 o, h0.get? b = some o0 → b ∉ fs → h.get? b = some o → h'.get? b = some o := fun b o0 o e0 nb e => c.stay st b o e (fun z => nb (hl b o0 e0 z)) (.inr (hn b o0 e0))
  have sl : ∀ b o, b ∈ fs → h.get? b = some o → ∃ sl, h'.get? b = some { o with slots := sl } := fun b o hb e => by
    obtain ⟨_, o', e', d⟩ := ff.mem (show b ∈ l.filterMap (·.frame) from hf b hb)
    rw [e] at e'
    cases e'
    exact sm b o e d
  refine ⟨fun b o e z nb hx => kp b o o e nb (u.keep b o e z nb hx), fun b o e z hb hx => ?_, u.free, fun b o e hx => ?_, u.tups, u.frzs, u.tbls⟩
  · obtain ⟨s1, q⟩ := u.slot b o e z hb hx
    obtain ⟨s2, q2⟩ := sl b _ hb q
    exact ⟨s2, q2⟩
  · obtain ⟨o1, q⟩ := u.there b o e hx
    by_cases hb : b ∈ fs
    · obtain ⟨s2, q2⟩ := sl b _ hb q
      exact ⟨_, q2⟩
    · exact ⟨o1, kp b o o1 e hb q⟩
theorem Cov.moved {h0 : Heap} {l' : List Env} {fs : List Addr} {H0 : Hp} (c : Cov l hc H B h) (st : B.StaysIn h') (x : HOk P w H h) (u : Un fs [] H0 H h0 h) (hn : ∀ b o, h0.get? b = some o → ∃ o', hc.get? b = some o')
    (hl : ∀ b, b ∉ frs l' → (H b ≠ none ∨ ∃ o0, h0.get? b = some o0) → b ∉ frs l) : Cov l' h0 H B h' := fun b o e nb hb => by
  have nl := hl b nb hb
  have hb' : H b ≠ none ∨ ∃ o0, hc.get? b = some o0 := hb.imp id fun ⟨o0, z⟩ => hn b o0 z
  have ex : ∃ o1, h.get? b = some o1 := by
    rcases hb with z | ⟨o0, z⟩
    · cases q : H b with
      | none => exact absurd q z
      | some u1 => exact (x b u1 q).there
    · exact u.there b o0 z (by simp)
  obtain ⟨o1, q⟩ := ex
  have q2 := c b o1 q nl hb'
  have q3 := st b o1 q2
  rw [e] at q3
  cases q3
  exact q2
end
structure Cx.Def (X : Cx) (E : XK) : Prop where
  stk : X.stack = X.env :: X.outer
  fr : X.env.frame = some X.env.locals
  ex : X.ex = []
  xe : X.xe = fun e s' => wpAny (model X.prog X.w) X.A (leaving X.env e) (fun _ s'' => CXE X.prog X.w X.outer X.H₀ X.s₀ E e s'') (fun e' s'' => CXE X.prog X.w X.outer X.H₀ X.s₀ E e' s'') s'
section
variable {X : Cx} {E : XK} {pins : List (Addr × Obj)} {σ : St} {H H' : Hp} {s s' : Shared}
theorem frs_cons (D : X.stack = X.env :: X.outer) (fr : X.env.frame = some X.env.locals) : frs X.stack = X.env.locals :: frs X.outer := by
  rw [D]
  show List.filterMap _ (X.env :: X.outer) = _
  rw [List.filterMap_cons, fr]
  rfl
theorem Inv.leaves {B h2 hc : Heap} {ea C : Addr} {a0 : Value} (D : X.Def E) (I : Inv X pins σ H s) (c : Cov X.stack hc H B s.heap) (hc0 : ∀ b o, X.s₀.heap.get? b = some o → ∃ o', hc.get? b = some o') (ff : s.heap.FunFrames B X.stack)
    (fl : Heap.FlyingW B X.outer ea (.ref C) a0 h2) (nc : NoCtx h2 ea) (sm : s.heap.UpToSlots h2) (q : E (.ref ea) (some C) H) : CXE X.prog X.w X.outer X.H₀ X.s₀ E (.ref ea) { s with heap := h2 } := by
  have st := fl.1
  have fc := frs_cons D.stk D.fr
  have b0 : Un X.fs [] X.H₀ H X.s₀.heap s.heap := by have := I.base; rw [D.ex] at this; exact this
  have nL : ∀ b o, X.s₀.heap.get? b = some o → b ≠ X.env.locals := fun b o e z => absurd (Heap.lt_size e) (by rw [z]; exact Nat.not_lt.mpr I.ok.above)
  refine ⟨ea, C, H, rfl, I.os, I.bare, b0.moved c st sm ff hc0 (fun b hb => by rw [fc]; exact List.mem_cons_of_mem _ hb) (fun b o e hb => ?_), I.hok.moved c st I.stkFree, ⟨B, a0, fl, c.moved st I.hok b0 hc0 fun b nb hb => ?_, nc⟩, q⟩
  · rw [fc] at hb
    rcases List.mem_cons.mp hb with z | z
    · exact absurd z (nL b o e)
    · exact z
  · rw [fc]
    intro z
    rcases List.mem_cons.mp z with z | z
    · subst z
      rcases hb with y | ⟨o0, y⟩
      · exact y I.free
      · exact nL _ o0 y rfl
    · exact nb z
theorem Inv.came {e : Value} {E' : XK} (I : Inv X pins σ H s) (h : CXE X.prog X.w X.stack H s E' e s') : ∃ ea C H', e = .ref ea ∧ Inv X pins σ H' s' ∧ Fly X.stack s.heap H' ea C s'.heap ∧ E' e (some C) H' := by
  obtain ⟨ea, C, H', rfl, os, bare, un, hok, fl, q⟩ := h
  obtain ⟨hh, g, d, t, os'⟩ := s'
  obtain rfl : os' = s.os := os
  exact ⟨ea, C, H', rfl, I.call (h' := hh) (g' := g) (d' := d) (t' := t) (ch := []) un hok bare (fun b z => absurd z (by simp)), fl, q⟩
theorem passE (D : X.Def E) (hE : X.A.frames = some X.stack) : Passes (CXE X.prog X.w) X E := by
  intro pins σ H s e s' I h
  obtain ⟨ea, C, H', rfl, I', ⟨B, a0, fl, c, nc⟩, q⟩ := I.came h
  rw [D.xe]
  have hfr : X.A.frames = some (X.env :: X.outer) := by rw [hE, D.stk]
  rw [D.stk] at fl
  refine leaves_ctx hfr D.fr fl nc fun h2 fl2 sm nc2 => ?_
  rw [← D.stk] at fl
  have sub : ∀ b o, X.s₀.heap.get? b = some o → ∃ o', s.heap.get? b = some o' := fun b o e => I.base.there b o e (by rw [D.ex]; simp)
  exact I'.leaves D c sub fl.2.2.1 fl2 nc2 sm q
theorem raiseE (D : X.Def E) {h1 : Heap} {ea C : Addr} {vs : List Value} (I : Inv X pins σ H s) (hx : Heap.MadeExcOf s.heap h1 ea (.ref C) vs) (q : E (.ref ea) (some C) H) : X.xe (.ref ea) { s with heap := h1 } := by
  rw [D.xe]
  have hfr : X.A.frames = some (X.env :: X.outer) := by rw [I.ok.frames, D.stk]
  have ff : s.heap.FunFrames (PySem.W.hideAll s.heap (frs X.stack)) (X.env :: X.outer) := by
    have := I.stack
    rw [D.stk] at this ⊢
    exact PySem.W.funFrames_hide this fun env he b hb => List.mem_filterMap.mpr ⟨env, he, hb⟩
  refine leaves_made (s := { s with heap := h1 }) hfr D.fr (fun b o e => PySem.W.of_hideAll _ e) ff hx fun h2 a0 fl sm nc => ?_
  have c : Cov X.stack s.heap H (PySem.W.hideAll s.heap (frs X.stack)) s.heap := fun b o e nb _ => PySem.W.hideAll_get _ e nb
  have sub : ∀ b o, X.s₀.heap.get? b = some o → ∃ o', s.heap.get? b = some o' := fun b o e => I.base.there b o e (by rw [D.ex]; simp)
  have ff' : s.heap.FunFrames (PySem.W.hideAll s.heap (frs X.stack)) X.stack := by rw [D.stk] at ff ⊢; exact ff
  exact I.leaves (s := s) D c sub ff' fl nc ((Heap.UpToSlots.of_keeps hx.keeps).trans sm) q
end
theorem def_cx {P : Program} {w : World} {K : PySem.W.Frag} {mg : Str → Option Value} {base : Heap} {N : List Str} {qual : Str} {scope : Scope} {f : Addr} {cd : Value} {A : Around} {outer : List Env} {s : Shared} {H : Hp} {E : XK} :
    (cxOf (CXE P w) P w K mg base N qual scope f cd A outer s H E).Def E := ⟨rfl, rfl, rfl, rfl⟩
section
variable {P : Program} {w : World} {K : PySem.W.Frag} {mg : Str → Option Value} {base : Heap}
theorem Fun.okE {x qual : Str} {st : Stmt} {f : Addr} {fd : FuncData} {N ps : List Str} {k : Nat} {sp : Sp} (F : Fun K x qual st f fd) (S : FnScope N ps (defScope st)) (len : ∀ vs H Q E, sp vs H Q E → vs.length = ps.length)
    (hbody : ∀ (cdv : Value) (A : Around) (outer : List Env) (s : Shared) (H : Hp) (vs : List V) (Q : VK) (E : XK), Room k (A.deeper (envOfC qual (defScope st) s.heap.objs.size f cdv)) → sp vs H Q E →
      ∃ t, PSs (cxOf (CXE P w) P w K mg base N qual (defScope st) f cdv A outer s H E) (defBody st) t ∧ t { nx := fun _ H' => Q .non H', rt := Q } (start N vs) H) : FnOk P w K mg base (CXE P w) (k + 1) f fd ps sp := by
  obtain ⟨oc, od, kV, doc, pm, an, cdv, ct, osl, rfl, lk, hcd⟩ := F.ex
  exact fn_of lk hcd S len fun A outer s H vs Q E hr hsp => hbody cdv A outer s H vs Q E hr hsp
theorem passX {N : List Str} {qual : Str} {scope : Scope} {f : Addr} {cd : Value} {A : Around} {outer : List Env} {s : Shared} {H : Hp} {E : XK} : Passes (CXE P w) (cxOf (CXE P w) P w K mg base N qual scope f cd A outer s H E) E := by
  intro pins σ H1 s1 e s' I h
  exact passE def_cx I.ok.frames pins σ H1 s1 e s' I h
end
end L2
namespace L2
open PySem PySem.Spec PyProof.Rows
theorem own_in {K : PySem.W.Frag} {h : Heap} {mg : Str → Option Value} {x : Str} {C : Addr} {bm : List Value} {new : String} (kin : K.In h) (hm : mg x = some (.ref C)) (q : PySem.W.excIn K C bm new = true) : OwnCls x C bm new mg h := by
  have key : ∀ o, K.lookup C = some o → ∃ tl N nm qn bs hdct sn sub ab col dd k0 k1 k2 k3 k5 mN, h.get? C = some (excClassObj nm qn C N bs tl hdct sn sub ab col dd k0 k1 k2 k3 k5 new) ∧ h.Ns N mN ∧ mN "__init__" = none ∧ OwnTail h bm tl := fun o lk => by
    unfold PySem.W.excIn at q
    rw [lk] at q
    obtain ⟨oc, od, odt, osl⟩ := o
    split at q
    · rename_i dd cd sl e0
      cases (Option.some.inj e0)
      obtain ⟨nm, bs, mro, ns, qn, hd, sn, sub, ab, col, del⟩ := cd
      split at q
      · rename_i C2 tl k0 k1 k2 k3 n2 k5 em es
        dsimp only at em q
        simp only [Bool.and_eq_true, beq_iff_eq, Bool.not_eq_true'] at q
        obtain ⟨⟨⟨⟨⟨q1, q2⟩, q3⟩, q4⟩, q5⟩, q6⟩ := q
        subst q1 q2 q3 em
        have esl : osl = #[k0, k1, k2, k3, some (.builtin n2), k5] := Array.toList_inj.mp es
        subst esl
        exact ⟨tl, ns, nm, qn, bs, hd, sn, sub, ab, col, od, k0, k1, k2, k3, k5, _, kin _ _ lk, .of_isNs (PySem.W.isNs_of_in kin q5), PySem.W.nsMap_none_of_in kin q5 q6, PySem.W.tail_of_in kin q4⟩
      · cases q
    · cases q
  refine ⟨hm, ?_⟩
  cases lk : K.lookup C with
  | none => unfold PySem.W.excIn at q; rw [lk] at q; cases q
  | some o => exact key o lk
section
variable {X : Cx} {E : XK}
def tRaise (C : Addr) (E : XK) (ta : TA) : TS := fun _ σ H => ta σ H fun vs H1 => vs.length ≤ 1 ∧ ∀ ea, E (.ref ea) (some C) H1
theorem ps_raise {x : Str} {C : Addr} {bm : List Value} {B new init : String} {e : Expr} {ta : TA} {np cpos pos : Pos} (D : X.Def E) (hc : X.A.handled = none) (hg : Gl X x) (hm : X.mg x = some (.ref C))
    (q : PySem.W.excIn X.K C bm new = true) (FB : ExcBaseFacts B new init bm) (he : PA X [e] ta)
    (hst : starEach [e] X.env = [(false, eval e X.env)] := by rfl) (hd : (x == ("__debug__" : Str)) = false := by decide) :
    PS X (.Raise (some (.Call (.Name x np) [e] [] cpos)) none pos) (tRaise C E ta) := by
  intro pins s σ H D' I h
  obtain ⟨tl, N, nm, qn, bs, hdct, sn, sub, ab, col, dd, k0, k1, k2, k3, k5, mN, hC, hN, hni, T⟩ := (own_in I.ok.mod.kin hm q).obj
  refine wpAny_Raise_call_subT (C := C) (nm := nm) (q := qn) (N := N) (bs := bs) (bm := tl) (hdct := hdct) (sn := sn) (sub := sub) (ab := ab) (col := col) (dd := dd) (k0 := k0) (k1 := k1) (k2 := k2) (k3 := k3) (k5 := k5)
    FB (mN := mN) (T.hasType FB.hasBase) hc (by rw [hst]; rfl) hni (ld_glob I hg hm ⟨rfl, ?_⟩ hd)
  have hsp := he cpos pins s σ H _ I h
  rw [hst] at hsp ⊢
  refine Calls.evalArgs_plain (wpAny_mono hsp (fun us s2 ⟨vs, H2, I2, r, hl, q2⟩ => ?_) fun _ _ y => y)
  have kb : ∀ b o, X.base.get? b = some o → s2.heap.get? b = some o := I2.bk
  refine ⟨rfl, ?_, kb _ _ hC, hN.keeps kb, T.keeps kb, fun h' e' hx => raiseE D I2 hx (q2 e')⟩
  have := r.length
  have h0 : (1 : Nat) ≤ sizeLine := by decide
  show us.length ≤ sizeLine
  omega
end
end L2
namespace L2
open PySem PySem.Spec PyProof.Rows
abbrev Cx.hnd (X : Cx) (ev : Value) : Cx := { X with A := X.A.mark (some ev), calm := false, xe := fun _ _ => False }
section
variable {X : Cx} {pins : List (Addr × Obj)} {σ : St} {H H1 : Hp} {s s1 : Shared} {ev : Value}
theorem Cx.Ok.hnd (ok : X.Ok) (ev : Value) : (X.hnd ev).Ok :=
  ⟨ok.mod, ok.kind, ok.glob, ok.blt, ok.above, ok.inj, ok.has, ok.cab, fun h => (by cases h), ok.frames, ok.stk, ok.exf, ok.bs, ok.bsz, ok.noex, ok.exfs, ok.funs, ok.frf⟩
theorem Inv.hnd (I : Inv X pins σ H s) (ev : Value) : Inv (X.hnd ev) pins σ H s := ⟨I.ok.hnd ev, I.os, I.bare, I.base, I.loc, I.cell, I.free, I.freeC, I.pin, I.hok, I.len⟩
theorem Inv.unhnd (ok : X.Ok) (I : Inv (X.hnd ev) pins σ H s) : Inv X pins σ H s := ⟨ok, I.os, I.bare, I.base, I.loc, I.cell, I.free, I.freeC, I.pin, I.hok, I.len⟩
theorem SP.unhnd {D : Ends} {f : Flow} {s' : Shared} (ok : X.Ok) (h : SP (X.hnd ev) pins D f s') : SP X pins D f s' := by
  cases f with
  | next => obtain ⟨σ', H', I', q⟩ := h; exact ⟨σ', H', I'.unhnd ok, q⟩
  | brk => obtain ⟨σ', H', I', q⟩ := h; exact ⟨σ', H', I'.unhnd ok, q⟩
  | cont => obtain ⟨σ', H', I', q⟩ := h; exact ⟨σ', H', I'.unhnd ok, q⟩
  | ret v => obtain ⟨x, σ', H', I', r, q⟩ := h; exact ⟨x, σ', H', I'.unhnd ok, r, q⟩
theorem UpToSlots.isCell {h h' : Heap} {c : Addr} {v : Option Value} (sm : h.UpToSlots h') (x : h.IsCell c v) : h'.IsCell c v := by
  obtain ⟨o, e, d⟩ := x
  obtain ⟨sl, e2⟩ := sm c o e fun vs q => by rw [d] at q; cases q
  exact ⟨_, e2, d⟩
theorem Inv.moved {B h2 : Heap} (I1 : Inv X pins σ H1 s1) (I : Inv X pins σ H s) (hst : X.stack = X.env :: X.outer) (fr : X.env.frame = some X.env.locals) (hex : X.ex = []) (c : Cov X.stack s1.heap H B s.heap) (st : B.StaysIn h2) (sm : s.heap.UpToSlots h2)
    (ff : s.heap.FunFrames B X.stack) : Inv X pins σ H { s with heap := h2 } := by
  have fc := frs_cons hst fr
  have b0 : Un X.fs [] X.H₀ H X.s₀.heap s.heap := by have := I.base; rw [hex] at this; exact this
  have sub : ∀ b o, X.s₀.heap.get? b = some o → ∃ o', s1.heap.get? b = some o' := fun b o e => I1.base.there b o e (by rw [hex]; simp)
  have nL : ∀ b o, X.s₀.heap.get? b = some o → b ≠ X.env.locals := fun b o e z => absurd (Heap.lt_size e) (by rw [z]; exact Nat.not_lt.mpr I.ok.above)
  refine ⟨I.ok, I.os, I.bare, ?_, ?_, fun x cc e => ?_, I.free, I.freeC, fun p hp => ?_, I.hok.moved c st I.stkFree, I.len⟩
  · rw [hex]
    refine b0.moved c st sm ff sub (fun b hb => by rw [fc]; exact List.mem_cons_of_mem _ hb) fun b o e hb => ?_
    rw [fc] at hb
    rcases List.mem_cons.mp hb with z | z
    · exact absurd z (nL b o e)
    · exact z
  · obtain ⟨m, hn, hl⟩ := I.loc
    refine ⟨m, sm.ns hn, fun i x v a b cc => ?_⟩
    obtain ⟨u, r, lk⟩ := hl i x v a b cc
    refine ⟨u, r, ?_⟩
    rcases lk with z | ⟨z, cl, e, ic⟩
    · exact .inl z
    · exact .inr ⟨z, cl, e, UpToSlots.isCell sm ic⟩
  · obtain ⟨v, q⟩ := I.cell x cc e
    exact ⟨v, UpToSlots.isCell sm q⟩
  · obtain ⟨e, f, nl, nf, d⟩ := I.pin p hp
    refine ⟨c.stay st p.1 p.2 e (fun z => ?_) (.inr ⟨_, (I1.pin p hp).1⟩), f, nl, nf, d⟩
    rw [fc] at z
    rcases List.mem_cons.mp z with z | z
    · exact nl z
    · exact nf z
abbrev TX := St → Hp → VK → XK → Prop
def XP (X : Cx) (pins : List (Addr × Obj)) (σ : St) (E : XK) (ev : Value) (s' : Shared) : Prop := ∃ s1 H1 ea C H', Inv X pins σ H1 s1 ∧ ev = .ref ea ∧ Inv X pins σ H' s' ∧ Fly X.stack s1.heap H' ea C s'.heap ∧ E ev (some C) H'
def PEX (X : Cx) (e : Expr) (t : TX) : Prop :=
  ∀ (pins : List (Addr × Obj)) (s : Shared) (σ : St) (H : Hp) (Q : VK) (E : XK), Inv X pins σ H s → t σ H Q E → wpAny (model X.prog X.w) X.A (eval e X.env) (EP X pins σ Q) (XP X pins σ E) s
def xCall (sp : Sp) (dvs : List V) (t : TA) : TX := fun σ H Q E => t σ H fun vs H1 => sp (vs ++ dvs) H1 Q E
end
section
variable {X : Cx} {k : Nat} {f C : Addr} {fd : FuncData} {ps : List Str} {sp : Sp} {dvs : List V} {ds : List Value} {x : Str} {p pos : Pos} {e : Expr} {es : List Expr} {t : TA}
theorem run_fnX {pins : List (Addr × Obj)} {σ : St} {H : Hp} {s : Shared} {Q : VK} {E : XK} {us : List Value} {vs : List V} (hcq : X.calm = true) (F : FnOk X.prog X.w X.K X.mg X.base (CXE X.prog X.w) k f fd ps sp) (hr : Room k X.A) (hb : Binds X.K fd ps ds) (hd : Vals dvs ds)
    (I : Inv X pins σ H s) (r : Vals vs us) (h : sp (vs ++ dvs) H Q E) : wpAny (model X.prog X.w) X.A (call (.ref f) us) (EP X pins σ Q) (XP X pins σ E) s := by
  have r2 : Vals (vs ++ dvs) (us ++ ds) := r.append hd
  have hl : (us ++ ds).length = ps.length := by rw [← r2.length]; exact F.len _ _ _ _ h
  refine wpAny_call (codeAny_mono (F.run X.A X.stack s H ⟨us, []⟩ (us ++ ds) (vs ++ dvs) Q E hr (I.env0 (I.ok.hd hcq)) (hb s us I.kIn hl) r2 h) fun r s' hq => ?_)
  cases r with
  | error e =>
    obtain ⟨ea, C, H', e1, I', fl, q⟩ := I.came hq
    exact ⟨s, H, ea, C, H', I, e1, I', fl, q⟩
  | ok fl =>
    cases fl with
    | ret u => exact I.after hq
    | next => exact False.elim hq
    | brk => exact False.elim hq
    | cont => exact False.elim hq
theorem pex_call (F : FnOk X.prog X.w X.K X.mg X.base (CXE X.prog X.w) k f fd ps sp) (hr : Room k X.A) (hg : Gl X x) (hm : X.mg x = some (.ref f)) (hk : PySem.W.keepIn X.K (.ref f) = true) (hb : Binds X.K fd ps ds) (hd : Vals dvs ds)
    (ha : PA X.nox (e :: es) t) (hdb : (x == ("__debug__" : Str)) = false := by decide) (he : starEach (e :: es) X.env = (false, eval e X.env) :: starEach es X.env := by rfl) (hpl : (backTo pos (starEach es X.env)).any (·.1) = false := by rfl) (hcq : X.calm = true := by rfl) :
    PEX X (.Call (.Name x p) (e :: es) [] pos) (xCall sp dvs t) := by
  intro pins s σ H Q E I h
  refine wpAny_Call_Name_kw (ld_glob I hg hm ?_ hdb)
  refine PySem.W.callWith_K (h₀ := X.base) I.ok.mod.kin hk (nox (ha pos pins s σ H _ (I.wish _) h) fun us s1 ⟨vs, H1, I1, r, q⟩ => ⟨I1.unwish.kIn, ?_⟩) he hpl
  exact run_fnX hcq F hr hb hd I1.unwish r q
end
section
variable {X : Cx} {e : Expr} {t : TX} {C CB : Addr} {cx y : Str} {np hpos pos py apos : Pos} {b₀ : Stmt} {suite : List Stmt} {th : TS} {j : Nat}
end
end L2
namespace L2
open PySem PySem.Spec PyProof.Rows PySem.Builtin PySem.Builtin.ObjectAttr PySem.Builtin.Getset_descriptor
section
variable {prog : Program} {w : World} {A : Around} {E : Value → Shared → Prop} {s : Shared} {K : PySem.W.Frag} {x D : Addr} {ox : Obj}
structure ExcK (K : PySem.W.Frag) (D : Addr) : Prop where
  ga : PySem.W.findIn K (.ref D) "__getattribute__" = some (some (.builtin "BaseException.__getattribute__"))
  gh : PySem.W.findIn K (.ref D) "__getattr__" = some none
  ha : PySem.W.findIn K (.ref D) "__class__" = some (some (.builtin "object.__class__"))
  hn : PySem.W.specialIn K (.builtin "object.__class__") "__get__" = some (some (.builtin "getset_descriptor.__get__"))
  htk : PySem.W.takesIn K (.builtin "object.__class__") = some true
  hm : PySem.W.mroIn K D (.type "object") = some true
  hb : PySem.W.mroIn K D (.type "BaseException") = some true
theorem find_data (Y : ExcK K D) (X : K.In s.heap) {M : Model} : PySem.W.Looks M s.heap (find (.ref x) (.ref D) "__class__") (.bind (.builtin "getset_descriptor.__get__") (.builtin "object.__class__")) := by
  have L1 := PySem.W.looks_findIn (M := M) X Y.ha
  have L2 : PySem.W.Looks M s.heap (getOf (some (.builtin "object.__class__"))) (some (.builtin "getset_descriptor.__get__")) := PySem.W.looks_specialIn X Y.hn
  refine L1.andThen (L2.andThen ?_)
  have L3 := PySem.W.looks_takesIn (M := M) X Y.htk
  exact (show PySem.W.Looks M s.heap (dataDescriptor? (some (.builtin "object.__class__")) (some (.builtin "getset_descriptor.__get__"))) (some (.builtin "getset_descriptor.__get__", .builtin "object.__class__")) from L3.andThen .now).andThen (PySem.W.Looks.tag .now)
theorem exc_type (hx : s.heap.get? x = some ox) (hc : ox.cls = .ref D) {M : Model} : PySem.W.Looks M s.heap (typeOf (.ref x)) (.ref D) := hc ▸ (PySem.W.Looks.ld hx).andThen .now
theorem exc_class_get (Y : ExcK K D) {R : Result → Shared → Prop} {tp : Value} (X : K.In s.heap) (hx : s.heap.get? x = some ox) (hc : ox.cls = .ref D)
    (h : R (.ok (.ret (.ref D))) s) : codeAny (model prog w) A (.call (.builtin "getset_descriptor.__get__") ⟨[.builtin "object.__class__", .ref x, tp], []⟩) R s := by
  have L0 := exc_type (M := model prog w) hx hc
  obtain ⟨hh, g, dr, t, os⟩ := s
  have L1 := PySem.W.looks_mroIn (M := model prog w) X Y.hm
  refine codeAny_call_builtin PySem.W.KF.slot_gs.plain PySem.W.KF.entry_gs (PySem.W.KF.slot_gs.check _ _ _ _ _ _ _ _ PySem.W.KF.type_class (PySem.W.KF.args_gs _ _ _) ?_)
  unfold Builtin.«getset_descriptor.__get__» descrGet
  rw [PySem.W.dga_obj]
  refine wpAny_bind (wpAny_pure ?_)
  unfold descrGetter descrCheckInstance descrNameAndClass isInstance
  simp only [PySem.W.KF.owner_class]
  repeat lk
  refine ⟨Code.quiet_builtin _ (by decide +kernel), codeAny_builtin PySem.W.KF.entry_class ?_⟩
  unfold Builtin.«object.__class__» shownTypeOf
  repeat lk
  exact h
theorem exc_ga_entry (Y : ExcK K D) {tk : Tok} {Q : Fin → Shared → Prop} (X : K.In s.heap) (hx : s.heap.get? x = some ox) (hc : ox.cls = .ref D)
    (h : Q (.done (.ret (.ref D))) s) :
    wpAny (model prog w) A (Builtin.«object.__getattribute__» ⟨[.ref x, .str "__class__" tk], []⟩) Q E s := by
  have L0 := exc_type (M := model prog w) hx hc
  have L1 := find_data (x := x) (M := model prog w) Y X
  obtain ⟨hh, g, dr, t, os⟩ := s
  unfold Builtin.«object.__getattribute__»
  repeat (first | with_reducible refine PySem.W.Looks.at (by assumption) ?_ | with_reducible refine wpAny_bind ?_ | with_reducible refine wpAny_holding ?_ | with_reducible refine wpAny_call ?_ | with_reducible refine wpAny_runValue ?_ | lk)
  refine exc_class_get (s := ⟨hh, g, dr, t, os⟩) Y X hx hc ?_
  repeat (any_goals (first | assumption | wp_step))
theorem exc_ga_check (Y : ExcK K D) {M : Model} {nameV : Value} {Q : Unit → Shared → Prop} (X : K.In s.heap) (hx : s.heap.get? x = some ox) (hc : ox.cls = .ref D) (hq : Q () s) : wpAny M A (checkBuiltinCall "BaseException.__getattribute__" ⟨[.ref x, nameV], []⟩) Q E s := by
  have hk : builtinKind "BaseException.__getattribute__" = some .slot := by decide +kernel
  have hsplit : splitId "BaseException.__getattribute__" = some ("BaseException", "__getattribute__") := by decide +kernel
  have ha := F.args_bexc_ga (.ref x) nameV
  have L0 := exc_type (M := M) hx hc
  have L1 := PySem.W.looks_mroIn (M := M) X Y.hb
  obtain ⟨hh, g, dr, t, os⟩ := s
  simp only [checkBuiltinCall, hk, hsplit]
  refine wpAny_bind ?_
  · unfold isInstance
    refine wpAny_bind (L0.at (L1.at ?_))
    repeat (first | exact hq | wp_step)
theorem exc_class (Y : ExcK K D) {Q : Option Value → Shared → Prop} (X : K.In s.heap) (hx : s.heap.get? x = some ox) (hc : ox.cls = .ref D) (h : Q (some (.ref D)) { s with toks := s.toks + 1 }) : wpAny (model prog w) A (getAttr? (.ref x) "__class__") Q E s := by
  have L0 := exc_type (M := model prog w) hx hc
  have L1 := PySem.W.looks_findIn (M := model prog w) X Y.ga
  have L2 := PySem.W.looks_findIn (M := model prog w) X Y.gh
  obtain ⟨hh, g, d, t, os⟩ := s
  have f3 := F.excAttr_ValueError.ga.bind (.ref x)
  have hx2 : (Value.builtin "BaseException.__getattribute__" == Value.builtin "object.__getattribute__") = false := by decide +kernel
  have hx1 : (onTheHeap (Value.ref D) && Value.builtin "BaseException.__getattribute__" == Value.builtin "object.__getattribute__") = false := by rw [hx2]; rfl
  unfold getAttr? getAttrBy? getAttrBy
  refine wpAny_bind (wpAny_mkText (wpAny_bind (wpAny_attempt (wpAny_holding (wpAny_bind (L0.at (wpAny_bind (L1.at ?_))))))))
  dsimp only
  rw [if_neg (by rw [hx1]; decide)]
  unfold getAttrByItsOwn hookBefore
  refine wpAny_bind ?_
  rw [if_pos (show onTheHeap (Value.ref D) = true from rfl)]
  refine L2.at (wpAny_bind (wpAny_attempt ?_))
  refine wpAny_holding ?_
  unfold callGetattribute boundAndCalled
  rw [if_neg (by decide), f3]
  refine wpAny_bind (wpAny_pure (wpAny_call (codeAny_call_builtin F.excAttr_ValueError.ga.plain F.entry_bexc_ga (exc_ga_check (s := ⟨hh, g, d, t + 1, os⟩) Y X hx hc (exc_ga_entry (s := ⟨hh, g, d, t + 1, os⟩) Y X hx hc ?_)))))
  repeat (any_goals (first | exact h | wp_step))
end
end L2
namespace L2
open PySem PySem.Spec PyProof.Rows
section
variable {K : PySem.W.Frag} {x D : Addr}
theorem kitx_exc (Y : ExcK K D) : PySem.W.KitX K (.ref x) (.ref D) (fun h => ∃ o, h.get? x = some o ∧ o.cls = .ref D) where
  ty := fun _ h _ ⟨o, h1, h2⟩ => h2 ▸ (PySem.W.Looks.ld h1).andThen .now
  it := fun _ _ X _ => by
    obtain ⟨cdD, hcD, _⟩ := Option.bind_eq_some_iff.mp Y.hm
    unfold PySem.W.clsIn at hcD
    split at hcD
    · rename_i c' d' cd' sl' ho
      intro A' Q' E' s' k q
      unfold isType loadHead
      exact wpAny_bind (wpAny_loadPart (k _ _ (X _ _ ho)) (wpAny_pure q))
    · cases hcD
  ne := fun h tp dd its n sl X htp => by
    obtain ⟨cdD, hcD, _⟩ := Option.bind_eq_some_iff.mp Y.hm
    refine Bool.eq_false_iff.mpr fun q => ?_
    have e : D = tp := Value.ref.inj (beq_iff_eq.mp q)
    subst e
    unfold PySem.W.clsIn at hcD
    split at hcD
    · rename_i c' d' cd' sl' ho
      have z := (X _ _ ho).symm.trans htp
      cases z
    · cases hcD
  ca := fun X ⟨o, h1, h2⟩ k => exc_class Y X h1 h2 k
end
section
variable {X : Cx}
end
section
variable {X : Cx} {pins : List (Addr × Obj)} {σ : St} {H H1 : Hp} {s s1 : Shared} {ev : Value}
theorem goes_ok {M : Model} {A : Around} {E : Value → Shared → Prop} {i : Nat} {x : Str} {pos : Pos} {Q : Unit → Shared → Prop} (I : Inv X pins σ H s) (hN : X.N.Nodup) (hi : X.N[i]? = some x) (hk : X.env.scope.names.lookup x = some .local)
    (h : ∀ s', Inv X pins (σ.set i none) H s' → Q () s') : wpAny M A (do bindName X.env x .none; unbindBehindTheSuite X.env x pos) Q E s := by
  obtain ⟨m, hn, hl⟩ := id I.loc
  have hcls : (X.env.scope.kind == .class || (X.env.scope.kind == .module && X.env.locals != X.env.globals)) = false := by rw [I.ok.kind]; rfl
  have hiσ : i < σ.length := by rw [I.len]; exact (List.getElem?_eq_some_iff.mp hi).1
  have cne := I.cne
  have tracked : ∀ {a : Addr} {h' : Heap}, (∃ o, s.heap.get? a = some o ∧ H a = none) → Heap.SameBut a s.heap h' → HOk X.prog X.w H h' := fun {a h'} ha hs b ob e => by
    obtain ⟨_, _, hfree⟩ := ha
    refine (I.hok b ob e).stay (fun c w' hc q => (hs.2 c ?_).trans q) (fun _ q => q) fun _ _ q => q
    rintro rfl
    rcases hc with rfl | hc
    · rw [hfree] at e; cases e
    · rw [hfree] at hc; cases hc
  refine wpAny_nameGoes_keeps hk hn hcls fun h' v0 hn' hs => ?_
  obtain ⟨oL, _, _, hoL, _⟩ := id hn
  refine h _ ⟨I.ok, I.os, I.bare, ⟨fun b o e n hb hx => ?_, fun b o e n hb hx => ?_, I.base.free, fun b o e hx => ?_, I.base.tups, I.base.frzs, I.base.tbls⟩, ⟨_, hn', fun j y v' e1 e2 e3 => ?_⟩, fun y c e => ?_, I.free, I.freeC, fun p hp => ?_, tracked ⟨oL, hoL, I.free⟩ hs, by simpa using I.len⟩
  · exact (hs.2 b (Nat.ne_of_lt (Nat.lt_of_lt_of_le (Heap.lt_size e) I.ok.above))).trans (I.base.keep b o e n hb hx)
  · obtain ⟨sl, e1⟩ := I.base.slot b o e n hb hx
    exact ⟨sl, (hs.2 b (Nat.ne_of_lt (Nat.lt_of_lt_of_le (Heap.lt_size e) I.ok.above))).trans e1⟩
  · obtain ⟨o', e1⟩ := I.base.there b o e hx
    exact ⟨o', (hs.2 b (Nat.ne_of_lt (Nat.lt_of_lt_of_le (Heap.lt_size e) I.ok.above))).trans e1⟩
  · by_cases hj : j = i
    · subst hj
      rw [List.getElem?_set_self hiσ] at e2
      cases e2
    · rw [List.getElem?_set_ne (Ne.symm hj)] at e2
      obtain ⟨u', r', q⟩ := hl j y v' e1 e2 e3
      refine ⟨u', r', ?_⟩
      rcases q with ⟨k, e⟩ | ⟨k, c, e, z⟩
      · refine .inl ⟨k, ?_⟩
        have : y ≠ x := fun e => hj (nodup_ix hN e1 (e ▸ hi))
        simp [this, e]
      · exact .inr ⟨k, c, e, z.sameBut hs (cne y c e)⟩
  · obtain ⟨w', z⟩ := I.cell y c e
    exact ⟨w', z.sameBut hs (cne y c e)⟩
  · obtain ⟨e, n, ne, nf, d⟩ := I.pin p hp
    exact ⟨(hs.2 p.1 ne).trans e, n, ne, nf, d⟩
def Ends.gone (D : Ends) (i : Nat) : Ends := ⟨fun σ H => D.nx (σ.set i none) H, D.rt, fun σ H => D.bk (σ.set i none) H, fun σ H => D.ct (σ.set i none) H⟩
end
section
variable {X : Cx} {e : Expr} {t : TX} {C CB : Addr} {cx n : Str} {np hpos pos epos : Pos} {b₀ : Stmt} {suite : List Stmt} {th : Addr → TS} {i : Nat}
end
end L2
namespace L2
open PySem PySem.Spec PyProof.Rows
section
variable {P : Program} {w : World} {K : PySem.W.Frag} {H : Hp} {h : Heap} {a b : Addr} {xs ys : List V}
theorem sqL_raw (hok : HOk P w H h) (kin : K.In h) (q : SqL K H a xs) : ∃ its : List Value, Vals xs its ∧ PlainL h a its.toArray ∧ xs.length ≤ sizeLine := by
  rcases q with q | ⟨o, its, n, hk, hc, hd, hs, hz, r⟩
  · obtain ⟨z, its, n, r, e⟩ := q.ok hok
    exact ⟨its, r, ⟨_, n, e, rfl, rfl, rfl⟩, z⟩
  · refine ⟨its.toList, r, ⟨o, n, kin a o hk, hc, hd, by simpa using hs⟩, ?_⟩
    have e := r.length
    simp only [Array.length_toList] at e
    omega
def TSame (H H' : Hp) : Prop := ∀ b xs, H b = some (.tup xs) → H' b = some (.tup xs)
end
def EqIs (K : PySem.W.Frag) (n : Nat) (H : Hp) (x y : V) (b : Bool) : Prop :=
  ∀ (P : Program) (w : World) (A : Around) (s : Shared) (u v : Value), A.units + n < cLine → HOk P w H s.heap → K.In s.heap → RelV x u → RelV y v → SeqAt.EqAt A s u v b
def RcIs (K : PySem.W.Frag) (n : Nat) (H : Hp) (x y : V) (b : Bool) : Prop :=
  ∀ (P : Program) (w : World) (A : Around) (s : Shared) (u v : Value), A.units + n < cLine → HOk P w H s.heap → K.In s.heap → RelV x u → RelV y v → SeqAt.RcAt A s u v b
def NeIs (K : PySem.W.Frag) (n : Nat) (H : Hp) (x y : V) (b : Bool) : Prop :=
  ∀ (P : Program) (w : World) (A : Around) (s : Shared) (u v : Value), A.units + n < cLine → HOk P w H s.heap → K.In s.heap → RelV x u → RelV y v → SeqAt.RcNeAt A s u v (!b)
section
variable {K : PySem.W.Frag} {H : Hp} {a b : Addr} {n m : Nat} {x y : V} {r : Bool}
end
structure Cod (α : Type) [DecidableEq α] where
  n : Nat
  rp : PySem.W.Frag → Hp → α → V → Prop
  inj : ∀ {P : Program} {w : World} {K : PySem.W.Frag} {H : Hp} {h : Heap} {x y : α} {v : V}, HOk P w H h → K.In h → rp K H x v → rp K H y v → x = y
  eq : ∀ {K : PySem.W.Frag} {H : Hp} {x y : α} {u v : V}, rp K H x u → rp K H y v → EqIs K n H u v (decide (x = y))
  rc : ∀ {K : PySem.W.Frag} {H : Hp} {x y : α} {u v : V}, rp K H x u → rp K H y v → RcIs K n H u v (decide (x = y))
  ne : ∀ {K : PySem.W.Frag} {H : Hp} {x y : α} {u v : V}, rp K H x u → rp K H y v → NeIs K n H u v (decide (x = y))
  keep : ∀ {K : PySem.W.Frag} {H H' : Hp} {x : α} {v : V}, TSame H H' → rp K H x v → rp K H' x v
theorem str_beq_dec (x y : Str) : decide (x = y) = (x == y) := by
  rw [Bool.eq_iff_iff]
  simp
def cStr : Cod Str where
  n := 0
  rp _ _ i v := v = .str i
  inj _ _ h1 h2 := by
    rw [h1] at h2
    exact V.str.inj h2
  eq h1 h2 := by
    intro P w A s u v _ _ _ r1 r2
    subst h1 h2
    obtain ⟨t, rfl⟩ := r1
    obtain ⟨t', rfl⟩ := r2
    rw [str_beq_dec]
    exact SeqAt.EqAt.str_str _ t _ t'
  rc h1 h2 := by
    intro P w A s u v _ _ _ r1 r2
    subst h1 h2
    obtain ⟨t, rfl⟩ := r1
    obtain ⟨t', rfl⟩ := r2
    rw [str_beq_dec]
    exact SeqAt.RcAt.str_str _ t _ t'
  ne h1 h2 := by
    intro P w A s u v _ _ _ r1 r2
    subst h1 h2
    obtain ⟨t, rfl⟩ := r1
    obtain ⟨t', rfl⟩ := r2
    rw [str_beq_dec]
    exact SeqAt.RcNeAt.str_str _ t _ t'
  keep _ h := h
section
variable {α β γ : Type} [DecidableEq α] [DecidableEq β] [DecidableEq γ]
end
section
variable {α : Type} [DecidableEq α] {K : PySem.W.Frag} {H : Hp}
theorem _root_.PySem.Paired.get {β γ : Type} {R : β → γ → Prop} : ∀ {xs : List β} {us : List γ}, Paired R xs us → ∀ {j : Nat} {u : γ}, us[j]? = some u → ∃ x, xs[j]? = some x ∧ R x u
  | _, _, .nil, j, u, e => by simp at e
  | _, _, .cons r t, 0, u, e => by simp at e; subst e; exact ⟨_, rfl, r⟩
  | _, _, .cons r t, j + 1, u, e => PySem.Paired.get t (j := j) (by simpa using e)
theorem _root_.PySem.Paired.len {β γ : Type} {R : β → γ → Prop} : ∀ {xs : List β} {us : List γ}, Paired R xs us → xs.length = us.length
  | _, _, .nil => rfl
  | _, _, .cons r t => by simp [PySem.Paired.len t]
theorem _root_.PySem.Paired.app {β γ : Type} {R : β → γ → Prop} : ∀ {xs ys : List β} {us vs : List γ}, Paired R xs us → Paired R ys vs → Paired R (xs ++ ys) (us ++ vs)
  | _, _, _, _, .nil, s => s
  | _, _, _, _, .cons r t, s => .cons r (PySem.Paired.app t s)
theorem range_all_eq {xs ys : List α} {n : Nat} (h1 : xs.length = n) (h2 : ys.length = n) : ((List.range n).all fun j => decide (xs[j]? = ys[j]?)) = decide (xs = ys) := by
  rw [Bool.eq_iff_iff, List.all_eq_true, decide_eq_true_eq]
  constructor
  · intro h
    apply List.ext_getElem?
    intro i
    by_cases hi : i < n
    · exact of_decide_eq_true (h i (List.mem_range.mpr hi))
    · rw [List.getElem?_eq_none (by omega), List.getElem?_eq_none (by omega)]
  · intro h i _
    rw [h]
    exact decide_eq_true rfl
theorem listRc {c : Cod α} {a b : Addr} {us vs : List V} {xs ys : List α} (ha : SqL K H a us) (hb : SqL K H b vs) (px : Paired (c.rp K H) xs us) (py : Paired (c.rp K H) ys vs) :
    RcIs K (c.n + 1) H (.ref a) (.ref b) (decide (xs = ys)) ∧ NeIs K (c.n + 1) H (.ref a) (.ref b) (decide (xs = ys)) := by
  have main : ∀ (P : Program) (w : World) (A : Around) (s : Shared) (u v : Value), A.units + (c.n + 1) < cLine → HOk P w H s.heap → K.In s.heap → RelV (.ref a) u → RelV (.ref b) v →
      SeqAt.RcAt A s u v (decide (xs = ys)) ∧ SeqAt.RcNeAt A s u v (!decide (xs = ys)) := by
    intro P w A s u v hA hok kin r1 r2
    cases r1
    cases r2
    obtain ⟨i1, v1, p1, _⟩ := sqL_raw hok kin ha
    obtain ⟨i2, v2, p2, _⟩ := sqL_raw hok kin hb
    have l1 := v1.length
    have l2 := v2.length
    have m1 := px.len
    have m2 := py.len
    by_cases hl : i1.length = i2.length
    · have items : ∀ j (h1 : j < i1.toArray.size) (h2 : j < i2.toArray.size), SeqAt.EqAt A.in1 s i1.toArray[j] i2.toArray[j] (decide (xs[j]? = ys[j]?)) := fun j h1 h2 => by
        have h1' : j < i1.length := by simpa using h1
        have h2' : j < i2.length := by simpa using h2
        have e1 : us[j]? = some us[j] := List.getElem?_eq_getElem (by omega)
        have e2 : vs[j]? = some vs[j] := List.getElem?_eq_getElem (by omega)
        obtain ⟨u, eu, ru⟩ := v1.get e1
        obtain ⟨v, ev, rv⟩ := v2.get e2
        obtain ⟨x, ex, rx⟩ := px.get e1
        obtain ⟨y, ey, ry⟩ := py.get e2
        have q := c.eq rx ry P w A.in1 s u v (by show A.units + 1 + c.n < cLine; omega) hok kin ru rv
        have z1 : i1.toArray[j] = u := by
          rw [List.getElem?_eq_getElem h1'] at eu
          simpa using Option.some.inj eu
        have z2 : i2.toArray[j] = v := by
          rw [List.getElem?_eq_getElem h2'] at ev
          simpa using Option.some.inj ev
        rw [z1, z2, ex, ey]
        have e : decide ((some x : Option α) = some y) = decide (x = y) := decide_eq_decide.mpr ⟨fun z => Option.some.inj z, fun z => by rw [z]⟩
        rw [e]
        exact q
      have ez : (List.range i1.toArray.size).all (fun j => decide (xs[j]? = ys[j]?)) = decide (xs = ys) := range_all_eq (by rw [List.size_toArray]; omega) (by rw [List.size_toArray]; omega)
      constructor
      · have q := SeqAt.RcAt.lists (A := A) (s := s) p1.isList p2.isList (by simpa using hl) (by omega) items
        rw [ez] at q
        exact q
      · have q := SeqAt.RcNeAt.lists (A := A) (s := s) p1.isList p2.isList (by simpa using hl) (by omega) items
        rw [ez] at q
        exact q
    · have hsz : (i1.toArray.size != i2.toArray.size) = true := by simpa using hl
      have e : decide (xs = ys) = false := decide_eq_false fun z => hl (by rw [← l1, ← l2, ← m1, ← m2, z])
      rw [e]
      exact ⟨SeqAt.RcAt.lists_lengths p1.isList p2.isList hsz (by omega), SeqAt.RcNeAt.lists_lengths p1.isList p2.isList hsz (by omega)⟩
  exact ⟨fun P w A s u v h1 h2 h3 h4 h5 => (main P w A s u v h1 h2 h3 h4 h5).1, fun P w A s u v h1 h2 h3 h4 h5 => (main P w A s u v h1 h2 h3 h4 h5).2⟩
end
section
variable {X : Cx} {α : Type} [DecidableEq α]
theorem hun {c : Nat} {k : Nat} {A : Around} (hr : Room k A) (h : c ≤ 60 := by decide) : A.units + c + 1 < cLine := by
  have := hr.units
  omega
def LsOf (c : Cod α) (K : PySem.W.Frag) (H : Hp) (xs : List α) (v : V) : Prop := ∃ a us, v = .ref a ∧ SqL K H a us ∧ Paired (c.rp K H) xs us
theorem op_eqL (c : Cod α) (hu : X.A.units + c.n + 1 < cLine) : OpR X (compareOp .Eq) (fun x y H Q => ∃ xs ys, LsOf c X.K H xs x ∧ LsOf c X.K H ys y ∧ Q (.bl (decide (xs = ys))) H) := by
  intro pins s σ H x y v u Q I rx ry h
  obtain ⟨xs, ys, ⟨a, us, rfl, ha, px⟩, ⟨b, vs, rfl, hb, py⟩, q⟩ := h
  exact (listRc ha hb px py).1 X.prog X.w X.A s v u (by omega) I.hok I.kIn rx ry X.prog X.w X.xe _ ⟨.bl _, H, I, rfl, q⟩
noncomputable def eqR (c : Cod α) (K : PySem.W.Frag) (H : Hp) (a : α) (u : Value) : Bool := @decide (∃ v, RelV v u ∧ c.rp K H a v) (Classical.propDecidable _)
theorem eqR_of {c : Cod α} {P : Program} {w : World} {K : PySem.W.Frag} {H : Hp} {h : Heap} {a z : α} {v : V} {u : Value} (hok : HOk P w H h) (kin : K.In h) (r : RelV v u) (q : c.rp K H z v) : eqR c K H a u = decide (z = a) := by
  unfold eqR
  by_cases e : z = a
  · subst e
    rw [decide_eq_true (show z = z from rfl)]
    exact @decide_eq_true _ (Classical.propDecidable _) ⟨v, r, q⟩
  · rw [decide_eq_false e]
    refine @decide_eq_false _ (Classical.propDecidable _) fun ⟨v', r', q'⟩ => e ?_
    have := r.inj r'
    subst this
    exact c.inj hok kin q q'
theorem any_eqR {c : Cod α} {P : Program} {w : World} {K : PySem.W.Frag} {H : Hp} {h : Heap} {a : α} (hok : HOk P w H h) (kin : K.In h) : ∀ {xs : List α} {us : List V} {its : List Value}, Paired (c.rp K H) xs us → Vals us its → its.any (eqR c K H a) = decide (a ∈ xs)
  | _, _, _, .nil, .nil => by simp
  | x :: xs, _, _, .cons p t, .cons r s => by
    rw [List.any_cons, eqR_of hok kin r p, any_eqR hok kin t s, Bool.eq_iff_iff]
    simp only [Bool.or_eq_true, decide_eq_true_eq, List.mem_cons]
    exact ⟨fun z => z.elim (fun e => .inl e.symm) .inr, fun z => z.elim (fun e => .inl e.symm) .inr⟩
theorem mem_eqR {c : Cod α} {P : Program} {w : World} {A : Around} {s : Shared} {K : PySem.W.Frag} {H : Hp} {a : α} {x : V} {v : Value} (hok : HOk P w H s.heap) (kin : K.In s.heap) (hA : A.units + c.n < cLine) (rx : RelV x v) (qx : c.rp K H a x) :
    ∀ {xs : List α} {us : List V} {its : List Value}, Paired (c.rp K H) xs us → Vals us its → ∀ u ∈ its, SeqAt.EqAt A s u v (eqR c K H a u)
  | _, _, _, .nil, .nil => fun u hu => by cases hu
  | _, _, _, .cons p t, .cons r q => fun u' hu => by
    rcases List.mem_cons.mp hu with rfl | hu
    · rw [eqR_of hok kin r p]
      exact c.eq p qx P w A s _ v hA hok kin r rx
    · exact mem_eqR hok kin hA rx qx t q u' hu
def rNinC (c : Cod α) (K : PySem.W.Frag) : R2 := fun x y H Q => ∃ a p us xs, c.rp K H a x ∧ y = .ref p ∧ (SqL K H p us ∨ SqT K H p us) ∧ Paired (c.rp K H) xs us ∧ Q (.bl (!decide (a ∈ xs))) H
theorem op_notinC (c : Cod α) (hu : X.A.units + c.n + 1 < cLine) : OpR X (compareOp .NotIn) (rNinC c X.K) := by
  intro pins s σ H x y v u Q I rx ry h
  obtain ⟨a, p, us, xs, ha, rfl, hq, px, q⟩ := h
  cases ry
  rcases hq with hq | hq
  · obtain ⟨its, r, pl, hz⟩ := I.list hq
    refine SeqAt.notIn_listAt (eqR c X.K H a) pl.isList (fun w hw => mem_eqR I.hok I.kIn (by show X.A.units + 1 + c.n < cLine; omega) rx ha px r w (by simpa using hw)) ⟨.bl _, H, I, rfl, ?_⟩
    rw [show its.toArray.any (eqR c X.K H a) = its.any (eqR c X.K H a) by simp, any_eqR I.hok I.kIn px r]
    exact q
  · obtain ⟨its, r, pl, hz⟩ := I.tuple hq
    refine SeqAt.notIn_tupleAt (eqR c X.K H a) pl (fun w hw => mem_eqR I.hok I.kIn (by show X.A.units + 1 + c.n < cLine; omega) rx ha px r w (by simpa using hw)) ⟨.bl _, H, I, rfl, ?_⟩
    rw [show its.toArray.any (eqR c X.K H a) = its.any (eqR c X.K H a) by simp, any_eqR I.hok I.kIn px r]
    exact q
end
end L2
namespace L2
open PySem PySem.Spec PyProof.Rows
section
variable {prog : Program} {w : World} {A : Around} {R : Result → Shared → Prop} {s : Shared}
end
section
variable {X : Cx} {N' : List Str} {scope : Scope} {mm : Nat} {fv : List Nat}
end
end L2
namespace L2
open PySem PySem.Spec PyProof.Rows
section
variable {X : Cx}
def datL : KTD.Dat → Value → Bool
  | .flat d, v => KTD.flatLooks d v
  | _, _ => false
theorem datL_at {h : Heap} : ∀ (d : KTD.Dat) (v : Value), datL d v = true → d.At h v
  | .flat d, v, e => KTD.flat_of_looks (d := d) e
  | .float _, _, e => by cases e
  | .nums _, _, e => by cases e
  | .words _, _, e => by cases e
  | .tup _, _, e => by cases e
  | .tab _, _, e => by cases e
def TabK (K : PySem.W.Frag) (a : Addr) (D : List (Str × KTD.Dat)) : Prop := KTD.tabLook datL (fun b => K.lookup b) a D = true
theorem TabK.at {K : PySem.W.Frag} {a : Addr} {D : List (Str × KTD.Dat)} {h : Heap} (t : TabK K a D) (kin : K.In h) : KTD.TextTab h a D := KTD.tab_of_look datL_at (fun a o e => kin a o e) t
end
section
variable {X : Cx} {α : Type} [DecidableEq α]
end
structure GF (P : Program) (w : World) (K : PySem.W.Frag) (mg : Str → Option Value) (base : Heap) (CX : CXT) (k : Nat) (x : Str) (ps : List Str) (sp : Sp) where
  f : Addr
  fd : FuncData
  ok : FnOk P w K mg base CX k f fd ps sp
  bd : Binds K fd ps []
  kp : PySem.W.keepIn K (.ref f) = true
  mgx : mg x = some (.ref f)
structure GM (P : Program) (w : World) (K : PySem.W.Frag) (mg : Str → Option Value) (base : Heap) (CX : CXT) (k : Nat) (C : Addr) (m : Str) (ps : List Str) (sp : Sp) where
  f : Addr
  fd : FuncData
  ok : FnOk P w K mg base CX k f fd ps sp
  bd : Binds K fd ps []
  me : Meth K C m f
section
variable {X : Cx} {CX : CXT} {j k : Nat} {x m : Str} {ps : List Str} {sp : Sp} {E : XK} {p pos apos : Pos} {e o : Expr} {es : List Expr} {t : TA} {ta : TE} {C : Addr}
theorem pc (G : GF X.prog X.w X.K X.mg X.base CX j x ps sp) (hr : Room k X.A) (ha : PA X (e :: es) t) (hx : Passes CX X E := by exact pass0) (hk : j ≤ k := by decide) (hg : Gl X x := by rfl)
    (hdb : (x == ("__debug__" : Str)) = false := by decide) (he : starEach (e :: es) X.env = (false, eval e X.env) :: starEach es X.env := by rfl) (hpl : (backTo pos (starEach es X.env)).any (·.1) = false := by rfl) (hcq : X.calm = true := by rfl) :
    PE X (.Call (.Name x p) (e :: es) [] pos) (tCall sp [] E t) := pe_call G.ok (hr.mono hk) hg G.mgx G.kp G.bd .nil hx ha hdb he hpl hcq
theorem pm0 {pl : Sem Bool} (G : GM X.prog X.w X.K X.mg X.base CX j C m ps sp) (ho : PE X o ta) (cl : Cls X.K C) (hr : Room k X.A) (hx : Passes CX X E := by exact pass0) (hk : j ≤ k := by decide)
    (ht : eval (.Call (.Attribute o m apos) [] [] pos) X.env = (do
      let ov ← eval o X.env
      standAt apos.atName
      let (f, first) ← holding [ov] (getMethod ov m pl)
      callWith pos f first (backTo pos (starEach [] X.env)) (backToKw pos (keywordEach [] X.env))) := by rfl) (hcq : X.calm = true := by rfl) :
    PE X (.Call (.Attribute o m apos) [] [] pos) (tMeth C m sp [] E ta tNil) := pe_meth0 ho cl G.me G.ok (hr.mono hk) G.bd .nil hx ht hcq
end
end L2
set_option maxHeartbeats 1000000
namespace L2
open PySem PySem.Spec PyProof.Rows
section
variable {K : PySem.W.Frag} {a : Addr} {xs : List V} {tt : TT} {te : TE} {bl : St} {Fin : List V → Hp → Prop} {H : Hp}
theorem lc_list (Pv : Nat → List V → Hp → Prop) (h0 : Pv 0 [] H) (hn : xs.length ≤ sizeLine) (hl : ∀ i ys H, i ≤ xs.length → Pv i ys H → SqL K H a xs)
    (hs : ∀ i x ys H, xs[i]? = some x → Pv i ys H → tt (some x :: bl) H fun c H2 => if c = true then te (some x :: bl) H2 fun y H3 => Pv (i + 1) (ys ++ [y]) H3 else Pv (i + 1) ys H2)
    (hd : ∀ ys H, Pv xs.length ys H → Fin ys H) :
    ∃ (W : Nat → List V → Hp → Prop) (n : Nat), W 0 [] H ∧ n ≤ sizeLine ∧ ∀ i ys H, W i ys H → ((Itl K a).stop i H ∧ Fin ys H) ∨
      ((Itl K a).go i H ∧ i < n ∧ ∀ x H', (Itl K a).yld i H x H' → tt (some x :: bl) H' fun c H2 => if c = true then te (some x :: bl) H2 fun y H3 => W (i + 1) (ys ++ [y]) H3 else W (i + 1) ys H2) := by
  refine ⟨fun i ys H => i ≤ xs.length ∧ Pv i ys H, xs.length, ⟨Nat.zero_le _, h0⟩, hn, ?_⟩
  rintro i ys H ⟨hi, p⟩
  have q := hl i ys H hi p
  by_cases hlt : i < xs.length
  · refine .inr ⟨⟨xs, xs[i], q, by simp [hlt]⟩, hlt, fun x H' y => ?_⟩
    obtain ⟨e, y⟩ := y
    subst e
    have z := hs i x ys _ (y xs q) p
    have e1 : (fun (c : Bool) (H2 : Hp) => if c = true then te (some x :: bl) H2 fun y H3 => i + 1 ≤ xs.length ∧ Pv (i + 1) (ys ++ [y]) H3 else i + 1 ≤ xs.length ∧ Pv (i + 1) ys H2) = fun c H2 => if c = true then te (some x :: bl) H2 fun y H3 => Pv (i + 1) (ys ++ [y]) H3 else Pv (i + 1) ys H2 := by
      have e2 : (i + 1 ≤ xs.length) = True := eq_true hlt
      funext c H2
      simp only [e2, true_and]
    show tt _ _ _
    rw [e1]
    exact z
  · have e : i = xs.length := by omega
    subst e
    exact .inl ⟨⟨xs, q, Nat.le_refl _⟩, hd ys H p⟩
theorem tAllT {σ : St} {A B : Hp → Prop} (h : A H) : tAll σ H (fun c H2 => if c = true then A H2 else B H2) := by
  show if true = true then A H else B H
  exact @iteT (A H) (B H) h
theorem lc_tup (Pv : Nat → List V → Hp → Prop) (h0 : Pv 0 [] H) (hn : xs.length ≤ sizeLine) (hl : ∀ i ys H, i ≤ xs.length → Pv i ys H → SqT K H a xs)
    (hs : ∀ i x ys H, xs[i]? = some x → Pv i ys H → tt (some x :: bl) H fun c H2 => if c = true then te (some x :: bl) H2 fun y H3 => Pv (i + 1) (ys ++ [y]) H3 else Pv (i + 1) ys H2)
    (hd : ∀ ys H, Pv xs.length ys H → Fin ys H) :
    ∃ (W : Nat → List V → Hp → Prop) (n : Nat), W 0 [] H ∧ n ≤ sizeLine ∧ ∀ i ys H, W i ys H → ((Itt K a).stop i H ∧ Fin ys H) ∨
      ((Itt K a).go i H ∧ i < n ∧ ∀ x H', (Itt K a).yld i H x H' → tt (some x :: bl) H' fun c H2 => if c = true then te (some x :: bl) H2 fun y H3 => W (i + 1) (ys ++ [y]) H3 else W (i + 1) ys H2) := by
  refine ⟨fun i ys H => i ≤ xs.length ∧ Pv i ys H, xs.length, ⟨Nat.zero_le _, h0⟩, hn, ?_⟩
  rintro i ys H ⟨hi, p⟩
  have q := hl i ys H hi p
  by_cases hlt : i < xs.length
  · refine .inr ⟨⟨xs, xs[i], q, by simp [hlt]⟩, hlt, fun x H' y => ?_⟩
    obtain ⟨e, y⟩ := y
    subst e
    have z := hs i x ys _ (y xs q) p
    have e1 : (fun (c : Bool) (H2 : Hp) => if c = true then te (some x :: bl) H2 fun y H3 => i + 1 ≤ xs.length ∧ Pv (i + 1) (ys ++ [y]) H3 else i + 1 ≤ xs.length ∧ Pv (i + 1) ys H2) = fun c H2 => if c = true then te (some x :: bl) H2 fun y H3 => Pv (i + 1) (ys ++ [y]) H3 else Pv (i + 1) ys H2 := by
      have e2 : (i + 1 ≤ xs.length) = True := eq_true hlt
      funext c H2
      simp only [e2, true_and]
    show tt _ _ _
    rw [e1]
    exact z
  · have e : i = xs.length := by omega
    subst e
    exact .inl ⟨⟨xs, q, Nat.le_refl _⟩, hd ys H p⟩
theorem lc_range {n : Nat} (Pv : Nat → List V → Hp → Prop) (h0 : Pv 0 [] H) (hn : n ≤ sizeLine)
    (hs : ∀ (i : Nat) ys H, i < n → Pv i ys H → tt (some (.int i) :: bl) H fun c H2 => if c = true then te (some (.int i) :: bl) H2 fun y H3 => Pv (i + 1) (ys ++ [y]) H3 else Pv (i + 1) ys H2)
    (hd : ∀ ys H, Pv n ys H → Fin ys H) :
    ∃ (W : Nat → List V → Hp → Prop) (m : Nat), W 0 [] H ∧ m ≤ sizeLine ∧ ∀ i ys H, W i ys H → ((Itr 0 n).stop i H ∧ Fin ys H) ∨
      ((Itr 0 n).go i H ∧ i < m ∧ ∀ x H', (Itr 0 n).yld i H x H' → tt (some x :: bl) H' fun c H2 => if c = true then te (some x :: bl) H2 fun y H3 => W (i + 1) (ys ++ [y]) H3 else W (i + 1) ys H2) := by
  refine ⟨fun i ys H => i ≤ n ∧ Pv i ys H, n, ⟨Nat.zero_le _, h0⟩, hn, ?_⟩
  rintro i ys H ⟨hi, p⟩
  by_cases hlt : i < n
  · refine .inr ⟨hlt, hlt, fun x H' y => ?_⟩
    obtain ⟨e, y⟩ := y
    subst e
    rw [Int.zero_add] at y
    subst y
    have z := hs i ys _ hlt p
    have e1 : (fun (c : Bool) (H2 : Hp) => if c = true then te (some (.int i) :: bl) H2 fun y H3 => i + 1 ≤ n ∧ Pv (i + 1) (ys ++ [y]) H3 else i + 1 ≤ n ∧ Pv (i + 1) ys H2) = fun c H2 => if c = true then te (some (.int i) :: bl) H2 fun y H3 => Pv (i + 1) (ys ++ [y]) H3 else Pv (i + 1) ys H2 := by
      have e2 : (i + 1 ≤ n) = True := eq_true hlt
      funext c H2
      simp only [e2, true_and]
    show tt _ _ _
    rw [e1]
    exact z
  · have e : i = n := by omega
    subst e
    exact .inl ⟨Nat.le_refl _, hd ys H p⟩
end
end L2
namespace Lo
open PySem L2
theorem same_new {H : Hp} {p : Addr} {o : HO} (h : H p = none) : Same H (upd H p o) := fun b u e => by
  rw [upd_ne (ne_of_none e h)]
  exact e
def Kp (p : Addr) (H H' : Hp) : Prop := ∀ b o, b ≠ p → H b = some o → H' b = some o
theorem Kp.of {p : Addr} {H H' : Hp} (h : Same H H') : Kp p H H' := fun b o _ e => h b o e
theorem Kp.trans {p : Addr} {H H1 H2 : Hp} (a : Kp p H H1) (b : Kp p H1 H2) : Kp p H H2 := fun c o n e => b c o n (a c o n e)
theorem kp_upd {p : Addr} {H : Hp} {o : HO} : Kp p H (upd H p o) := fun b u n e => by
  rw [upd_ne n]
  exact e
end Lo
set_option maxHeartbeats 1000000
namespace Lo
open PySem L2
theorem gint {X : Cx} {x : Str} {i : Int} {pos : Pos} (hm : ∃ t, X.mg x = some (.int i t)) (hg : Gl X x) (hd : (x == ("__debug__" : Str)) = false := by decide) : PE X (.Name x pos) (tC (.int i)) := by
  obtain ⟨t, e⟩ := hm
  exact pe_glob hg e ⟨t, rfl⟩ hd
structure TxB (mg : Str → Option Value) : Prop where
  isi : mg "isinstance" = none
  int : mg "int" = none
  bool : mg "bool" = none
  str : mg "str" = none
  len : mg "len" = none
  range : mg "range" = none
  tuple : mg "tuple" = none
  list : mg "list" = none
  any : mg "any" = none
  all : mg "all" = none
  max : mg "max" = none
  sorted : mg "sorted" = none
theorem tab_mk {K : PySem.W.Frag} {a : Addr} {es : Array DictEntry} {n : Nat} {D : List (Str × PyProof.Rows.KTD.Dat)} (h : K.lookup a = some ⟨.type "dict", none, .dict es n, #[]⟩) (z : (a == sysModules) = false) (r : PyProof.Rows.KTD.rowsLook datL es.toList D = true) : TabK K a D := by
  unfold TabK PyProof.Rows.KTD.tabLook
  rw [z]
  show (true && (match K.lookup a with | some o => _ | none => false)) = true
  rw [h]
  simp [r]
section
variable (C : Kd → Addr) (CL : Addr) (K : PySem.W.Frag)
end
def cellAt (ns : List Int) (k : Nat) : Int := (ns[k]?).getD 0
def spCell (K : PySem.W.Frag) : Sp := fun vs H Q _ => ∃ a ns k, vs = [.ref a, .int (k : Nat)] ∧ SqL K H a ((ns : List Int).map V.int) ∧ Q (.int (cellAt ns k)) H
end Lo
namespace Lo
open PySem L2
end Lo
namespace Lo
open PySem L2
section
variable {K : PySem.W.Frag}
end
def spWhole : Sp := fun vs H Q _ => ∃ i, vs = [.int i] ∧ Q (.bl true) H
def spLaw (K : PySem.W.Frag) : Sp := fun vs H Q _ => ∃ a ns, vs = [.ref a] ∧ SqL K H a ((ns : List Int).map V.int) ∧ ns.length ≤ 63 ∧ ∀ H', Q (.bl true) H'
end Lo
namespace Lo
open PySem L2
theorem pss_weak {X : Cx} {st : List Stmt} {t : TS} (u : TS) (h : PSs X st t) (hw : ∀ D σ H, u D σ H → t D σ H) : PSs X st u := fun pins s σ H D I q => h pins s σ H D I (hw D σ H q)
end Lo
set_option maxHeartbeats 1000000
namespace Lo
open PySem L2
section
variable {K : PySem.W.Frag} {a : Addr} {tt : TT} {te : TE} {bl : St} {Fin : List V → Hp → Prop} {H : Hp}
end
end Lo
namespace Lo
open PySem L2
end Lo
namespace Lo
open PySem L2
end Lo
set_option maxHeartbeats 1000000
namespace Lo
open PySem L2
section
variable {X : Cx}
end
end Lo
set_option maxHeartbeats 1000000
namespace Lo
open PySem L2
section
variable {C : Kd → Addr} {CL : Addr} {K : PySem.W.Frag} {H H' : Hp} {l pl pl' d : Addr} {ps ps' : List Pr} {own : List (Addr × List V)} {xs ys : List V}
end
end Lo
set_option maxHeartbeats 1000000
namespace Lo
open PySem L2
section
variable {X : Cx}
end
end Lo
set_option maxHeartbeats 1000000
namespace Lo
open PySem L2
end Lo
set_option maxHeartbeats 1000000
namespace Lo
open PySem L2
section
variable {C : Kd → Addr} {CL : Addr} {K : PySem.W.Frag} {H H' : Hp} {l pl : Addr} {ps : List Pr} {own : List (Addr × List V)}
end
end Lo
set_option maxHeartbeats 1000000
namespace L2
open PySem PySem.Spec PyProof.Rows
section
variable {κ : Type} [DecidableEq κ]
def valV (kvs : List (κ × V)) (k : κ) : Option V := (kvs.find? fun kv => decide (kv.1 = k)).map (·.2)
def putK (kvs : List (κ × V)) (k : κ) (v : V) : List (κ × V) :=
  if (kvs.any fun kv => decide (kv.1 = k)) = true then kvs.map (fun kv => if kv.1 = k then (kv.1, v) else kv) else kvs ++ [(k, v)]
theorem valV_pos {p : κ × V} {r : List (κ × V)} {k : κ} (e : p.1 = k) : valV (p :: r) k = some p.2 := by simp [valV, List.find?_cons, e]
theorem valV_neg {p : κ × V} {r : List (κ × V)} {k : κ} (e : ¬ p.1 = k) : valV (p :: r) k = valV r k := by simp [valV, List.find?_cons, e]
theorem length_putK (kvs : List (κ × V)) (k : κ) (v : V) : (putK kvs k v).length ≤ kvs.length + 1 := by
  unfold putK
  split
  · rw [List.length_map]; omega
  · rw [List.length_append, List.length_cons, List.length_nil]; omega
theorem RelO.getD {o : Option V} {u : Option Value} {d : V} {d' : Value} (r : RelO o u) (rd : RelV d d') : RelV (o.getD d) (u.getD d') := by
  cases o with
  | none => cases u with
    | none => exact rd
    | some _ => exact (show False from r).elim
  | some _ => cases u with
    | none => exact (show False from r).elim
    | some _ => exact r
theorem KV.val {kvs : List (κ × V)} {vs : List (κ × Value)} (r : KV kvs vs) (k : κ) : RelO (valV kvs k) (valueAt vs k) := by
  unfold KV at r
  induction r with
  | nil => exact True.intro
  | @cons p q ps qs h t ih =>
    obtain ⟨h1, h2⟩ := h
    by_cases e : p.1 = k
    · have e' : q.1 = k := h1.symm.trans e
      have b : valueAt (q :: qs) k = some q.2 := by simp [valueAt, List.find?_cons, e']
      rw [valV_pos e, b]; exact h2
    · have e' : ¬ q.1 = k := fun z => e (h1.trans z)
      have b : valueAt (q :: qs) k = valueAt qs k := by simp [valueAt, List.find?_cons, e']
      rw [valV_neg e, b]; exact ih
theorem KV.any {kvs : List (κ × V)} {vs : List (κ × Value)} (r : KV kvs vs) (k : κ) : (kvs.any fun kv => decide (kv.1 = k)) = vs.any fun kv => decide (kv.1 = k) := by
  unfold KV at r
  induction r with
  | nil => rfl
  | cons h t ih => rw [List.any_cons, List.any_cons, ih, h.1]
theorem KV.repl {kvs : List (κ × V)} {vs : List (κ × Value)} (r : KV kvs vs) (k : κ) {y : V} {u : Value} (ry : RelV y u) :
    KV (kvs.map fun kv => if kv.1 = k then (kv.1, y) else kv) (vs.map fun kv => if kv.1 = k then (kv.1, u) else kv) := by
  unfold KV at r ⊢
  induction r with
  | nil => exact .nil
  | @cons p q ps qs h t ih =>
    rw [List.map_cons, List.map_cons]
    refine .cons ?_ ih
    obtain ⟨h1, h2⟩ := h
    by_cases e : p.1 = k
    · rw [if_pos e, if_pos (h1.symm.trans e)]; exact ⟨h1, ry⟩
    · rw [if_neg e, if_neg (fun z => e (h1.trans z))]; exact ⟨h1, h2⟩
theorem KV.put {kvs : List (κ × V)} {vs : List (κ × Value)} (r : KV kvs vs) (k : κ) {y : V} {u : Value} (ry : RelV y u) : KV (putK kvs k y) (stored vs k u) := by
  unfold putK stored
  rw [r.any k]
  by_cases e : (vs.any fun kv => decide (kv.1 = k)) = true
  · rw [if_pos e, if_pos e]; exact r.repl k ry
  · rw [if_neg e, if_neg e]; exact Paired.snoc r ⟨rfl, ry⟩
end
theorem kV_is {P : Program} {w : World} {k : Key} {u : Value} (r : RelV (kV k) u) : (mixKind P w).is k u = true := by
  cases k with
  | inl i => obtain ⟨t, e⟩ := (show ∃ t, u = Value.int i t from r); subst e; exact mixKind_int P w i t
  | inr x => obtain ⟨t, e⟩ := (show ∃ t, u = Value.str x t from r); subst e; exact mixKind_str P w x t
theorem items_are {P : Program} {w : World} : ∀ {ks : List Key} {us : List Value}, Vals (ks.map kV) us → ItemsAre (mixKind P w) ks us
  | [], _, r => by rw [List.map_nil] at r; cases r; exact .nil
  | k :: ks, _, r => by
    rw [List.map_cons] at r
    cases r with
    | cons h t => exact .cons (kV_is h) (items_are t)
abbrev KT (H : Hp) : List (List Key × V) → List (List Key × Addr × Value) → Prop := Paired fun p q => p.1 = q.1 ∧ H q.2.1 = some (.tup (p.1.map kV)) ∧ RelV p.2 q.2.2
theorem KT.val {H : Hp} {kvs : List (List Key × V)} {xs : List (List Key × Addr × Value)} (r : KT H kvs xs) (k : List Key) : RelO (valV kvs k) ((atKey xs k).map (·.2)) := by
  induction r with
  | nil => exact True.intro
  | @cons p q ps qs h t ih =>
    obtain ⟨h1, _, h2⟩ := h
    by_cases e : p.1 = k
    · have e' : q.1 = k := h1.symm.trans e
      have b : atKey (q :: qs) k = some q.2 := by simp [atKey, List.find?_cons, e']
      rw [valV_pos e, b]; exact h2
    · have e' : ¬ q.1 = k := fun z => e (h1.trans z)
      have b : atKey (q :: qs) k = atKey qs k := by simp [atKey, List.find?_cons, e']
      rw [valV_neg e, b]; exact ih
section
variable {P : Program} {w : World} {H : Hp} {h : Heap} {a : Addr}
theorem rd_of {u : HO} (ok : HOk P w H h) (e : Rd H a u) : ObjOk P w H h a u := e.ok ok
theorem dk_rd {kvs : List (Key × V)} (ok : HOk P w H h) (e : Rd H a (.dK kvs)) : kvs.length ≤ sizeLine ∧ (a == sysModules) = false ∧ ∃ vs, KV kvs vs ∧ h.DictOf (mixKind P w) a vs :=
  show ObjOk P w H h a (.dK kvs) from rd_of ok e
theorem dk_of {kvs : List (Key × V)} (ok : HOk P w H h) (e : H a = some (.dK kvs)) : kvs.length ≤ sizeLine ∧ (a == sysModules) = false ∧ ∃ vs, KV kvs vs ∧ h.DictOf (mixKind P w) a vs := dk_rd ok (.inl e)
theorem key_of {ks : List Key} (ok : HOk P w H h) (e : H a = some (.tup (ks.map kV))) : (tupleKind (mixKind P w)).is h ks a := by
  obtain ⟨_, its, r, o, h1, h2, n, h3⟩ := (show ObjOk P w H h a (.tup (ks.map kV)) from ok a _ e)
  exact ⟨o, its.toArray, n, h1, h2, h3, by simpa using items_are r⟩
theorem dt_rd {kvs : List (List Key × V)} (ok : HOk P w H h) (e : Rd H a (.dT kvs)) : kvs.length ≤ sizeLine ∧ (a == sysModules) = false ∧
    ∃ xs, KT H kvs xs ∧ h.DictOfH (tupleKind (mixKind P w)) a xs := by
  obtain ⟨z, y, xs, r, o, es, ep, h1, h2, h3, h4, h5⟩ := (show ObjOk P w H h a (.dT kvs) from rd_of ok e)
  refine ⟨z, y, xs, r, o, es, ep, h1, h2, h3, h4, fun x hx => ?_, h5⟩
  have all : ∀ {l : List (List Key × V)} {m : List (List Key × Addr × Value)}, KT H l m → ∀ x ∈ m, (tupleKind (mixKind P w)).is h x.1 x.2.1 := by
    intro l m q
    induction q with
    | nil => intro x hx; exact nomatch hx
    | @cons p q ps qs hq t ih =>
      intro x hx
      rcases List.mem_cons.mp hx with e | hx
      · subst e
        exact key_of ok (by rw [← hq.1]; exact hq.2.1)
      · exact ih x hx
  exact all r x hx
end
def DGet (H : Hp) (a : Addr) (y : V) (r : Option V) : Prop :=
  (∃ kvs k, Rd H a (.dK kvs) ∧ y = kV k ∧ r = valV kvs k) ∨ ∃ kvs k b, Rd H a (.dT kvs) ∧ y = .ref b ∧ H b = some (.tup (k.map kV)) ∧ r = valV kvs k
theorem DGet.k {H : Hp} {a : Addr} {kvs : List (Key × V)} {k : Key} (e : H a = some (.dK kvs)) : DGet H a (kV k) (valV kvs k) := .inl ⟨kvs, k, .inl e, rfl, rfl⟩
section
variable {X : Cx} {pins : List (Addr × Obj)} {σ : St} {H : Hp} {s : Shared} {a : Addr} {y v : V} {u r : Value} {o : Option V} {A : Around} {E : Value → Shared → Prop}
theorem Inv.big (I : Inv X pins σ H s) : sysModules < s.heap.objs.size := by
  have h : mainGlobals < s.heap.objs.size := (I.mod.glob.keeps I.bk).lt
  exact Nat.lt_trans (by decide) h
theorem d_write {h' : Heap} {t' : Nat} {ob : HO} (I : Inv X pins σ H s) (mu : Mut (H a)) (hs : Heap.SameBut a s.heap h') (he : ∃ q, h'.get? a = some q) (new : ObjOk X.prog X.w (upd H a ob) h' a ob) :
    Inv X pins σ (upd H a ob) { s with heap := h', toks := t' } :=
  I.write (x := a) (e := a) mu (.inl rfl) (fun b q hb z => (hs.2 b hb).trans z) he new
theorem dk_new {P : Program} {w : World} {H' : Hp} {h' : Heap} {kvs : List (Key × V)} {vs : List (Key × Value)} (z : kvs.length ≤ sizeLine) (hd : (a == sysModules) = false) (rel : KV kvs vs) (dd : h'.DictOf (mixKind P w) a vs) :
    ObjOk P w H' h' a (.dK kvs) := ⟨z, hd, vs, rel, dd⟩
end
section
variable {X : Cx} {pins : List (Addr × Obj)} {σ : St} {H : Hp} {s : Shared} {a : Addr} {kvs : List (Key × V)} {k : Key} {u : Value} {A : Around} {E : Value → Shared → Prop}
end
section
variable {X : Cx} {o i e value : Expr} {pos pos' tpos : Pos} {td ty tv : TE}
end
theorem dk_empty {P : Program} {w : World} {H : Hp} (h : Heap) (hb : sysModules < h.objs.size) : ObjOk P w H (h.push { cls := .type "dict", data := .dict #[] }) h.objs.size (.dK []) :=
  ⟨Nat.zero_le _, beq_eq_false_iff_ne.mpr (Ne.symm (Nat.ne_of_lt hb)), [], .nil, Heap.DictOf.new h⟩
section
variable {X : Cx} {pos : Pos}
end
def tPairs : List (TE × TE) → St → Hp → (List (V × V) → Hp → Prop) → Prop
  | [], _, H, Q => Q [] H
  | (tk, tv) :: r, σ, H, Q => tk σ H fun x H1 => tv σ H1 fun y H2 => tPairs r σ H2 fun ps H3 => Q ((x, y) :: ps) H3
abbrev VV : List (V × V) → List (Value × Value) → Prop := Paired fun p q => RelV p.1 q.1 ∧ RelV p.2 q.2
def PPs (X : Cx) (pos : Pos) (keys : List (Option Expr)) (values : List Expr) (trs : List (TE × TE)) : Prop :=
  ∀ (pins : List (Addr × Obj)) (s : Shared) (σ : St) (H : Hp) (Q : List (V × V) → Hp → Prop), Inv X pins σ H s → tPairs trs σ H Q →
    wpAny (model X.prog X.w) X.A (evalPairs (pairTrees keys values X.env pos)) (fun vs s' => ∃ ps H', Inv X pins σ H' s' ∧ VV ps vs ∧ Q ps H') X.xe s
theorem pps_nil {X : Cx} {pos : Pos} : PPs X pos [] [] [] := fun pins s σ H Q I h => pairTrees_nil_walk ⟨[], H, I, .nil, h⟩
theorem pps_cons {X : Cx} {pos : Pos} {k v : Expr} {ks : List (Option Expr)} {vs : List Expr} {tk tv : TE} {trs : List (TE × TE)} (hk : PE X k tk) (hv : PE X v tv) (hr : PPs X pos ks vs trs) :
    PPs X pos (some k :: ks) (v :: vs) ((tk, tv) :: trs) := fun pins s σ H Q I h =>
  pairTrees_cons_walk (thn (hk pins s σ H _ I h) fun u s1 ⟨x, H1, I1, rx, q1⟩ => thn (hv pins s1 σ H1 _ I1 q1) fun w2 s2 ⟨y, H2, I2, ry, q2⟩ =>
    thn (hr pins s2 σ H2 _ I2 q2) fun ws s3 ⟨ps, H3, I3, rel, q3⟩ => ⟨(x, y) :: ps, H3, I3, .cons ⟨rx, ry⟩ rel, q3⟩)
def mergeK (kvs more : List (Key × V)) : List (Key × V) := more.foldl (fun acc kv => putK acc kv.1 kv.2) kvs
theorem KV.merge : ∀ {more : List (Key × V)} {rs : List (Key × Value)} {kvs : List (Key × V)} {vs : List (Key × Value)}, KV more rs → KV kvs vs → KV (mergeK kvs more) (merged vs rs) := by
  intro more rs kvs vs r
  unfold KV at r
  induction r generalizing kvs vs with
  | nil => intro q; exact q
  | @cons p q ps qs h t ih =>
    intro r0
    have e : KV (putK kvs p.1 p.2) (stored vs q.1 q.2) := by
      have := r0.put p.1 h.2
      rw [← h.1]; exact this
    exact ih e
theorem length_mergeK : ∀ (more kvs : List (Key × V)), (mergeK kvs more).length ≤ kvs.length + more.length
  | [], kvs => by show kvs.length ≤ kvs.length + 0; omega
  | p :: r, kvs => by
    have h1 := length_mergeK r (putK kvs p.1 p.2)
    have h2 := length_putK kvs p.1 p.2
    show (mergeK (putK kvs p.1 p.2) r).length ≤ _
    rw [List.length_cons]; omega
theorem carries_of {P : Program} {w : World} : ∀ {kvs : List (Key × V)} {ws : List (Value × Value)}, VV (kvs.map fun kv => (kV kv.1, kv.2)) ws → ∃ rs, Carries (mixKind P w) ws rs ∧ KV kvs rs
  | [], _, r => by rw [List.map_nil] at r; cases r; exact ⟨[], True.intro, .nil⟩
  | p :: kvs, _, r => by
    rw [List.map_cons] at r
    cases r with
    | @cons a b as bs h t =>
      obtain ⟨rs, c, q⟩ := carries_of (P := P) (w := w) t
      obtain ⟨b1, b2⟩ := b
      exact ⟨(p.1, b2) :: rs, ⟨kV_is h.1, rfl, c⟩, .cons ⟨rfl, h.2⟩ q⟩
def tDisp (trs : List (TE × TE)) : TE := fun σ H Q => ∀ p, H p = none → tPairs trs σ (upd H p (.dK [])) fun ps H2 => H2 p = some (.dK []) ∧ ∃ kvs : List (Key × V), ps = kvs.map (fun kv => (kV kv.1, kv.2)) ∧ kvs.length ≤ 15 ∧ Q (.ref p) (upd H2 p (.dK (mergeK [] kvs)))
theorem pe_disp {X : Cx} {pos : Pos} {keys : List (Option Expr)} {values : List Expr} {trs : List (TE × TE)} (h : PPs X pos keys values trs) (hall : keys.all (·.isSome) = true) (hl : keys.length = values.length) (h0 : keys ≠ [])
    (h15 : keys.length ≤ 15) : PE X (.Dict keys values pos) (tDisp trs) := by
  intro pins s σ H Q I q
  have hn := I.hok.fresh (Nat.le_refl s.heap.objs.size)
  have I1 := I.laid (a := s.heap.objs.size) (o := .dK []) (h' := s.heap.push { cls := .type "dict", data := .dict #[] }) (t' := s.toks) (fun _ _ q => Heap.get?_push_of_some _ q) (Nat.le_refl _) (dk_empty s.heap I.big)
  refine wpAny_Dict_walk (knd := mixKind X.prog X.w) hall hl h0 h15 (thn (h pins _ σ _ _ I1 (q _ hn)) fun ws s2 ⟨ps, H2, I2, rel, e, kvs, ep, lk, q2⟩ => ?_)
  subst ep
  obtain ⟨rs, c, rk⟩ := carries_of (P := X.prog) (w := X.w) rel
  obtain ⟨z, hd, vs0, r0, dd⟩ := dk_of I2.hok e
  cases r0
  refine ⟨rs, c, dd, fun h' dd' hs => ⟨.ref s.heap.objs.size, _, ?_, rfl, q2⟩⟩
  have hz : (mergeK [] kvs).length ≤ sizeLine := by
    have h1 := length_mergeK kvs []
    rw [List.length_nil] at h1
    rw [sizeLine_eq]; omega
  have he : ∃ q, h'.get? s.heap.objs.size = some q := let ⟨q, _, _, hq, _⟩ := dd'; ⟨q, hq⟩
  exact d_write I2 (by rw [e]; exact True.intro) hs he (dk_new hz hd (rk.merge .nil) dd')
structure M1 (X : Cx) (o : Expr) (m : Str) (apos : Pos) (e : Expr) (cpos : Pos) : Prop where
  base : attributeBase o m X.env (eval o X.env) = eval o X.env
  few : ((backTo cpos (starEach [e] X.env)).all (fun x => !x.1) && (backToKw cpos (keywordEach [] X.env)).all (fun x => x.1.isSome)
    && decide (([e] : List Expr).length + ([] : List Keyword).length + (if ([] : List Keyword).isEmpty then 0 else 1) < 30)) = true
  line : (apos.endLine == cpos.line) = true
  trees : backTo cpos (starEach [e] X.env) = [(false, eval e X.env)]
structure M2 (X : Cx) (o : Expr) (m : Str) (apos : Pos) (e f : Expr) (cpos : Pos) : Prop where
  base : attributeBase o m X.env (eval o X.env) = eval o X.env
  few : ((backTo cpos (starEach [e, f] X.env)).all (fun x => !x.1) && (backToKw cpos (keywordEach [] X.env)).all (fun x => x.1.isSome)
    && decide (([e, f] : List Expr).length + ([] : List Keyword).length + (if ([] : List Keyword).isEmpty then 0 else 1) < 30)) = true
  line : (apos.endLine == cpos.line) = true
  trees : backTo cpos (starEach [e, f] X.env) = [(false, eval e X.env), (false, eval f X.env)]
def IsD (H : Hp) (a : Addr) : Prop := (∃ kvs, Rd H a (.dK kvs)) ∨ ∃ kvs, Rd H a (.dT kvs)
theorem isD_at {X : Cx} {pins : List (Addr × Obj)} {σ : St} {H : Hp} {s : Shared} {a : Addr} (I : Inv X pins σ H s) (d : IsD H a) :
    s.TypeIs (.ref a) "dict" ∧ (∀ b, Value.ref a = .ref b → ∃ ob, s.heap.get? b = some ob ∧ ob.dict = none) ∧ (a == sysModules) = false := by
  rcases d with ⟨kvs, e⟩ | ⟨kvs, e⟩
  · obtain ⟨_, hd, vs, _, dd⟩ := dk_rd I.hok e
    refine ⟨dd.typeIs, fun b q => ?_, hd⟩
    cases q
    obtain ⟨ob, _, _, h1, h2, _⟩ := dd
    exact ⟨ob, h1, h2.2.1⟩
  · obtain ⟨_, hd, xs, _, dd⟩ := dt_rd I.hok e
    refine ⟨dd.typeIs, fun b q => ?_, hd⟩
    cases q
    obtain ⟨ob, _, _, h1, h2, _⟩ := dd
    exact ⟨ob, h1, h2.2.1⟩
section
variable {X : Cx} {pins : List (Addr × Obj)} {σ : St} {H : Hp} {s : Shared} {a : Addr} {y d : V} {u r : Value} {o : Option V} {A : Around} {E : Value → Shared → Prop}
theorem d_get2 {Q : Value → Shared → Prop} (hu : A.units + 1 < cLine) (I : Inv X pins σ H s) (g : DGet H a y o) (ry : RelV y u) (rd : RelV d r) (h : ∀ w' s', Inv X pins σ H s' → RelV (o.getD d) w' → Q w' s') :
    wpAny (model X.prog X.w) A (call (.builtin "dict.get") [.ref a, u, r]) Q E s := by
  rcases g with ⟨kvs, k, e, ey, l⟩ | ⟨kvs, k, b, e, ey, eb, l⟩
  · subst ey
    obtain ⟨z, hd, vs, rel, dd⟩ := dk_rd I.hok e
    refine call_meetsIn PySem.F.slot_dict_get dd.typeIs PySem.F.entry_dict_get (PySem.F.args_dict_get_3 _ _ _) (meets_dict_get_default (mixKind X.prog X.w) a (kV_is ry) hd r) ⟨_, dd.mapOf, h _ _ (I.tok _) ?_⟩
    rw [l]
    exact (rel.val k).getD rd
  · subst ey
    cases (show u = Value.ref b from ry)
    obtain ⟨z, hd, xs, rel, dd⟩ := dt_rd I.hok e
    refine call_meetsIn PySem.F.slot_dict_get dd.typeIs PySem.F.entry_dict_get (PySem.F.args_dict_get_3 _ _ _) (meetsH_dict_get_default (tupleKind (mixKind X.prog X.w)) a b hd r) ⟨tupleKind_room_in1 hu, k, xs, key_of I.hok eb, dd, h _ _ (I.tok _) ?_⟩
    rw [l]
    exact (rel.val k).getD rd
end
def tDGet2 (td ty tx : TE) : TE := fun σ H Q => td σ H fun x H1 => ∃ a, x = .ref a ∧ IsD H1 a ∧ ty σ H1 fun y H2 => tx σ H2 fun z H3 => ∃ o, DGet H3 a y o ∧ Q (o.getD z) H3
section
variable {X : Cx} {o e f : Expr} {apos cpos : Pos} {td ty tx : TE}
theorem pe_dget2 (hu : X.A.units + 1 < cLine) (ho : PE X o td) (he : PE X e ty) (hf : PE X f tx) (m : M2 X o "get" apos e f cpos) : PE X (.Call (.Attribute o "get" apos) [e, f] [] cpos) (tDGet2 td ty tx) := by
  intro pins s σ H Q I h
  refine wpAny_Call_method m.base m.few m.line PySem.F.plainAttrs_dict PySem.F.slot_dict_get PySem.F.type_dict_get (thn (ho pins s σ H _ I h) fun u s1 ⟨x, H1, I1, rx, a, ex, d, q1⟩ => ?_)
  subst ex
  obtain rfl : u = Value.ref a := rx
  obtain ⟨t1, t2, _⟩ := isD_at I1 d
  refine ⟨t1, t2, ?_⟩
  rw [m.trees]
  refine Calls.callWith_builtin rfl (Calls.evalArgs_plain (Calls.spliced_cons (thn (he pins s1 σ H1 _ I1 q1) fun iv s2 ⟨y, H2, I2, ry, q2⟩ =>
    Calls.spliced_cons (thn (hf pins s2 σ H2 _ I2 q2) fun fv s3 ⟨z, H3, I3, rz, ov, g, q3⟩ => Calls.spliced_nil ?_))))
  exact d_get2 hu I3 g ry rz fun w' s4 I4 rw' => ⟨_, H3, I4, rw', q3⟩
end
end L2
set_option maxHeartbeats 1000000
namespace Lo
open PySem L2
section
variable {C : Kd → Addr} {CL : Addr} {K : PySem.W.Frag} {H H' : Hp}
variable {l0 pl0 q0 l1 pl1 q1 : Addr} {ps0 ps1 : List Pr} {us0 us1 : List V} {own : List (Addr × List V)}
end
section
variable {X : Cx}
end
end Lo
namespace Km
open PySem PySem.NumText PyProof.Rows
def isDig (c : Nat) : Bool := decide (48 ≤ c) && decide (c ≤ 57)
def okSign (c : Nat) : Bool := decide (32 ≤ c) && decide (c ≤ 126) && decide (c ≠ 37)
def digs (m : Nat) : List Nat := (Nat.toDigits 10 m).map Char.toNat
def numCs (n : Int) : List Nat := if n < 0 then 45 :: digs n.natAbs else digs n.natAbs
theorem digs_all (m : Nat) : AllDigits (digs m) := by
  intro c hc
  obtain ⟨ch, hch, e⟩ := List.mem_map.mp hc
  have r := digit_range (Nat.isDigit_of_mem_toDigits (by decide) (by decide) hch)
  rw [← e]
  exact r
theorem digs_ne (m : Nat) : digs m ≠ [] := by
  intro e
  have h := toDigits_len_ge 10 m
  rw [List.map_eq_nil_iff.mp e] at h
  exact absurd h (by decide)
theorem digs_val (m : Nat) : digitsVal (digs m) = m := PySem.W.KIN.val_back m
theorem digs_zero : digs 0 = [48] := rfl
theorem digs_head (m : Nat) (h : m ≠ 0) : ∀ c r, digs m = c :: r → c ≠ 48 := by
  induction m using Nat.strongRecOn with
  | _ m ih =>
    intro c r e
    by_cases hm : m < 10
    · unfold digs at e
      rw [Nat.toDigits_of_lt_base hm] at e
      have hc : (Nat.digitChar m).toNat = c := by simpa using (List.cons.inj e).1
      have key : ∀ d : Nat, d < 10 → d ≠ 0 → (Nat.digitChar d).toNat ≠ 48 := by decide
      rw [← hc]
      exact key m hm h
    · have t : Nat.toDigits 10 (m / 10) ++ Nat.toDigits 10 (m % 10) = Nat.toDigits 10 (10 * (m / 10) + m % 10) := Nat.toDigits_append_toDigits (by decide) (by omega) (Nat.mod_lt m (by decide))
      rw [Nat.div_add_mod] at t
      have e2 : digs m = digs (m / 10) ++ digs (m % 10) := by unfold digs; rw [← t, List.map_append]
      cases q : digs (m / 10) with
      | nil => exact absurd q (digs_ne _)
      | cons c' r' =>
        rw [e2, q] at e
        have : c' = c := (List.cons.inj e).1
        rw [← this]
        exact ih (m / 10) (by omega) (by omega) c' r' q
theorem digs_len {m k : Nat} (hk : 1 ≤ k) (h : m < 10 ^ k) : (digs m).length ≤ k := by
  induction k generalizing m with
  | zero => omega
  | succ k ih =>
    by_cases hm : m < 10
    · unfold digs
      rw [Nat.toDigits_of_lt_base hm]
      simp
    · have hk1 : 1 ≤ k := by
        cases k with
        | zero => exfalso; simp at h; omega
        | succ k => omega
      have t : Nat.toDigits 10 (m / 10) ++ Nat.toDigits 10 (m % 10) = Nat.toDigits 10 (10 * (m / 10) + m % 10) := Nat.toDigits_append_toDigits (by decide) (by omega) (Nat.mod_lt m (by decide))
      rw [Nat.div_add_mod] at t
      have e2 : digs m = digs (m / 10) ++ digs (m % 10) := by unfold digs; rw [← t, List.map_append]
      have e3 : digs (m % 10) = [(Nat.digitChar (m % 10)).toNat] := by unfold digs; rw [Nat.toDigits_of_lt_base (Nat.mod_lt m (by decide))]; rfl
      have h2 : m / 10 < 10 ^ k := by
        rw [Nat.pow_succ] at h
        exact Nat.div_lt_of_lt_mul (by rw [Nat.mul_comm]; exact h)
      have := ih hk1 h2
      rw [e2, e3, List.length_append]
      simpa using this
theorem str_num (n : Int) : (Str.ofString (toString n)).cps.toList = numCs n := by
  cases n with
  | ofNat m =>
    unfold numCs
    rw [if_neg (show ¬ Int.ofNat m < 0 from Int.not_lt.mpr (Int.natCast_nonneg m))]
    exact PySem.W.KIN.signs_num m
  | negSucc m =>
    unfold numCs
    rw [if_pos (by omega)]
    have e : toString (Int.negSucc m) = "-" ++ Nat.repr (m + 1) := rfl
    rw [e, signs_ofString, String.toList_append, List.map_append, Nat.toList_repr]
    rfl
theorem digitsVal_lt : ∀ (cs : List Nat), AllDigits cs → digitsVal cs < 10 ^ cs.length := by
  have key : ∀ (cs : List Nat) (a : Nat), AllDigits cs → cs.foldl (fun acc c => acc * 10 + (c - 48)) a < (a + 1) * 10 ^ cs.length := by
    intro cs
    induction cs with
    | nil => intro a _; simp
    | cons c cs ih =>
      intro a h
      rw [List.foldl_cons, List.length_cons]
      have h1 := h.head
      refine Nat.lt_of_lt_of_le (ih _ h.tail) ?_
      rw [Nat.pow_succ, Nat.mul_comm (10 ^ cs.length) 10, ← Nat.mul_assoc]
      exact Nat.mul_le_mul_right _ (by omega)
  intro cs h
  have := key cs 0 h
  simpa [digitsVal] using this
end Km
namespace Km
open PySem PySem.NumText L2
inductive Th where
  | num (i : Int)
  | txt (cs : List Nat)
  | tup (ts : List Th)
mutual
def Th.cs : Th → List Nat
  | .num i => numCs i
  | .txt cs => digs cs.length ++ 58 :: cs
  | .tup ts => 40 :: (Th.css ts ++ [41])
def Th.css : List Th → List Nat
  | [] => []
  | t :: ts => Th.cs t ++ Th.tl ts
def Th.tl : List Th → List Nat
  | [] => []
  | t :: ts => 32 :: (Th.cs t ++ Th.tl ts)
end
mutual
def Th.dp : Th → Nat
  | .num _ => 0
  | .txt _ => 0
  | .tup ts => Th.dps ts + 1
def Th.dps : List Th → Nat
  | [] => 0
  | t :: ts => max (Th.dp t) (Th.dps ts)
end
mutual
def Th.Ok : Th → Prop
  | .num i => i.natAbs < 10 ^ 400
  | .txt cs => cs.length ≤ 2000
  | .tup ts => ts.length ≤ 2000 ∧ Th.Oks ts
def Th.Oks : List Th → Prop
  | [] => True
  | t :: ts => Th.Ok t ∧ Th.Oks ts
end
mutual
def Rep (H : Hp) : Th → V → Prop
  | .num i, v => v = .int i
  | .txt cs, v => v = .str ⟨cs.toArray⟩
  | .tup ts, v => ∃ a xs, v = .ref a ∧ H a = some (.tup xs) ∧ Reps H ts xs
def Reps (H : Hp) : List Th → List V → Prop
  | [], xs => xs = []
  | t :: ts, xs => ∃ x r, xs = x :: r ∧ Rep H t x ∧ Reps H ts r
end
theorem cs_num (i : Int) : (Th.num i).cs = numCs i := by simp only [Th.cs]
theorem cs_txt (c : List Nat) : (Th.txt c).cs = digs c.length ++ 58 :: c := by simp only [Th.cs]
end Km
namespace Km
open PySem PySem.NumText L2 PyProof.Rows
def joinC (c : Nat) : List (List Nat) → List Nat
  | [] => []
  | [x] => x
  | x :: y :: r => x ++ c :: joinC c (y :: r)
theorem join_one_cs (c : Nat) : ∀ ys : List Str, (Str.join ⟨#[c]⟩ ys).cps.toList = joinC c (ys.map fun y => y.cps.toList)
  | [] => rfl
  | [y] => rfl
  | y :: u :: ys => by
    have ih := join_one_cs c (u :: ys)
    rw [join_cons_cons]
    show ((y.cps ++ #[c]) ++ (Str.join ⟨#[c]⟩ (u :: ys)).cps).toList = _
    rw [Array.toList_append, Array.toList_append, ih]
    simp [joinC]
theorem cut_first {c : Nat} {a b a' b' : List Nat} (ha : c ∉ a) (ha' : c ∉ a') (e : a ++ c :: b = a' ++ c :: b') : a = a' ∧ b = b' := by
  induction a generalizing a' with
  | nil =>
    cases a' with
    | nil => exact ⟨rfl, (List.cons.inj e).2⟩
    | cons x a' => exact absurd (List.mem_cons.mpr (.inl (List.cons.inj e).1)) ha'
  | cons x a ih =>
    cases a' with
    | nil => exact absurd (List.mem_cons.mpr (.inl (List.cons.inj e).1.symm)) ha
    | cons y a' =>
      obtain ⟨e1, e2⟩ := List.cons.inj e
      obtain ⟨r1, r2⟩ := ih (fun h => ha (List.mem_cons_of_mem _ h)) (fun h => ha' (List.mem_cons_of_mem _ h)) e2
      exact ⟨by rw [e1, r1], r2⟩
theorem joinC_inj {c : Nat} : ∀ {xs ys : List (List Nat)}, xs ≠ [] → ys ≠ [] → (∀ x ∈ xs, c ∉ x) → (∀ y ∈ ys, c ∉ y) → joinC c xs = joinC c ys → xs = ys
  | [], _, h, _, _, _, _ => absurd rfl h
  | _ :: _, [], _, h, _, _, _ => absurd rfl h
  | [x], [y], _, _, _, _, e => by rw [show x = y from e]
  | [x], y :: u :: ys, _, _, hx, _, e => by
    have e' : x = y ++ c :: joinC c (u :: ys) := e
    exact absurd (by rw [e']; simp) (hx x List.mem_cons_self)
  | x :: u :: xs, [y], _, _, _, hy, e => by
    have e' : x ++ c :: joinC c (u :: xs) = y := e
    exact absurd (by rw [← e']; simp) (hy y List.mem_cons_self)
  | x :: u :: xs, y :: v :: ys, _, _, hx, hy, e => by
    have e' : x ++ c :: joinC c (u :: xs) = y ++ c :: joinC c (v :: ys) := e
    obtain ⟨e1, e2⟩ := cut_first (hx x List.mem_cons_self) (hy y List.mem_cons_self) e'
    rw [e1, joinC_inj (by simp) (by simp) (fun z hz => hx z (List.mem_cons_of_mem _ hz)) (fun z hz => hy z (List.mem_cons_of_mem _ hz)) e2]
theorem split_at {z : Str} {c : Nat} {ps : List (List Nat)} (ez : z.cps.toList = joinC c ps) (h0 : ps ≠ []) (hp : ∀ p ∈ ps, c ∉ p) : Txt.split z ⟨#[c]⟩ = ps.map fun p => (⟨p.toArray⟩ : Str) := by
  have e1 := join_one_cs c (Txt.split z ⟨#[c]⟩)
  rw [StrLaws.join_split, ez] at e1
  have n1 : (Txt.split z ⟨#[c]⟩).map (fun y => y.cps.toList) ≠ [] := by
    intro e
    have := split_pos z ⟨#[c]⟩
    rw [List.map_eq_nil_iff.mp e] at this
    exact absurd this (by decide)
  have e2 := joinC_inj h0 n1 hp (fun y hy => by
    obtain ⟨p, hp', rfl⟩ := List.mem_map.mp hy
    exact StrLaws.split_free z c p hp') e1
  rw [e2, List.map_map]
  have e3 : ((fun p : List Nat => (⟨p.toArray⟩ : Str)) ∘ fun y : Str => y.cps.toList) = id := by
    funext y
    obtain ⟨a⟩ := y
    simp
  rw [e3, List.map_id]
end Km
set_option maxHeartbeats 1000000
namespace St
open PySem L2 Lo Km PySem.NumText
inductive Wd where
  | take | mean | sum | give | add | plus | need
  deriving DecidableEq
def wS : Wd → Str
  | .take => "take" | .mean => "mean" | .sum => "sum" | .give => "give" | .add => "add" | .plus => "plus" | .need => "need"
def wN : Wd → Str
  | .take => "TakeStep" | .mean => "MeanStep" | .sum => "SumStep" | .give => "GiveStep" | .add => "AddStep" | .plus => "PlusStep" | .need => "NeedStep"
def inN (i : Int) : Prop := 0 ≤ i ∧ i < 10 ^ 40
def inV (i : Int) : Prop := i.natAbs < 10 ^ 40
theorem inN.v {i : Int} (h : inN i) : inV i := by
  unfold inN at h
  unfold inV
  omega
def Ar : Wd → List Int → Prop
  | .take, [h, c] => inN h ∧ inN c
  | .mean, [h, c] => inN h ∧ inN c
  | .give, [h, c] => inN h ∧ inN c
  | .sum, [h, a, b] => inN h ∧ inN a ∧ inN b ∧ a ≤ b
  | .add, [h, c, v] => inN h ∧ inN c ∧ inV v
  | .plus, [v] => inV v
  | .need, [v] => inV v
  | _, _ => False
theorem Ar.all {w : Wd} {ns : List Int} (h : Ar w ns) : ∀ i ∈ ns, inV i := by
  unfold Ar at h
  split at h
  · intro i hi; simp only [List.mem_cons, List.mem_nil_iff, or_false] at hi; rcases hi with rfl | rfl <;> first | exact h.1.v | exact h.2.v
  · intro i hi; simp only [List.mem_cons, List.mem_nil_iff, or_false] at hi; rcases hi with rfl | rfl <;> first | exact h.1.v | exact h.2.v
  · intro i hi; simp only [List.mem_cons, List.mem_nil_iff, or_false] at hi; rcases hi with rfl | rfl <;> first | exact h.1.v | exact h.2.v
  · intro i hi; simp only [List.mem_cons, List.mem_nil_iff, or_false] at hi; rcases hi with rfl | rfl | rfl <;> first | exact h.1.v | exact h.2.1.v | exact h.2.2.1.v
  · intro i hi; simp only [List.mem_cons, List.mem_nil_iff, or_false] at hi; rcases hi with rfl | rfl | rfl <;> first | exact h.1.v | exact h.2.1.v | exact h.2.2
  · intro i hi; simp only [List.mem_cons, List.mem_nil_iff, or_false] at hi; rcases hi with rfl; exact h
  · intro i hi; simp only [List.mem_cons, List.mem_nil_iff, or_false] at hi; rcases hi with rfl; exact h
  · exact h.elim
def iS (i : Int) : Str := Str.ofString (toString i)
theorem iS_len {i : Int} (h : inV i) : (iS i).length ≤ 41 := by
  have e : (iS i).length = (numCs i).length := by
    unfold iS
    rw [← str_num]
    simp [Str.length]
  rw [e]
  unfold numCs
  have := digs_len (k := 40) (by decide) h
  split
  · rw [List.length_cons]; omega
  · omega
theorem num_32 (i : Int) : 32 ∉ numCs i := by
  have hd : ∀ m, 32 ∉ digs m := fun m hm => by
    have := digs_all m
    have h := this 32 hm
    omega
  unfold numCs
  split
  · intro hm
    rcases List.mem_cons.mp hm with e | e
    · cases e
    · exact hd _ e
  · exact hd _
def txt (w : Wd) (ns : List Int) : Str := Str.join (Str.ofString " ") (wS w :: ns.map iS)
theorem wS_32 (w : Wd) : 32 ∉ (wS w).cps.toList := by cases w <;> decide +kernel
theorem wS_len (w : Wd) : (wS w).length ≤ 4 := by cases w <;> decide +kernel
theorem sep_eq : (Str.ofString " ") = ⟨#[32]⟩ := by decide +kernel
theorem split_txt (w : Wd) (ns : List Int) : Txt.split (txt w ns) ⟨#[32]⟩ = wS w :: ns.map iS := by
  have e := join_one_cs 32 (wS w :: ns.map iS)
  have e2 : (txt w ns).cps.toList = joinC 32 ((wS w :: ns.map iS).map fun y => y.cps.toList) := by
    unfold txt
    rw [sep_eq]
    exact e
  rw [split_at e2 (by simp) (fun p hp => ?_)]
  · rw [List.map_map]
    have e3 : ((fun p : List Nat => (⟨p.toArray⟩ : Str)) ∘ fun y : Str => y.cps.toList) = id := by
      funext y
      obtain ⟨a⟩ := y
      simp
    rw [e3, List.map_id]
  · obtain ⟨y, hy, rfl⟩ := List.mem_map.mp hp
    rcases List.mem_cons.mp hy with e | hy
    · rw [e]; exact wS_32 w
    · obtain ⟨i, _, rfl⟩ := List.mem_map.mp hy
      have e4 : (iS i).cps.toList = numCs i := str_num i
      rw [e4]
      exact num_32 i
theorem Ar.len {w : Wd} {ns : List Int} (h : Ar w ns) : 1 ≤ ns.length ∧ ns.length ≤ 3 := by
  unfold Ar at h
  split at h <;> first | exact h.elim | (constructor <;> simp)
theorem sum_le {ys : List Str} {k : Nat} (h : ∀ y ∈ ys, y.length ≤ k) : (ys.map (·.length)).sum ≤ ys.length * k := by
  induction ys with
  | nil => simp
  | cons y ys ih =>
    have h1 := h y List.mem_cons_self
    have h2 := ih fun y hy => h y (List.mem_cons_of_mem _ hy)
    rw [List.map_cons, List.sum_cons, List.length_cons, Nat.succ_mul]
    omega
theorem words_le {w : Wd} {ns : List Int} (h : Ar w ns) : ∀ y ∈ wS w :: ns.map iS, y.length ≤ 41 := fun y hy => by
  rcases List.mem_cons.mp hy with e | hy
  · rw [e]; exact Nat.le_trans (wS_len w) (by decide)
  · obtain ⟨i, hi, rfl⟩ := List.mem_map.mp hy
    exact iS_len (h.all i hi)
theorem words_sum {w : Wd} {ns : List Int} (h : Ar w ns) : ((wS w :: ns.map iS).map (·.length)).sum + (wS w :: ns.map iS).length * (Str.ofString " ").length ≤ 1000 := by
  have h1 := sum_le (words_le h)
  have h2 := h.len
  have h3 : (Str.ofString " ").length = 1 := by decide +kernel
  rw [h3]
  have h4 : (wS w :: ns.map iS).length ≤ 4 := by rw [List.length_cons, List.length_map]; omega
  have h5 : (wS w :: ns.map iS).length * 41 ≤ 4 * 41 := Nat.mul_le_mul_right _ h4
  omega
def fsOf : Wd → List Int → List (Str × V)
  | .take, [h, c] => putF "cell" (.int c) (putF "where" (.int h) [])
  | .mean, [h, c] => putF "cell" (.int c) (putF "where" (.int h) [])
  | .give, [h, c] => putF "cell" (.int c) (putF "where" (.int h) [])
  | .sum, [h, a, b] => putF "high" (.int b) (putF "low" (.int a) (putF "where" (.int h) []))
  | .add, [h, c, v] => putF "amount" (.int v) (putF "cell" (.int c) (putF "where" (.int h) []))
  | .plus, [v] => putF "amount" (.int v) []
  | .need, [v] => putF "amount" (.int v) []
  | _, _ => []
def StO (C : Wd → Addr) (H : Hp) (w : Wd) (ns : List Int) (v : V) : Prop := ∃ a dx, v = .ref a ∧ H a = some (.ins (C w) dx (fsOf w ns))
theorem StO.keep {C : Wd → Addr} {H H' : Hp} {w : Wd} {ns : List Int} {v : V} (e : Same H H') (h : StO C H w ns v) : StO C H' w ns v := by
  obtain ⟨a, dx, rfl, q⟩ := h
  exact ⟨a, dx, rfl, e _ _ q⟩
def tSt (H : Hp) (w : Wd) (ns : List Int) (v : V) : Prop := ∃ a, v = .ref a ∧ H a = some (.tup (.str (wS w) :: ns.map V.int))
end St
set_option maxHeartbeats 1000000
namespace L2
open PySem PySem.Spec PyProof.Rows
section
variable {X : Cx} {CX : CXT} {E : XK} {k : Nat} {C f : Addr} {fd : FuncData} {ps : List Str} {sp : Sp} {m : Str} {o e : Expr} {es : List Expr} {t : TA} {ty : TE} {pos apos cpos p : Pos} {mc : Value}
structure ClsFn (K : PySem.W.Frag) (C : Addr) (m : Str) (f : Addr) : Prop where
  ga : PySem.W.specialIn K (.ref C) "__getattribute__" = some (some (.builtin "type.__getattribute__"))
  rd : PySem.W.readsIn K C (.type "type") = true
  fc : PySem.W.findCls K (.ref C) (.type "type") m = some (.val (.ref f))
  hi : PySem.W.handedIn (.ref f) = true
  kp : PySem.W.keepIn K (.ref f) = true
theorem pe_clsm {pl : Sem Bool} (ho : PE X o (tC (.ref C))) (c : ClsFn X.K C m f) (F : FnOk X.prog X.w X.K X.mg X.base CX k f fd ps sp) (hr : Room k X.A) (hb : Binds X.K fd ps []) (hx : Passes CX X E) (ha : PA X (e :: es) t)
    (hst : starEach (e :: es) X.env = (false, eval e X.env) :: starEach es X.env := by rfl) (hpl : (backTo pos (starEach es X.env)).any (·.1) = false := by rfl)
    (ht : eval (.Call (.Attribute o m apos) (e :: es) [] pos) X.env = (do
      let ov ← eval o X.env
      standAt apos.atName
      let (f, first) ← holding [ov] (getMethod ov m pl)
      callWith pos f first (backTo pos (starEach (e :: es) X.env)) (backToKw pos (keywordEach [] X.env))) := by rfl) (hcq : X.calm = true := by rfl) :
    PE X (.Call (.Attribute o m apos) (e :: es) [] pos) (tCall sp [] E t) := by
  intro pins s σ H Q I h
  refine PySem.W.methodCall_KW (pl := pl) (thn (ho pins s σ H (fun x H1 => x = .ref C ∧ t σ H1 fun vs H2 => sp (vs ++ []) H2 Q E) I ⟨rfl, h⟩) fun u s1 ⟨x, H1, I1, rx, ex, q⟩ => ?_) ht
  subst ex
  obtain rfl : u = Value.ref C := rx
  refine PySem.W.method_cls I1.kIn c.ga (PySem.W.cls_value I1.kIn c.rd c.fc c.hi ?_)
  have I2 : Inv X pins σ H1 { s1 with toks := s1.toks + 1 } := I1.tok _
  refine PySem.W.callWith_K (first := []) (h₀ := X.base) I.ok.mod.kin c.kp (thn (ha pos pins _ σ H1 _ I2 q) fun us s2 ⟨vs, H2, I3, r, q2⟩ => ⟨I3.kIn, ?_⟩) hst hpl
  exact run_fn hcq (us := us) (vs := vs) F hr hb .nil hx I3 r q2
theorem mt_lstripC : MtR X "str.lstrip" (fun x vs H Q => ∃ z y, x = .str z ∧ vs = [.str y] ∧ z.length ≤ sizeLine ∧ Q (.str (Txt.lstripChars z y)) H) := by
  intro pins s σ H x xs v us Q I rx r h
  obtain ⟨z, y, rfl, rfl, hz, q⟩ := h
  obtain ⟨t, rfl⟩ := rx
  obtain ⟨u, rfl, ⟨t1, rfl⟩⟩ := vals1 r
  exact SC.lstripChars (fun t' k => ⟨.str _, H, I.tok _, ⟨_, rfl⟩, q⟩) hz
end
end L2
set_option maxHeartbeats 1000000
namespace St
open PySem L2 Lo Km PySem.NumText
structure TxW (K : PySem.W.Frag) (CW : Wd → Addr) : Prop where
  cl : ∀ w, Cls K (CW w)
  nW : ∀ w, NoAttr K (CW w) "where"
  nC : ∀ w, NoAttr K (CW w) "cell"
  nL : ∀ w, NoAttr K (CW w) "low"
  nH : ∀ w, NoAttr K (CW w) "high"
  nA : ∀ w, NoAttr K (CW w) "amount"
def isC : Wd → Bool
  | .take => true | .mean => true | .give => true | _ => false
theorem lk_hit {f : Str} {v : V} {fs : List (Str × V)} : (putF f v fs).lookup f = some v := by rw [lookup_putF, if_pos rfl]
theorem lk_miss {f g : Str} {v : V} {fs : List (Str × V)} (h : ¬ g = f) : (putF f v fs).lookup g = fs.lookup g := by rw [lookup_putF, if_neg h]
section
variable (CW : Wd → Addr)
def spWInit (w : Wd) : Sp := fun vs H Q _ => ∃ a dx ns, vs = .ref a :: (ns : List Int).map V.int ∧ Ar w ns ∧ H a = some (.ins (CW w) dx []) ∧ ∀ H', H' a = some (.ins (CW w) dx (fsOf w ns)) → Kp a H H' → Q .non H'
def spCInit : Sp := fun vs H Q _ => ∃ a dx w h c, vs = [.ref a, .int h, .int c] ∧ H a = some (.ins (CW w) dx []) ∧ ∀ H', H' a = some (.ins (CW w) dx (putF "cell" (.int c) (putF "where" (.int h) []))) → Kp a H H' → Q .non H'
def spSpelled (w : Wd) : Sp := fun vs H Q _ => ∃ v ns, vs = [v] ∧ Ar w ns ∧ StO CW H w ns v ∧ ∀ H', Same H H' → Q (.str (txt w ns)) H'
end
def spSpell : Sp := fun vs H Q _ => ∃ w q ns, vs = [.str (wS w), .ref q] ∧ H q = some (.lst ((ns : List Int).map V.int)) ∧ Ar w ns ∧ ∀ H', Same H H' → Q (.str (txt w ns)) H'
theorem log_v {i : Int} (h : inV i) : i.natAbs.log2 < 1920 := by
  by_cases h0 : i.natAbs = 0
  · rw [h0]; decide
  · exact (Nat.log2_lt h0).mpr (Nat.lt_trans h (by decide +kernel))
theorem Ar.c {w : Wd} {ns : List Int} (hw : isC w = true) (h : Ar w ns) : ∃ a b, ns = [a, b] ∧ inN a ∧ inN b ∧ fsOf w ns = putF "cell" (.int b) (putF "where" (.int a) []) := by
  cases w <;> first | cases hw | skip
  all_goals
    match ns, h with
    | [a, b], h => exact ⟨a, b, rfl, h.1, h.2, rfl⟩
theorem Ar.s {ns : List Int} (h : Ar .sum ns) : ∃ a b c, ns = [a, b, c] ∧ inN a ∧ inN b ∧ inN c ∧ b ≤ c := by
  match ns, h with
  | [a, b, c], h => exact ⟨a, b, c, rfl, h⟩
theorem Ar.a {ns : List Int} (h : Ar .add ns) : ∃ a b c, ns = [a, b, c] ∧ inN a ∧ inN b ∧ inV c := by
  match ns, h with
  | [a, b, c], h => exact ⟨a, b, c, rfl, h⟩
theorem Ar.p {ns : List Int} (h : Ar .plus ns) : ∃ a, ns = [a] ∧ inV a := by
  match ns, h with
  | [a], h => exact ⟨a, rfl, h⟩
theorem Ar.n {ns : List Int} (h : Ar .need ns) : ∃ a, ns = [a] ∧ inV a := by
  match ns, h with
  | [a], h => exact ⟨a, rfl, h⟩
end St
set_option maxHeartbeats 1000000
namespace St
open PySem PySem.Spec PyProof.Rows L2 Lo Km PySem.NumText
section
variable {K : PySem.W.Frag} {H : Hp} {a : Addr} {bl : L2.St} {te : TE} {Fin : List V → Hp → Prop}
theorem lc_ints {g : Int → V} {ns : List Int} (hq : SqL K H a (ns.map V.int)) (hn : ns.length ≤ sizeLine)
    (he : ∀ i H1 (Q : VK), i ∈ ns → Same H H1 → (∀ H2, Same H1 H2 → Q (g i) H2) → te (some (.int i) :: bl) H1 Q)
    (hd : ∀ H1, Same H H1 → Fin (ns.map g) H1) :
    ∃ (W : Nat → List V → Hp → Prop) (n : Nat), W 0 [] H ∧ n ≤ sizeLine ∧ ∀ i ys H, W i ys H → ((Itl K a).stop i H ∧ Fin ys H) ∨
      ((Itl K a).go i H ∧ i < n ∧ ∀ x H', (Itl K a).yld i H x H' → tAll (some x :: bl) H' fun c H2 => if c = true then te (some x :: bl) H2 fun y H3 => W (i + 1) (ys ++ [y]) H3 else W (i + 1) ys H2) := by
  refine lc_list (tt := tAll) (xs := ns.map V.int) (fun i ys H1 => Same H H1 ∧ ys = (ns.take i).map g) ⟨Same.refl _, rfl⟩ (by rw [List.length_map]; exact hn) (fun i ys H1 _ z => z.1.seq hq) ?_ ?_
  · rintro i x ys H1 hx ⟨s1, rfl⟩
    rw [List.getElem?_map] at hx
    obtain ⟨n, hn, rfl⟩ := Option.map_eq_some_iff.mp hx
    refine tAllT (he n H1 _ (List.mem_of_getElem? hn) s1 fun H2 s2 => ⟨s1.trans s2, ?_⟩)
    rw [List.take_add_one, hn]
    simp
  · rintro ys H1 ⟨s1, rfl⟩
    rw [List.length_map, List.take_length]
    exact hd H1 s1
theorem lc_intsT {g : Int → V} {ns : List Int} (hq : H a = some (.tup (ns.map V.int))) (hn : ns.length ≤ sizeLine)
    (he : ∀ i H1 (Q : VK), i ∈ ns → Same H H1 → (∀ H2, Same H1 H2 → Q (g i) H2) → te (some (.int i) :: bl) H1 Q)
    (hd : ∀ H1, Same H H1 → Fin (ns.map g) H1) :
    ∃ (W : Nat → List V → Hp → Prop) (n : Nat), W 0 [] H ∧ n ≤ sizeLine ∧ ∀ i ys H, W i ys H → ((Itt K a).stop i H ∧ Fin ys H) ∨
      ((Itt K a).go i H ∧ i < n ∧ ∀ x H', (Itt K a).yld i H x H' → tAll (some x :: bl) H' fun c H2 => if c = true then te (some x :: bl) H2 fun y H3 => W (i + 1) (ys ++ [y]) H3 else W (i + 1) ys H2) := by
  refine lc_tup (tt := tAll) (xs := ns.map V.int) (fun i ys H1 => Same H H1 ∧ ys = (ns.take i).map g) ⟨Same.refl _, rfl⟩ (by rw [List.length_map]; exact hn) (fun i ys H1 _ z => SqT.of (z.1 _ _ hq)) ?_ ?_
  · rintro i x ys H1 hx ⟨s1, rfl⟩
    rw [List.getElem?_map] at hx
    obtain ⟨n, hn, rfl⟩ := Option.map_eq_some_iff.mp hx
    refine tAllT (he n H1 _ (List.mem_of_getElem? hn) s1 fun H2 s2 => ⟨s1.trans s2, ?_⟩)
    rw [List.take_add_one, hn]
    simp
  · rintro ys H1 ⟨s1, rfl⟩
    rw [List.length_map, List.take_length]
    exact hd H1 s1
end
theorem at0 {x : V} {xs : List V} : atI (x :: xs) 0 = some x := atI_nat (j := 0) rfl
theorem at1 {x y : V} {xs : List V} : atI (x :: y :: xs) 1 = some y := atI_nat (j := 1) rfl
theorem at2 {x y z : V} {xs : List V} : atI (x :: y :: z :: xs) 2 = some z := atI_nat (j := 2) rfl
theorem wS_inj {a b : Wd} (h : wS a = wS b) : a = b := by
  cases a <;> cases b <;> first | rfl | exact absurd h (by decide +kernel)
theorem w_hit {a b : Wd} (c : decide (V.str (wS a) = V.str (wS b)) = true) : a = b := wS_inj (V.str.inj (of_decide_eq_true c))
theorem w_miss {a b : Wd} (c : ¬ decide (V.str (wS a) = V.str (wS b)) = true) : a ≠ b := fun e => c (by rw [e]; exact decide_eq_true rfl)
theorem w_need {a : Wd} (h1 : a ≠ .take) (h2 : a ≠ .mean) (h3 : a ≠ .sum) (h4 : a ≠ .give) (h5 : a ≠ .add) (h6 : a ≠ .plus) : a = .need := by
  cases a <;> first | rfl | contradiction
def shp : Wd → Str
  | .take => "HC" | .mean => "HC" | .sum => "HAB" | .give => "HC" | .add => "HCV" | .plus => "V" | .need => "V"
def shapesD : List (Str × PyProof.Rows.KTD.Dat) := [("take", .flat (.str "HC")), ("mean", .flat (.str "HC")), ("sum", .flat (.str "HAB")), ("give", .flat (.str "HC")), ("add", .flat (.str "HCV")), ("plus", .flat (.str "V")), ("need", .flat (.str "V"))]
theorem shape_at (w : Wd) : PyProof.Rows.KTD.datumAt (wS w) shapesD = some (.flat (.str (shp w))) := by
  cases w <;> kernel_rfl
theorem shp_len {w : Wd} {ns : List Int} (h : Ar w ns) : (shp w).length = ns.length := by
  unfold Ar at h
  split at h <;> first | exact h.elim | kernel_rfl
theorem shp_line (w : Wd) : (shp w).length ≤ sizeLine := by cases w <;> decide +kernel
theorem neg_no {i : Int} {p : Prop} (h : inN i) : i < 0 → p := fun z => absurd z (by unfold inN at h; omega)
theorem shp_at {w : Wd} {ns : List Int} {k : Nat} {i : Int} (h : Ar w ns) (hi : ns[k]? = some i) : ∃ c, (shp w).cps.toList[k]? = some c ∧ (i < 0 → c = 86) := by
  unfold Ar at h
  split at h
  · rcases k with _ | _ | k
    · cases hi; exact ⟨72, by decide +kernel, neg_no h.1⟩
    · cases hi; exact ⟨67, by decide +kernel, neg_no h.2⟩
    · simp at hi
  · rcases k with _ | _ | k
    · cases hi; exact ⟨72, by decide +kernel, neg_no h.1⟩
    · cases hi; exact ⟨67, by decide +kernel, neg_no h.2⟩
    · simp at hi
  · rcases k with _ | _ | k
    · cases hi; exact ⟨72, by decide +kernel, neg_no h.1⟩
    · cases hi; exact ⟨67, by decide +kernel, neg_no h.2⟩
    · simp at hi
  · rcases k with _ | _ | _ | k
    · cases hi; exact ⟨72, by decide +kernel, neg_no h.1⟩
    · cases hi; exact ⟨65, by decide +kernel, neg_no h.2.1⟩
    · cases hi; exact ⟨66, by decide +kernel, neg_no h.2.2.1⟩
    · simp at hi
  · rcases k with _ | _ | _ | k
    · cases hi; exact ⟨72, by decide +kernel, neg_no h.1⟩
    · cases hi; exact ⟨67, by decide +kernel, neg_no h.2.1⟩
    · cases hi; exact ⟨86, by decide +kernel, fun _ => rfl⟩
    · simp at hi
  · rcases k with _ | k
    · cases hi; exact ⟨86, by decide +kernel, fun _ => rfl⟩
    · simp at hi
  · rcases k with _ | k
    · cases hi; exact ⟨86, by decide +kernel, fun _ => rfl⟩
    · simp at hi
  · exact h.elim
theorem iS_cs (i : Int) : (iS i).cps.toList = numCs i := str_num i
theorem num_in {i : Int} {c : Nat} (h : c ∈ numCs i) : c = 45 ∨ (48 ≤ c ∧ c ≤ 57) := by
  have hd : ∀ m, c ∈ digs m → 48 ≤ c ∧ c ≤ 57 := fun m hm => digs_all m c hm
  unfold numCs at h
  split at h
  · rcases List.mem_cons.mp h with e | e
    · exact .inl e
    · exact .inr (hd _ e)
  · exact .inr (hd _ h)
theorem joinC_len (c : Nat) : ∀ ls : List (List Nat), (joinC c ls).length ≤ (ls.map (·.length)).sum + ls.length
  | [] => Nat.zero_le _
  | [x] => by simp [joinC]
  | x :: y :: r => by
    have h := joinC_len c (y :: r)
    show (x ++ c :: joinC c (y :: r)).length ≤ _
    rw [List.length_append, List.length_cons, List.map_cons, List.sum_cons, List.length_cons (a := x)]
    omega
theorem cut_one (x : V) (xs : List V) : cutV (x :: xs) (some 1) none = xs := by
  unfold cutV
  rw [HT.sIx_none, show (some (1 : Int)) = some ((1 : Nat) : Int) from rfl, HT.sIx_nat, List.length_cons, Nat.min_eq_left (by omega)]
  simp
theorem cut_one_no (x : V) (xs : List V) : ¬ (HT.sIx (x :: xs).length 0 (some (1 : Int)) = 0 ∧ HT.sIx (x :: xs).length (x :: xs).length none = (x :: xs).length) := by
  rintro ⟨h, _⟩
  rw [show (some (1 : Int)) = some ((1 : Nat) : Int) from rfl, HT.sIx_nat, List.length_cons] at h
  omega
theorem w_of (i : Int) (h0 : 0 ≤ i) (h7 : i < 7) : ∃ w, atI ([.str "take", .str "mean", .str "sum", .str "give", .str "add", .str "plus", .str "need"] : List V) i = some (.str (wS w)) := by
  have : i = 0 ∨ i = 1 ∨ i = 2 ∨ i = 3 ∨ i = 4 ∨ i = 5 ∨ i = 6 := by omega
  rcases this with rfl | rfl | rfl | rfl | rfl | rfl | rfl
  · exact ⟨.take, rfl⟩
  · exact ⟨.mean, rfl⟩
  · exact ⟨.sum, rfl⟩
  · exact ⟨.give, rfl⟩
  · exact ⟨.add, rfl⟩
  · exact ⟨.plus, rfl⟩
  · exact ⟨.need, rfl⟩
theorem fs_no {m : Str} (h1 : ¬ m = "where") (h2 : ¬ m = "cell") (h3 : ¬ m = "low") (h4 : ¬ m = "high") (h5 : ¬ m = "amount") (w : Wd) (ns : List Int) : (fsOf w ns).lookup m = none := by
  unfold fsOf
  split <;> simp only [lk_miss h1, lk_miss h2, lk_miss h3, lk_miss h4, lk_miss h5, List.lookup_nil]
theorem mk_kp {H H' : Hp} {x dx : Addr} {o1 o2 : HO} (nx : H x = none) (nd : H dx = none) (k : Kp x (upd (upd H dx o1) x o2) H') : Same H H' := fun b o e => by
  have hx : b ≠ x := fun z => by rw [z, nx] at e; cases e
  have hd : b ≠ dx := fun z => by rw [z, nd] at e; cases e
  exact k b o hx (by rw [upd_ne hx, upd_ne hd]; exact e)
structure WI (P : Program) (w : World) (K : PySem.W.Frag) (mg : Str → Option Value) (base : Heap) (CW : Wd → Addr) (wd : Wd) where
  fI : Addr
  dI : FuncData
  ps : List Str
  M : Mk K (CW wd) fI
  ok : FnOk P w K mg base CX0 2 fI dI ps (spWInit CW wd)
  b : Binds K dI ps []
  m : mg (wN wd) = some (.ref (CW wd))
section
variable (CW : Wd → Addr)
end
def spMixed : Sp := fun vs H Q _ => ∃ c k, vs = [.int c, .int k] ∧ ∀ r, 0 ≤ r → r < 2147483647 → Q (.int r) H
def spNumber : Sp := fun vs H Q _ => ∃ c k, vs = [.int c, .int k] ∧ ∀ r, inN r → Q (.int r) H
def spEither : Sp := fun vs H Q _ => ∃ c k, vs = [.int c, .int k] ∧ ∀ r, inV r → Q (.int r) H
def spLStep : Sp := fun vs H Q _ => ∃ c, vs = [.int c] ∧ ∀ wd ns v H', Ar wd ns → Same H H' → tSt H' wd ns v → Q v H'
def spLText : Sp := fun vs H Q _ => ∃ wd ns v, vs = [v] ∧ tSt H wd ns v ∧ Ar wd ns ∧ ∀ H', Same H H' → Q (.str (txt wd ns)) H'
end St
namespace XA
open PySem
def KD (od : Option Addr × Value) (e : Addr) (h : Heap) : Prop := ∃ o vs, h.get? e = some o ∧ o.dict = od.1 ∧ o.data = .fields vs ∧ vs[2]? = some od.2
theorem dict_mapF (o : Obj) (f) : (o.mapFields f).dict = o.dict := by
  unfold Obj.mapFields
  split <;> rfl
def tbO (head : Value) (L : Addr) (pl : List Value) : Obj :=
  { cls := .type "traceback", dict := none,
    data := .fields ([head, .ref L, .none, rawInt L, .none] ++ (if pl.isEmpty then List.replicate 6 Value.none else pl)).toArray }
section
variable {M : Model} {A : Around} {E : Value → Shared → Prop} {s : Shared} {base : Heap} {env : Env} {outer : List Env} {L e : Addr} {od : Option Addr × Value} {cls a0 : Value}
theorem entryD {oe : Obj} {vs : Array Value} {head : Value} {hadNext : Bool} {Q : Unit → Shared → Prop} (hfr : A.frames = some (env :: outer))
    (hl : s.heap.FunFrames base (env :: outer)) (hf : env.frame = some L) (he : s.heap.get? e = some oe) (ho : oe.dict = od.1) (hkb : base.StaysIn s.heap)
    (hen : base.get? e = none) (hd : oe.data = .fields vs) (hsz : 1 < vs.size) (h0 : vs[0]? = some a0) (hcx : vs[2]? = some od.2)
    (k : ∀ h', Heap.NotedW base (env :: outer) e oe.cls a0 (rawInt L) s.heap h' → KD od e h' → Q () { s with heap := h' }) :
    wpAny M A (do let a ← frameOf env; let pl ← entryPlaceOf L hadNext; let b ← EntryCells.newEntry head a .none (rawInt L) .none pl; setField (.ref e) 1 b) Q E s := by
  have ne : e ∉ (env :: outer).filterMap (·.frame) := fun z => by
    obtain ⟨_, o, q, nf⟩ := hl.mem z
    rw [he] at q; injection q with q; subst q; exact nf vs hd
  refine wpAny_bind (wpAny_frameOf_fun hfr hl hf fun g hg => wpAny_bind (wpAny_entryPlaceOf fun pl hpl => ?_))
  unfold EntryCells.newEntry newFields
  refine wpAny_bind (wpAny_newObj_type ?_ (hpl.sizeOk5 _ _ _ _ _))
  have e1 : g.get? e = some oe := (hg.2.1 e ne).trans he
  have k1 : base.StaysIn g := fun b o q => (hg.2.1 b fun z => by rw [(hl.mem z).1] at q; cases q).trans (hkb b o q)
  have e2 := Heap.get?_push_of_some (h := g) (tbO head L pl) e1
  refine wpAny_setField e2 hd hsz ?_
  have Te : g.objs.size ≠ e := Nat.ne_of_gt (Heap.lt_size e1)
  have d3 := Obj.data_mapFields hd (·.setIfInBounds 1 (Value.ref g.objs.size))
  have e3 := Heap.get?_update_self (Obj.mapFields (·.setIfInBounds 1 (Value.ref g.objs.size))) e2 (Obj.isFreed_of_fields d3)
  have T3 := (Heap.get?_update_other (g.push (tbO head L pl)) (Obj.mapFields (·.setIfInBounds 1 (Value.ref g.objs.size))) (Ne.symm Te)).trans (Heap.get?_push_size g rfl)
  have kp : ∀ b o, b ≠ e → g.get? b = some o → ((g.push (tbO head L pl)).update e (Obj.mapFields (·.setIfInBounds 1 (Value.ref g.objs.size)))).get? b = some o := fun b o n q => by
    rw [Heap.get?_update_other _ _ (Ne.symm n)]
    exact Heap.get?_push_of_some _ q
  have nr : ∀ b o, s.heap.get? b = some o → (∀ vs, o.data ≠ .fields vs) → b ≠ e := fun b o q nf z => by
    rw [z, he] at q; injection q with q; subst q; exact nf vs hd
  refine k _ ⟨fun b o q => kp b o (fun z => by rw [z, hen] at q; cases q) (k1 b o q), hl.of_keeps fun b o q nf => ?_, ?_, fun b o q nf => ?_⟩ ⟨_, _, e3, (dict_mapF _ _).trans ho, d3, by rw [Array.getElem?_setIfInBounds_ne (by decide)]; exact hcx⟩
  · obtain ⟨sl, z⟩ := hg.2.2 b o q
    exact ⟨_, kp b _ (nr b o q nf) z, rfl⟩
  · refine ⟨_, _, g.objs.size, _, _, e3, ⟨Obj.cls_mapFields _ _, ?_⟩, d3, by simp [hsz], k1.fresh, Te, T3, rfl, ?_⟩
    · rw [Array.getElem?_setIfInBounds_ne (by decide)]; exact h0
    · first | (simp; done) | (rcases hpl with rfl | ⟨_, _, _, _, _, _, _, rfl⟩ <;> simp)
  · obtain ⟨sl, z⟩ := hg.2.2 b o q
    exact ⟨sl, kp b _ (nr b o q nf) z⟩
theorem note1D {oe : Obj} {vs : Array Value} {Q : Unit → Shared → Prop} (hfr : A.frames = some (env :: outer)) (hl : s.heap.FunFrames base (env :: outer)) (hf : env.frame = some L)
    (he : s.heap.get? e = some oe) (ho : oe.dict = od.1) (hkb : base.StaysIn s.heap) (hen : base.get? e = none) (hd : oe.data = .fields vs) (h1 : vs[1]? = some .none) (h0 : vs[0]? = some a0) (hcx : vs[2]? = some od.2)
    (k : ∀ h', Heap.NotedW base (env :: outer) e oe.cls a0 (rawInt L) s.heap h' → KD od e h' → Q () { s with heap := h' }) : wpAny M A (noteFrame (.ref e) env) Q E s := by
  unfold noteFrame
  simp only [hf]
  refine wpAny_bind (wpAny_field he hd h1 ?_)
  rw [if_neg (by decide)]
  exact entryD hfr hl hf he ho hkb hen hd (Array.getElem?_eq_some_iff.mp h1).1 h0 hcx k
theorem noteD {fl : Value} {Q : Unit → Shared → Prop} (hfr : A.frames = some (env :: outer)) (hl : s.heap.FunFrames base (env :: outer)) (hf : env.frame = some L) (ht : s.heap.TracedAtW base e cls a0 fl) (kd : KD od e s.heap) (hkb : base.StaysIn s.heap) (hen : base.get? e = none)
    (k : ∀ h', Heap.NotedW base (env :: outer) e cls a0 (rawInt L) s.heap h' → KD od e h' → Q () { s with heap := h' }) : wpAny M A (noteFrame (.ref e) env) Q E s := by
  obtain ⟨oe, vs, T, oT, ts, he, ⟨rfl, h0⟩, hd, h1, hnT, hTe, hT, hdT, h3⟩ := ht
  obtain ⟨o2, vs2, z2, ho, hd2, hcx⟩ := kd
  rw [he] at z2; cases z2
  rw [hd] at hd2; cases hd2
  unfold noteFrame
  simp only [hf]
  refine wpAny_bind (wpAny_field he hd h1 ?_)
  rw [if_pos (show (Value.ref T != Value.none) = true from by simp)]
  refine wpAny_bind (wpAny_field hT hdT h3 ?_)
  split
  · rename_i z
    obtain rfl : fl = rawInt L := by simpa using z
    exact wpAny_pure (k s.heap ⟨hkb, hl, ⟨oe, vs, T, oT, ts, he, ⟨rfl, h0⟩, hd, h1, hnT, hTe, hT, hdT, h3⟩, fun b o q _ => ⟨o.slots, q⟩⟩ ⟨oe, vs, he, ho, hd, hcx⟩)
  refine wpAny_bind (wpAny_setField hT hdT (Array.getElem?_eq_some_iff.mp h3).1 ?_)
  have ot : ∀ b, b ≠ T → (s.heap.update T (Obj.mapFields (·.setIfInBounds 3 Value.none))).get? b = s.heap.get? b := fun b n => Heap.get?_update_other _ _ (Ne.symm n)
  have nr : ∀ b o, s.heap.get? b = some o → (∀ vs, o.data ≠ .fields vs) → b ≠ T := fun b o q nf z => by
    rw [z, hT] at q; injection q with q; subst q; exact nf ts hdT
  refine entryD hfr (hl.of_keeps fun b o q nf => ⟨o, (ot b (nr b o q nf)).trans q, rfl⟩) hf ((ot e (Ne.symm hTe)).trans he) ho
    (fun b o q => (ot b fun z => by rw [z, hnT] at q; cases q).trans (hkb b o q)) hen hd (Array.getElem?_eq_some_iff.mp h1).1 h0 hcx fun h' ⟨x1, x2, x3, x4⟩ => k h' ⟨x1, x2, x3, fun b o q nf => x4 b o ((ot b (nr b o q nf)).trans q) nf⟩
theorem flightD {l : List Env} {fl : Value} {Q : Unit → Shared → Prop} (hkb : base.StaysIn s.heap) (hl : s.heap.FunFrames base l) (ht : s.heap.TracedAtW base e cls a0 fl) (kd : KD od e s.heap)
    (k : ∀ h', base.StaysIn h' → h'.FunFrames base l → h'.TracedW base e cls a0 → KD od e h' → (∀ b o, s.heap.get? b = some o → (∀ vs, o.data ≠ .fields vs) → h'.get? b = some o) → Q () { s with heap := h' }) :
    wpAny M A (setFlight (.ref e) none) Q E s := by
  obtain ⟨oe, vs, T, oT, ts, he, hcls, hd, h1, hnT, hTe, hT, hdT, h3⟩ := ht
  obtain ⟨o2, vs2, z2, ho, hd2, hcx⟩ := kd
  rw [he] at z2; cases z2
  rw [hd] at hd2; cases hd2
  have h3' : 3 < ts.size := (Array.getElem?_eq_some_iff.mp h3).1
  have ot : ∀ b, b ≠ T → (s.heap.update T (Obj.mapFields (·.setIfInBounds 3 ((none : Option Addr).elim Value.none fun f => rawInt f)))).get? b = s.heap.get? b := fun b n => Heap.get?_update_other _ _ (Ne.symm n)
  have nr : ∀ b o, s.heap.get? b = some o → (∀ vs, o.data ≠ .fields vs) → b ≠ T := fun b o q nf z => by
    rw [z, hT] at q; injection q with q; subst q; exact nf ts hdT
  unfold setFlight
  refine wpAny_bind (wpAny_field he hd h1 ?_)
  rw [if_pos (show (Value.ref T != Value.none) = true from by simp)]
  have ee := (ot e (Ne.symm hTe)).trans he
  refine wpAny_setField hT hdT h3' (k _ (fun b o q => (ot b fun z => by rw [z, hnT] at q; cases q).trans (hkb b o q)) (hl.of_keeps fun b o q nf => ⟨o, (ot b (nr b o q nf)).trans q, rfl⟩) ?_ ⟨oe, vs, ee, ho, hd, hcx⟩ fun b o q nf => (ot b (nr b o q nf)).trans q)
  exact ⟨oe, vs, T, _, _, ee, hcls, hd, h1, hnT, hTe, Heap.get?_update_self _ hT (Obj.isFreed_of_fields (Obj.data_mapFields hdT _)), Obj.data_mapFields hdT _, by simp [h3']⟩
def FlyD (base : Heap) (l : List Env) (e : Addr) (cls a0 : Value) (od : Option Addr × Value) (h : Heap) : Prop := Heap.FlyingW base l e cls a0 h ∧ KD od e h
def HeldD (base : Heap) (l : List Env) (e : Addr) (cls a0 : Value) (od : Option Addr × Value) (L : Addr) (h : Heap) : Prop := Heap.HeldW base l e cls a0 L h ∧ KD od e h
theorem looksD {Q : Unit → Shared → Prop} (hfr : A.frames = some (env :: outer)) (hf : env.frame = some L) (fl : FlyD base (env :: outer) e cls a0 od s.heap)
    (k : ∀ h', HeldD base (env :: outer) e cls a0 od L h' → s.heap.UpToSlots h' → Q () { s with heap := h' }) : wpAny M A (noteFrame (.ref e) env) Q E s := by
  obtain ⟨⟨f1, f2, f3, f4⟩, kd⟩ := fl
  exact noteD hfr f3 hf f4.at kd f1 f2 fun h' ⟨k1, k2, k3, k4⟩ z => k h' ⟨⟨k1, f2, k2, k3⟩, z⟩ k4
theorem landsD {l : List Env} {Q : Unit → Shared → Prop} (hh : HeldD base l e cls a0 od L s.heap) (k : ∀ h', FlyD base l e cls a0 od h' → s.heap.UpToSlots h' → Q () { s with heap := h' }) : wpAny M A (setFlight (.ref e) none) Q E s := by
  obtain ⟨⟨f1, f2, f3, f4⟩, kd⟩ := hh
  exact flightD f1 f3 f4 kd fun h' k1 k2 k3 k4 k5 => k h' ⟨⟨k1, f2, k2, k3⟩, k4⟩ fun b o q nf => ⟨o.slots, k5 b o q nf⟩
theorem againD {l : List Env} {Q : Unit → Shared → Prop} (hh : FlyD base l e cls a0 od s.heap) (k : ∀ h', FlyD base l e cls a0 od h' → s.heap.UpToSlots h' → Q () { s with heap := h' }) : wpAny M A (setFlight (.ref e) none) Q E s := by
  obtain ⟨⟨f1, f2, f3, f4⟩, kd⟩ := hh
  exact flightD f1 f3 f4.at kd fun h' k1 k2 k3 k4 k5 => k h' ⟨⟨k1, f2, k2, k3⟩, k4⟩ fun b o q nf => ⟨o.slots, k5 b o q nf⟩
theorem leavesD {Q : Unit → Shared → Prop} (hfr : A.frames = some (env :: outer)) (hf : env.frame = some L) (fl : FlyD base (env :: outer) e cls a0 od s.heap)
    (k : ∀ h', FlyD base outer e cls a0 od h' → s.heap.UpToSlots h' → Q () { s with heap := h' }) : wpAny M A (leaving env (.ref e)) Q E s := by
  unfold leaving
  refine wpAny_bind (looksD hfr hf fl fun h1 hh u1 => landsD hh fun h2 ⟨⟨k1, k2, ⟨_, _, k3⟩, k4⟩, k5⟩ u2 => k h2 ⟨⟨k1, k2, k3, k4⟩, k5⟩ (u1.trans u2))
theorem leaves1D {oe : Obj} {vs : Array Value} {Q : Unit → Shared → Prop} (hfr : A.frames = some (env :: outer)) (hf : env.frame = some L) (hl : s.heap.FunFrames base (env :: outer))
    (he : s.heap.get? e = some oe) (ho : oe.dict = od.1) (hkb : base.StaysIn s.heap) (hen : base.get? e = none) (hd : oe.data = .fields vs) (h1 : vs[1]? = some .none) (h0 : vs[0]? = some a0) (hcx : vs[2]? = some od.2)
    (k : ∀ h', FlyD base outer e oe.cls a0 od h' → s.heap.UpToSlots h' → Q () { s with heap := h' }) : wpAny M A (leaving env (.ref e)) Q E s := by
  unfold leaving
  refine wpAny_bind (note1D hfr hl hf he ho hkb hen hd h1 h0 hcx fun h1 ⟨k1, k2, k3, k4⟩ kd => ?_)
  exact landsD (L := L) (l := env :: outer) ⟨⟨k1, hen, k2, k3⟩, kd⟩ fun h2 ⟨⟨j1, j2, ⟨_, _, j3⟩, j4⟩, j5⟩ u2 => k h2 ⟨⟨j1, j2, j3, j4⟩, j5⟩ (Heap.UpToSlots.trans k4 u2)
theorem leavesF {fl : Value} {Q : Unit → Shared → Prop} (hfr : A.frames = some (env :: outer)) (hf : env.frame = some L) (hkb : base.StaysIn s.heap) (hen : base.get? e = none) (hl : s.heap.FunFrames base (env :: outer)) (ht : s.heap.TracedAtW base e cls a0 fl) (kd : KD od e s.heap)
    (k : ∀ h', FlyD base outer e cls a0 od h' → s.heap.UpToSlots h' → Q () { s with heap := h' }) : wpAny M A (leaving env (.ref e)) Q E s := by
  unfold leaving
  refine wpAny_bind (noteD hfr hl hf ht kd hkb hen fun h1 ⟨k1, k2, k3, k4⟩ kd => ?_)
  exact landsD (L := L) (l := env :: outer) ⟨⟨k1, hen, k2, k3⟩, kd⟩ fun h2 ⟨⟨j1, j2, ⟨_, _, j3⟩, j4⟩, j5⟩ u2 => k h2 ⟨⟨j1, j2, j3, j4⟩, j5⟩ (Heap.UpToSlots.trans k4 u2)
theorem flightF {l : List Env} {fl : Value} {fr : Option Addr} {Q : Unit → Shared → Prop} (hkb : base.StaysIn s.heap) (hl : s.heap.FunFrames base l) (ht : s.heap.TracedAtW base e cls a0 fl) (kd : KD od e s.heap)
    (k : ∀ h' fl', base.StaysIn h' → h'.FunFrames base l → h'.TracedAtW base e cls a0 fl' → KD od e h' → (∀ b o, s.heap.get? b = some o → (∀ vs, o.data ≠ .fields vs) → h'.get? b = some o) → Q () { s with heap := h' }) :
    wpAny M A (setFlight (.ref e) fr) Q E s := by
  obtain ⟨oe, vs, T, oT, ts, he, hcls, hd, h1, hnT, hTe, hT, hdT, h3⟩ := ht
  obtain ⟨o2, vs2, z2, ho, hd2, hcx⟩ := kd
  rw [he] at z2; cases z2
  rw [hd] at hd2; cases hd2
  have h3' : 3 < ts.size := (Array.getElem?_eq_some_iff.mp h3).1
  have ot : ∀ b, b ≠ T → (s.heap.update T (Obj.mapFields (·.setIfInBounds 3 (fr.elim Value.none fun f => rawInt f)))).get? b = s.heap.get? b := fun b n => Heap.get?_update_other _ _ (Ne.symm n)
  have nr : ∀ b o, s.heap.get? b = some o → (∀ vs, o.data ≠ .fields vs) → b ≠ T := fun b o q nf z => by
    rw [z, hT] at q; injection q with q; subst q; exact nf ts hdT
  unfold setFlight
  refine wpAny_bind (wpAny_field he hd h1 ?_)
  rw [if_pos (show (Value.ref T != Value.none) = true from by simp)]
  have ee := (ot e (Ne.symm hTe)).trans he
  refine wpAny_setField hT hdT h3' (k _ (fr.elim Value.none fun f => rawInt f) (fun b o q => (ot b fun z => by rw [z, hnT] at q; cases q).trans (hkb b o q)) (hl.of_keeps fun b o q nf => ⟨o, (ot b (nr b o q nf)).trans q, rfl⟩) ?_ ⟨oe, vs, ee, ho, hd, hcx⟩ fun b o q nf => (ot b (nr b o q nf)).trans q)
  exact ⟨oe, vs, T, _, _, ee, hcls, hd, h1, hnT, hTe, Heap.get?_update_self _ hT (Obj.isFreed_of_fields (Obj.data_mapFields hdT _)), Obj.data_mapFields hdT _, by simp [h3']⟩
theorem passF {α : Type} {l : List Env} {fl : Value} {what : String} {Q : α → Shared → Prop} (hkb : base.StaysIn s.heap) (hl : s.heap.FunFrames base l) (ht : s.heap.TracedAtW base e cls a0 fl) (kd : KD od e s.heap)
    (k : ∀ h' fl', base.StaysIn h' → h'.FunFrames base l → h'.TracedAtW base e cls a0 fl' → KD od e h' → (∀ b o, s.heap.get? b = some o → (∀ vs, o.data ≠ .fields vs) → h'.get? b = some o) → E (.ref e) { s with heap := h' }) :
    wpAny M A (passOn what (.ref e) env : Sem α) Q E s := by
  obtain ⟨oe, vs, T, oT, ts, he, hcls, hd, h1, r⟩ := id ht
  unfold passOn
  refine wpAny_bind (wpAny_field he hd h1 ?_)
  rw [if_neg (show ¬ ((Value.ref T == Value.none) = true) from fun z => by cases z)]
  exact wpAny_bind (flightF hkb hl ht kd fun h' fl' a b c d f => wpAny_throw (k h' fl' a b c d f))
end
end XA
namespace XA
open PySem
section
variable {prog : Program} {w : World} {A : Around} {E : Value → Shared → Prop} {h : Heap} {g : Array GenState} {d : Drawn} {t : Nat} {os : OsState}
variable {nm q : Str} {C N : Addr} {bs tl bmB : List Value} {hdct : Bool} {sn : List Str} {sub : List Value} {ab : Bool} {col : Option Bool} {dd : Option Addr} {k0 k1 k2 k3 k5 : Option Value} {B new init : String}
abbrev argsO (vs : List Value) : Obj := { cls := .type "tuple", data := .seq vs.toArray }
abbrev rawO (C : Addr) (od : Option Addr) (t : Addr) : Obj := { cls := .ref C, dict := od, data := .fields #[.ref t, .none, .none, .none, .bool false, .none] }
theorem type_callJ (FB : ExcBaseFacts B new init bmB) (T : OwnTail h bmB tl) {mN : Str → Option Value} {vs : List Value} {fI : Addr} {oI : Obj} {Q : Fin → Shared → Prop}
    (hC : h.get? C = some (excClassObj nm q C N bs tl hdct sn sub ab col dd k0 k1 k2 k3 k5 new)) (hN : h.Ns N mN) (hi : mN "__init__" = some (.ref fI)) (hf : h.get? fI = some oI) (hc : oI.cls = .type "function") (hl : vs.length ≤ sizeLine)
    (k : ∀ h' e, Heap.MadeExcOf h h' e (.ref C) vs → wpAny (model prog w) A (call (.ref fI) (.ref e :: vs)) (fun r s' => r = .none ∧ Q (.done (.ret (.ref e))) s') E ⟨h', g, d, t, os⟩) :
    wpAny (model prog w) A (Builtin.«type.__call__» ⟨.ref C :: vs, []⟩) Q E ⟨h, g, d, t, os⟩ := by
  repeat (first | with_reducible refine wpAny_loadPart_at hC ?_ | with_reducible refine wpAny_madeBy_exc hC ?_ | wp_step)
  refine codeAny_call_builtin_code (Code.quiet_builtin _ FB.quiet) (wpAny_check_new_subT FB T hC (codeAny_exc_new_subT FB T hC ?_ hl))
  show wpAny _ _ _ _ _ _
  have up : ∀ {b : Addr} {o : Obj}, h.get? b = some o → ((h.push (argsO vs)).push (rawO C none h.objs.size)).get? b = some o := fun e => Heap.get?_push_of_some _ (Heap.get?_push_of_some _ e)
  have C1 := up hC
  have N1 : ((h.push (argsO vs)).push (rawO C none h.objs.size)).Ns N mN := let ⟨o, es, ep, e, r⟩ := hN; ⟨o, es, ep, up e, r⟩
  have T1 : OwnTail ((h.push (argsO vs)).push (rawO C none h.objs.size)) bmB tl := T.keeps fun b o e => up e
  have X1 : ((h.push (argsO vs)).push (rawO C none h.objs.size)).get? (h.objs.size + 1) = some (rawO C none h.objs.size) := by heap_get
  have own : (Value.ref C :: tl).contains (.ref C) = true := by simp
  unfold isInstance
  repeat (first | with_reducible refine wpAny_loadPart_at X1 ?_ | (with_reducible refine wpAny_isSubtype_exc C1 ?_; rw [own]) | wp_step)
  show wpAny _ _ (typeLookup (.ref C) _) _ _ _
  refine wpAny_typeLookup_tail C1 N1 T1 FB.mroIs FB.init.lookup ?_
  rw [hi]
  refine wpAny_holding (wpAny_bind ?_)
  unfold bindSpecial
  refine wpAny_bind (wpAny_typeOf (T := "function") ⟨_, up hf, hc⟩ ?_)
  rw [if_pos (by decide)]
  have mk : Heap.MadeExcOf h ((h.push (argsO vs)).push (rawO C none h.objs.size)) (h.objs.size + 1) (.ref C) vs :=
    ⟨fun b o e => up e, Heap.get?_none_of_le (Nat.le_succ _), h.objs.size, X1, Heap.get?_none_of_le (Nat.le_refl _), Heap.get?_push_of_some _ (Heap.get?_push_at rfl rfl)⟩
  refine wpAny_pure (wpAny_bind (wpAny_mono (k _ _ mk) (fun r s' hr => ?_) fun _ _ z => z))
  obtain ⟨rfl, hQ⟩ := hr
  wp_walk
  exact hQ
theorem callJ (FB : ExcBaseFacts B new init bmB) (T : OwnTail h bmB tl) {mN : Str → Option Value} {vs : List Value} {fI : Addr} {oI : Obj} {Q : Value → Shared → Prop}
    (hC : h.get? C = some (excClassObj nm q C N bs tl hdct sn sub ab col dd k0 k1 k2 k3 k5 new)) (hN : h.Ns N mN) (hi : mN "__init__" = some (.ref fI)) (hf : h.get? fI = some oI) (hc : oI.cls = .type "function") (hl : vs.length ≤ sizeLine)
    (k : ∀ h' e, Heap.MadeExcOf h h' e (.ref C) vs → wpAny (model prog w) (A.under (.builtin "type.__call__" ⟨.ref C :: vs, []⟩)) (call (.ref fI) (.ref e :: vs)) (fun r s' => r = .none ∧ Q (.ref e) s') E ⟨h', g, d, t, os⟩) :
    wpAny (model prog w) A (call (.ref C) vs) Q E ⟨h, g, d, t, os⟩ := by
  have f1 := tc_lookup
  have f2 := tc_bind (.ref C)
  have hT : (⟨h, g, d, t, os⟩ : Shared).TypeIs (.ref C) "type" := ⟨_, hC, rfl⟩
  refine wpAny_call (codeAny_of_tree ?_)
  show wpAny _ _ (callAny (.ref C) _) _ _ _
  repeat (any_goals (first | assumption | with_reducible refine wpAny_loadPart_at hC ?_ | wp_step))
  exact ⟨rfl, codeAny_call_builtin_at (Code.quiet_builtin _ (by decide +kernel)) entry_typeCall (wpAny_check_type_call_sub hC (type_callJ FB T hC hN hi hf hc hl fun h' e hm => k h' e hm))⟩
end
section
variable {prog : Program} {w : World} {M : Model} {A : Around} {E : Value → Shared → Prop} {env : Env}
variable {nm q : Str} {C N : Addr} {bs tl : List Value} {hdct : Bool} {sn : List Str} {sub : List Value} {ab : Bool} {col : Option Bool} {dd : Option Addr} {k0 k1 k2 k3 k5 : Option Value} {new : String}
theorem raiseJ {s : Shared} {x : Sem Value} {Q : Flow → Shared → Prop} (hh : A.handled = none)
    (k : wpAny M A x (fun v s1 => ∃ e t od tl N nm q bs hdct sn sub ab col dd k0 k1 k2 k3 k5 new, v = .ref e ∧ s1.heap.get? C = some (excClassObj nm q C N bs tl hdct sn sub ab col dd k0 k1 k2 k3 k5 new) ∧ tl.contains (.type "BaseException") = true ∧
      s1.heap.get? e = some (rawO C od t) ∧ E (.ref e) s1) E s) : wpAny M A (raiseStmt env (some x) none) Q E s := by
  unfold raiseStmt
  refine wpAny_bind (wpAny_mono k (fun v s1 h1 => ?_) fun _ _ z => z)
  obtain ⟨e, t, od, tl, N, nm, q, bs, hdct, sn, sub, ab, col, dd, k0, k1, k2, k3, k5, new, rfl, hC, hb, he, hE⟩ := h1
  have hB : (Value.ref C :: tl).contains (.type "BaseException") = true := by rw [List.contains_cons, hb, Bool.or_true]
  obtain ⟨hp, g, d, tk, os⟩ := s1
  repeat (first | with_reducible refine wpAny_loadPart_at he ?_ | with_reducible refine wpAny_loadPart_at hC ?_ | (with_reducible refine wpAny_isSubtype_exc hC ?_; rw [hB]) | wp_step)
  exact wpAny_raiseNew_none hh hE
abbrev fromO (C : Addr) (od : Option Addr) (t ea : Addr) : Obj := { cls := .ref C, dict := od, data := .fields #[.ref t, .none, .ref ea, .none, .bool true, .none] }
theorem raiseFromJ {s : Shared} {x c : Sem Value} {ea : Addr} {Q : Flow → Shared → Prop} (hh : A.handled = some (.ref ea)) (hc : ∀ (s' : Shared) (Q' : Value → Shared → Prop), Q' .none s' → wpAny (model prog w) A c Q' E s')
    (k : wpAny (model prog w) A x (fun v s1 => ∃ e t od tl N nm q bs hdct sn sub ab col dd k0 k1 k2 k3 k5 new, v = .ref e ∧ s1.heap.get? C = some (excClassObj nm q C N bs tl hdct sn sub ab col dd k0 k1 k2 k3 k5 new) ∧ tl.contains (.type "BaseException") = true ∧
      s1.heap.get? e = some (rawO C od t) ∧ e ≠ ea ∧ L2.CtxOf (PySem.W.hideAll s1.heap [e]) ea ∧ ∀ h', (∀ b, b ≠ e → h'.get? b = s1.heap.get? b) → h'.get? e = some (fromO C od t ea) → E (.ref e) { s1 with heap := h' }) E s) : wpAny (model prog w) A (raiseStmt env (some x) (some c)) Q E s := by
  unfold raiseStmt
  refine wpAny_bind (wpAny_mono k (fun v s1 h1 => ?_) fun _ _ z => z)
  obtain ⟨e, t, od, tl, N, nm, q, bs, hdct, sn, sub, ab, col, dd, k0, k1, k2, k3, k5, new, rfl, hC, hb, he, ne, hctx, hE⟩ := h1
  have hB : (Value.ref C :: tl).contains (.type "BaseException") = true := by rw [List.contains_cons, hb, Bool.or_true]
  obtain ⟨hp, g, d, tk, os⟩ := s1
  refine wpAny_bind (wpAny_holding (hc _ _ (wpAny_bind (wpAny_pure ?_))))
  dsimp only
  repeat (first | with_reducible refine wpAny_loadPart_at he ?_ | with_reducible refine wpAny_loadPart_at hC ?_ | (with_reducible refine wpAny_isSubtype_exc hC ?_; rw [hB]) | wp_step)
  have neC : C ≠ e := fun z => by
    have q := hC
    rw [z, he] at q
    have := congrArg Obj.data (Option.some.inj q)
    cases this
  have hC2 : ((hp.update e (Obj.mapFields fun x => x.setIfInBounds 3 Value.none)).update e (Obj.mapFields fun x => x.setIfInBounds 4 (Value.bool true))).get? C = some (excClassObj nm q C N bs tl hdct sn sub ab col dd k0 k1 k2 k3 k5 new) := (Heap.get?_update_other _ _ (Ne.symm neC)).trans ((Heap.get?_update_other _ _ (Ne.symm neC)).trans hC)
  have he2 : ((hp.update e (Obj.mapFields fun x => x.setIfInBounds 3 Value.none)).update e (Obj.mapFields fun x => x.setIfInBounds 4 (Value.bool true))).get? e = some { cls := .ref C, dict := od, data := .fields #[.ref t, .none, .none, .none, .bool true, .none] } := Heap.get?_update_self _ (Heap.get?_update_self _ he rfl) rfl
  repeat (first | with_reducible refine wpAny_loadPart_at he2 ?_ | with_reducible refine wpAny_loadPart_at hC2 ?_ | wp_step)
  generalize hG : (hp.update e (Obj.mapFields fun x => x.setIfInBounds 3 Value.none)).update e (Obj.mapFields fun x => x.setIfInBounds 4 (Value.bool true)) = G at he2
  have kG : ∀ b, b ≠ e → G.get? b = hp.get? b := fun b n => by
    rw [← hG]
    exact (Heap.get?_update_other _ _ (Ne.symm n)).trans (Heap.get?_update_other _ _ (Ne.symm n))
  clear hG hC2
  unfold raiseNew
  refine wpAny_bind (wpAny_handled ?_)
  rw [hh]
  dsimp only
  rw [if_pos (by simp; exact Ne.symm ne)]
  refine wpAny_bind (wpAny_holding (L2.unchain_ctx hctx (fun b o q => ?_) (PySem.W.hideAll_none _ List.mem_cons_self) ?_))
  · have nb : b ≠ e := fun z => by
      have y : (PySem.W.hideAll hp [e]).get? b = none := PySem.W.hideAll_none _ (by rw [z]; exact List.mem_cons_self)
      rw [y] at q
      cases q
    exact (kG b nb).trans (PySem.W.of_hideAll _ q)
  refine wpAny_bind (wpAny_mono (Q := fun _ s' => s' = { heap := G.update e (Obj.mapFields fun x => x.setIfInBounds 2 (.ref ea)), gens := g, drawn := d, toks := tk, os := os }) ?_ (fun _ s' q => ?_) fun _ _ z => z)
  · simp only [updateField]
    refine wpAny_bind (wpAny_load he2 ?_)
    dsimp only
    rw [if_pos (by simp)]
    exact wpAny_update he2 rfl
  · subst q
    exact wpAny_throw (hE _ (fun b n => (Heap.get?_update_other _ _ (Ne.symm n)).trans (kG b n)) (Heap.get?_update_self _ he2 rfl))
theorem exec_raiseJ {s : Shared} {e : Expr} {pos : Pos} {Q : Flow → Shared → Prop} (hh : A.handled = none)
    (k : wpAny (model prog w) A (eval e env) (fun v s1 => ∃ e t od tl N nm q bs hdct sn sub ab col dd k0 k1 k2 k3 k5 new, v = .ref e ∧ s1.heap.get? C = some (excClassObj nm q C N bs tl hdct sn sub ab col dd k0 k1 k2 k3 k5 new) ∧ tl.contains (.type "BaseException") = true ∧
      s1.heap.get? e = some (rawO C od t) ∧ E (.ref e) s1) E s) : wpAny (model prog w) A (exec (.Raise (some e) none pos) env) Q E s := by
  rw [arm_exec_Raise]
  first
    | refine wpAny_bind (wpAny_standAt (raiseJ (C := C) hh (wpAny_bind (wpAny_mono k (fun v s3 h3 => wpAny_bind (wpAny_standAt (wpAny_pure h3))) fun _ _ x => x))))
    | (simp only [evalOpt, Option.map]; refine wpAny_bind (wpAny_standAt (raiseJ (C := C) hh (wpAny_bind (wpAny_mono k (fun v s3 h3 => wpAny_bind (wpAny_standAt (wpAny_pure h3))) fun _ _ x => x)))))
    | (simp only [evalOpt, Option.map]; exact wpAny_bind (wpAny_standAt (raiseJ (C := C) hh k)))
    | exact wpAny_bind (wpAny_standAt (raiseJ (C := C) hh k))
theorem exec_raiseFromJ {s : Shared} {e : Expr} {pos np : Pos} {kk : Nat} {ea : Addr} {Q : Flow → Shared → Prop} (hh : A.handled = some (.ref ea))
    (k : wpAny (model prog w) A (eval e env) (fun v s1 => ∃ e t od tl N nm q bs hdct sn sub ab col dd k0 k1 k2 k3 k5 new, v = .ref e ∧ s1.heap.get? C = some (excClassObj nm q C N bs tl hdct sn sub ab col dd k0 k1 k2 k3 k5 new) ∧ tl.contains (.type "BaseException") = true ∧
      s1.heap.get? e = some (rawO C od t) ∧ e ≠ ea ∧ L2.CtxOf (PySem.W.hideAll s1.heap [e]) ea ∧ ∀ h', (∀ b, b ≠ e → h'.get? b = s1.heap.get? b) → h'.get? e = some (fromO C od t ea) → E (.ref e) { s1 with heap := h' }) E s) : wpAny (model prog w) A (exec (.Raise (some e) (some (.Constant .none kk np)) pos) env) Q E s := by
  rw [arm_exec_Raise]
  simp only [evalOpt, Option.map]
  refine wpAny_bind (wpAny_standAt (raiseFromJ (C := C) hh (fun s' Q' q => ?_) (wpAny_bind (wpAny_mono k (fun v s3 h3 => wpAny_bind (wpAny_standAt (wpAny_pure h3))) fun _ _ x => x))))
  refine wpAny_bind (wpAny_Constant_none ?_)
  exact wpAny_bind (wpAny_standAt (wpAny_pure q))
end
abbrev bmX : List Value := [.type "ValueError", .type "Exception", .type "BaseException", .type "object"]
def mroX : List Value → Bool
  | .ref _ :: r => mroX r
  | l => l == bmX
theorem mroX_cases {v : Value} {r : List Value} (e : mroX (v :: r) = true) : (∃ c, v = .ref c ∧ mroX r = true) ∨ v :: r = bmX := by
  unfold mroX at e
  split at e
  · rename_i c r' z
    cases z
    exact .inl ⟨_, rfl, e⟩
  · exact .inr (beq_iff_eq.mp e)
theorem mroX_nil : mroX [] = false := by decide +kernel
theorem mroX_refuse (self : Value) : ∀ {l : List Value}, mroX l = true → refuseLoop self "__setattr__" l = pure ()
  | [], e => by rw [mroX_nil] at e; cases e
  | v :: r, e => by
    rcases mroX_cases e with ⟨c, rfl, e2⟩ | z
    · rw [refuseLoop_ref]
      exact mroX_refuse self e2
    · rw [z]
      exact F.store_ValueError.passes self
theorem mroX_has {n : String} (hn : bmX.contains (.type n) = true) : ∀ {l : List Value}, mroX l = true → l.contains (.type n) = true
  | [], e => by rw [mroX_nil] at e; cases e
  | v :: r, e => by
    rcases mroX_cases e with ⟨c, rfl, e2⟩ | z
    · rw [List.contains_cons, mroX_has hn e2, Bool.or_true]
    · rw [z]; exact hn
end XA
namespace L2.XA
open PySem PySem.Spec PyProof.Rows _root_.XA PySem.Builtin PySem.Builtin.ObjectAttr
def clsX (K : PySem.W.Frag) (C : Addr) : Bool := (PySem.W.clsIn K C).any fun cd => mroX cd.mro && cd.hasDict
structure ClsX (K : PySem.W.Frag) (C : Addr) : Prop where
  cl : clsX K C = true
  sa : PySem.W.findIn K (.ref C) "__setattr__" = some (some (.builtin "object.__setattr__"))
  na : PySem.W.findIn K (.ref C) "at" = some none
  ek : ExcK K C
section
variable {prog : Program} {w : World} {A : Around} {E : Value → Shared → Prop} {s : Shared} {K : PySem.W.Frag} {x C : Addr} {v : Value}
theorem osaX {ox : Obj} {od : Option Obj} {name : Str} {tk : Tok} {R : Result → Shared → Prop} (X : K.In s.heap) (I : PySem.W.InstAt s.heap x ox C od) (hp : clsX K C = true) (ht : PySem.W.findIn K (.ref C) name = some none)
    (k : wpAny (model prog w) A.in1 (storeInOwnDict (.ref x) (.ref C) (.str name tk) name v false)
      (fun fin s' => match fin with | .done f => R (.ok f) s' | .again c' => c'.quiet = true ∧ codeAny (model prog w) A c' R s') (fun e s' => R (.error e) s') s) :
    codeAny (model prog w) A (.call (.builtin "object.__setattr__") ⟨[.ref x, .str name tk, v], []⟩) R s := by
  obtain ⟨cd, hc, q⟩ := PySem.W.any_some hp
  obtain ⟨hm, _⟩ := (Bool.and_eq_true _ _).mp q
  have ne : cd.mro.isEmpty = false := by
    cases z : cd.mro with
    | nil => rw [z, mroX_nil] at hm; cases hm
    | cons _ _ => rfl
  have sub : PySem.W.Looks (model prog w) s.heap (isInstance (.ref x) (.type "object")) true :=
    I.type.andThen (PySem.W.looks_mroIn X (by unfold PySem.W.mroIn; rw [hc, Option.bind_some, if_neg (by rw [ne]; decide), mroX_has (by decide +kernel) hm]))
  refine codeAny_call_builtin PySem.F.store_object.slot.plain PySem.F.store_object.entry (@PySem.W.check_slot (model prog w) _ _ s "object.__setattr__" "object" "__setattr__" (.ref x) [.str name tk, v] [] _ PySem.F.store_object.kind PySem.F.store_object.split sub (PySem.F.store_object.args (.ref x) (.str name tk) v) ?_)
  have mr : PySem.W.Looks (model prog w) s.heap (mroOf (.ref C)) cd.mro := (PySem.W.looks_clsIn X hc).andThen .now
  rw [PySem.W.osa_eq, refuse_eq]
  refine wpAny_bind (wpAny_bind (I.type.here (wpAny_bind (mr.here ?_))))
  rw [mroX_refuse _ hm]
  refine wpAny_pure (wpAny_bind (I.type.here (wpAny_bind ((PySem.W.looks_findIn X ht).here (wpAny_bind (wpAny_pure ?_))))))
  exact k
theorem setX {t : Addr} {Q : Unit → Shared → Prop} (X : K.In s.heap) (hx : s.heap.get? x = some (rawO C none t)) (c : ClsX K C)
    (k : ∀ h', h'.Ns1 s.heap.objs.size (fun y => if y = "at" then some v else none) → h'.get? x = some (rawO C (some s.heap.objs.size) t) → (∀ b ob, b ≠ x → s.heap.get? b = some ob → h'.get? b = some ob) → Q () { s with heap := h', toks := s.toks + 2 }) :
    wpAny (model prog w) A (setAttr (.ref x) "at" v) Q E s := by
  have J : PySem.W.InstAt s.heap x (rawO C none t) C none := ⟨hx, rfl, rfl, True.intro⟩
  refine PySem.W.set_plain X J c.sa (osaX (s := { s with toks := s.toks + 1 }) X J c.cl c.na ?_)
  obtain ⟨cd, hc, q⟩ := PySem.W.any_some c.cl
  obtain ⟨_, hd⟩ := (Bool.and_eq_true _ _).mp q
  have x1 : (s.heap.push PySem.W.emptyDict).get? x = some (rawO C none t) := Heap.get?_push_of_some _ hx
  have xs : x ≠ s.heap.objs.size := Nat.ne_of_lt (Heap.lt_size hx)
  refine wpAny_bind (wpAny_pure (wpAny_bind (wpAny_bind (wpAny_loadPart hx (wpAny_bind (PySem.W.Looks.here (s := { s with toks := s.toks + 1 }) (PySem.W.looks_clsIn X hc) ?_))))))
  rw [hd]
  refine wpAny_bind (wpAny_alloc (s := { s with toks := s.toks + 1 }) (wpAny_bind (wpAny_update x1 (wpAny_pure ?_))))
  have gx := Heap.get?_update_self (fun o : Obj => { o with dict := some s.heap.objs.size }) x1 rfl
  have gd : ((s.heap.push PySem.W.emptyDict).update x fun o => { o with dict := some s.heap.objs.size }).get? s.heap.objs.size = some PySem.W.emptyDict :=
    (Heap.get?_update_other _ _ xs).trans (Heap.get?_push_at rfl rfl)
  have nd : ((s.heap.push PySem.W.emptyDict).update x fun o => { o with dict := some s.heap.objs.size }).Ns s.heap.objs.size (fun _ => none) := ⟨_, #[], _, gd, rfl, fun e he => absurd he (by simp), fun _ => rfl⟩
  refine wpAny_bind (wpAny_pure (wpAny_bind ?_))
  refine wpAny_nsSet1 (Heap.Ns1.of_empty nd) fun h' n2 sb => ?_
  obtain ⟨oD, esD, epD, hoD, hdD, hcD⟩ := n2.count (PySem.Within.cons "at" v PySem.Within.nil)
  refine wpAny_bind (wpAny_lookBehind hoD (by rw [hdD]; exact pastItsLine_dict (Nat.le_trans hcD (by rw [List.length_cons, List.length_nil, sizeLine_eq]; omega))) ?_)
  refine wpAny_pure (k _ n2 ((sb.2 x xs).trans gx) fun b ob nb e => ?_)
  exact (sb.2 b (Nat.ne_of_lt (Heap.lt_size e))).trans ((Heap.get?_update_other _ _ (Ne.symm nb)).trans (Heap.get?_push_of_some _ e))
theorem getX {ox : Obj} {dx : Addr} {mA : Str → Option Value} {expr : Bool} {Q : Value → Shared → Prop} (X : K.In s.heap) (hx : s.heap.get? x = some ox) (hc : ox.cls = .ref C) (hn : PySem.W.notCls ox = true) (hd : ox.dict = some dx)
    (n : s.heap.Ns1 dx mA) (hv : mA "at" = some v) (hh : PySem.W.handedIn v = true) (c : ClsX K C) (k : Q v { s with toks := s.toks + 1 }) : wpAny (model prog w) A (getAttr (.ref x) "at" expr) Q E s := by
  obtain ⟨od, ho, hl⟩ := lookIn_ns n
  have J : PySem.W.InstAt s.heap x ox C (some od) := ⟨hx, hc, hn, by rw [hd]; exact ho⟩
  obtain ⟨cd, hcd, q⟩ := PySem.W.any_some c.cl
  obtain ⟨_, hdd⟩ := (Bool.and_eq_true _ _).mp q
  have hf : PySem.W.findObj K C (some od) "at" = some (.value v) := by
    unfold PySem.W.findObj PySem.W.ownOf
    rw [hcd, c.na]
    simp only [Option.bind_some, hdd, if_true, hl, hv]
  have L0 := J.type (M := model prog w)
  have L1 := PySem.W.looks_findIn (M := model prog w) X c.ek.ga
  have L2 := PySem.W.looks_findIn (M := model prog w) X c.ek.gh
  have L3 := PySem.W.looks_find (M := model prog w) X J hf
  obtain ⟨h0, g, d, t, os⟩ := s
  have f3 := F.excAttr_ValueError.ga.bind (.ref x)
  have b2 : (Value.builtin "BaseException.__getattribute__" == Value.builtin "object.__getattribute__") = false := by decide +kernel
  have b1 : (onTheHeap (Value.ref C) && Value.builtin "BaseException.__getattribute__" == Value.builtin "object.__getattribute__") = false := by rw [b2]; rfl
  unfold getAttr getAttrBy
  refine wpAny_bind (wpAny_mkText (wpAny_holding (wpAny_bind (L0.at (wpAny_bind (L1.at ?_))))))
  dsimp only
  rw [if_neg (by rw [b1]; decide)]
  unfold getAttrByItsOwn hookBefore
  refine wpAny_bind ?_
  rw [if_pos (show onTheHeap (Value.ref C) = true from rfl)]
  refine L2.at (wpAny_bind (wpAny_attempt ?_))
  refine wpAny_holding ?_
  unfold callGetattribute boundAndCalled
  have b3 : ¬ ((expr && onTheHeap (Value.builtin "BaseException.__getattribute__")) = true) := by cases expr <;> decide
  rw [if_neg b3, f3]
  refine wpAny_bind (wpAny_pure (wpAny_call (codeAny_call_builtin F.excAttr_ValueError.ga.plain F.entry_bexc_ga (exc_ga_check (s := ⟨h0, g, d, t + 1, os⟩) c.ek X hx hc ?_))))
  unfold Builtin.«object.__getattribute__»
  repeat (first | with_reducible refine PySem.W.Looks.at (by assumption) ?_ | with_reducible refine wpAny_bind ?_ | lk)
  repeat (any_goals (first | assumption | wp_step))
  show wpAny _ _ (handedOut v) _ _ _
  rw [PySem.W.handedOut_of hh]
  exact wpAny_pure k
end
def ExcN (ea C : Addr) : HO := .ext fun h => ∃ t, h.get? ea = some (rawO C none t)
def ExcM (ea C dd : Addr) : HO := .ext fun h => ∃ t, h.get? ea = some (rawO C (some dd) t)
def ExcA (ea C dd : Addr) (cx : Value) : HO := .ext fun h => ∃ o, h.get? ea = some o ∧ o.cls = .ref C ∧ o.dict = some dd ∧ PySem.W.notCls o = true ∧ ∃ vs, o.data = .fields vs ∧ vs[2]? = some cx
def IsX (H : Hp) (ea C dd : Addr) : Prop := H ea = some (ExcM ea C dd) ∨ ∃ cx, H ea = some (ExcA ea C dd cx)
def atX (n : Int) : HO := .xd [("at", .int n)]
theorem lk_hit1 {f : Str} {v : V} : List.lookup f [(f, v)] = some v := by simp [List.lookup]
theorem lk_miss1 {f g : Str} {v : V} (h : ¬ g = f) : List.lookup g [(f, v)] = none := by
  have b : (g == f) = false := beq_eq_false_iff_ne.mpr h
  simp only [List.lookup, b]
section
variable {P : Program} {w : World} {H : Hp} {h : Heap} {ea C dd : Addr}
theorem HOk.raw (x : HOk P w H h) (e : H ea = some (ExcN ea C)) : ∃ t, h.get? ea = some (rawO C none t) := (x ea _ e).1
theorem HOk.made (x : HOk P w H h) (e : H ea = some (ExcM ea C dd)) : ∃ t, h.get? ea = some (rawO C (some dd) t) := (x ea _ e).1
theorem HOk.isX (x : HOk P w H h) (e : IsX H ea C dd) : ∃ o, h.get? ea = some o ∧ o.cls = .ref C ∧ o.dict = some dd ∧ PySem.W.notCls o = true := by
  rcases e with e | ⟨cx, e⟩
  · obtain ⟨t, q⟩ := HOk.made x e
    exact ⟨_, q, rfl, rfl, rfl⟩
  · obtain ⟨o, h1, h2, h3, h4, _⟩ := (x ea _ e).1
    exact ⟨o, h1, h2, h3, h4⟩
theorem ok_excM {t : Addr} (e : h.get? ea = some (rawO C (some dd) t)) : ObjOk P w H h ea (ExcM ea C dd) := ⟨⟨t, e⟩, ⟨_, e⟩, fun h1 h2 ⟨t, q⟩ k => ⟨t, k _ q⟩⟩
theorem ok_excN {t : Addr} (e : h.get? ea = some (rawO C none t)) : ObjOk P w H h ea (ExcN ea C) := ⟨⟨t, e⟩, ⟨_, e⟩, fun h1 h2 ⟨t, q⟩ k => ⟨t, k _ q⟩⟩
theorem ok_excA {o : Obj} {vs : Array Value} {cx : Value} (e : h.get? ea = some o) (hc : o.cls = .ref C) (hd : o.dict = some dd) (hn : PySem.W.notCls o = true) (hv : o.data = .fields vs) (hx : vs[2]? = some cx) : ObjOk P w H h ea (ExcA ea C dd cx) := ⟨⟨o, e, hc, hd, hn, vs, hv, hx⟩, ⟨_, e⟩, fun h1 h2 ⟨o, q, r⟩ k => ⟨o, k _ q, r⟩⟩
end
section
variable {X : Cx} {pins : List (Addr × Obj)} {σ : St} {H : Hp} {s : Shared} {a C dd : Addr} {A : Around} {E : Value → Shared → Prop}
theorem setattrX {n : Int} {u : Value} {Q : Unit → Shared → Prop} (I : Inv X pins σ H s) (e : H a = some (ExcN a C)) (c : ClsX X.K C) (ry : RelV (.int n) u)
    (k : ∀ dd s', H dd = none → dd ≠ a → Inv X pins σ (upd (upd H dd (atX n)) a (ExcM a C dd)) s' → Q () s') : wpAny (model X.prog X.w) A (setAttr (.ref a) "at" u) Q E s := by
  obtain ⟨t, ha⟩ := HOk.raw I.hok e
  refine setX I.kIn ha c fun h' n1 hx hk => ?_
  have nd : s.heap.objs.size ≠ a := Nat.ne_of_gt (Heap.lt_size ha)
  refine k s.heap.objs.size _ (I.hok.fresh (Nat.le_refl _)) nd ?_
  have gm := Heap.get?_update_self (fun o : Obj => { o with dict := none }) hx rfl
  have other : ∀ b, b ≠ a → (h'.update a fun o => { o with dict := none }).get? b = h'.get? b := fun b z => Heap.get?_update_other _ _ (Ne.symm z)
  have I1 : Inv X pins σ (upd H s.heap.objs.size (atX n)) { s with heap := h'.update a fun o => { o with dict := none }, toks := s.toks + 1 } := by
    refine I.laid (fun b ob q => ?_) (Nat.le_refl _) ⟨_, n1.at fun o q => (other _ nd).trans q, fun f => ?_⟩
    · by_cases z : b = a
      · subst z
        rw [ha] at q
        cases q
        exact gm
      · exact (other b z).trans (hk b ob z q)
    · by_cases z : f = "at"
      · subst z
        rw [if_pos rfl, lk_hit1]
        exact ry
      · rw [if_neg z, lk_miss1 z]
        exact True.intro
  refine I1.write (x := a) (e := a) ?_ (.inl rfl) (fun b ob z q => ?_) ⟨_, hx⟩ (ok_excM hx)
  · rw [upd_ne (Ne.symm nd), e]
    exact True.intro
  · exact (other b z).symm.trans q
theorem getattrX {n : Int} {b : Bool} {Q : Value → Shared → Prop} (I : Inv X pins σ H s) (e : IsX H a C dd) (hd : H dd = some (atX n)) (c : ClsX X.K C) (k : ∀ u s', Inv X pins σ H s' → RelV (.int n) u → Q u s') :
    wpAny (model X.prog X.w) A (getAttr (.ref a) "at" b) Q E s := by
  obtain ⟨o, ho, hc, hdd, hn⟩ := HOk.isX I.hok e
  obtain ⟨mA, n1, r⟩ := (show ObjOk X.prog X.w H s.heap dd (.xd [("at", .int n)]) from I.hok dd _ hd)
  have r1 := r "at"
  rw [lk_hit1] at r1
  obtain ⟨u, hu, ru⟩ := RelO.some_of r1
  exact getX I.kIn ho hc hn hdd n1 hu (handed_of ru) c (k u _ (I.tok _) ru)
end
end L2.XA
namespace L2.XA
open PySem PySem.Spec PyProof.Rows _root_.XA
def sAtX (K : PySem.W.Frag) (ta tv : TE) : TS := fun D σ H => tv σ H fun y H1 => ta σ H1 fun x H2 => ∃ a C n, y = .int n ∧ x = .ref a ∧ H2 a = some (ExcN a C) ∧ ClsX K C ∧
  ∀ dd, H2 dd = none → dd ≠ a → D.nx σ (upd (upd H2 dd (atX n)) a (ExcM a C dd))
def tAtX (K : PySem.W.Frag) (ta : TE) : TE := fun σ H Q => ta σ H fun x H1 => ∃ a C dd n, x = .ref a ∧ IsX H1 a C dd ∧ H1 dd = some (atX n) ∧ ClsX K C ∧ Q (.int n) H1
section
variable {X : Cx} {o e value : Expr} {pos pos' : Pos} {ta tv : TE}
theorem ps_atX (ha : PE X o ta) (hv : PE X value tv) (hs : swapsWith value (some (.Attribute o "at" pos')) pos.line X.env = pure false) : PS X (.Assign [.Attribute o "at" pos'] value pos) (sAtX X.K ta tv) := by
  intro pins s σ H D I h
  refine plainObj_wpAny_Assign_Attribute (thn (hv pins s σ H _ I h) fun u s1 ⟨y, H1, I1, ry, q⟩ => thn (ha pins s1 σ H1 _ I1 q) fun ov s2 ⟨x, H2, I2, rx, a, C, n, ey, ex, ea, c, q2⟩ => ?_) hs
  subst ex ey
  obtain rfl : ov = Value.ref a := rx
  exact setattrX I2 ea c ry fun dd s3 h1 h2 I3 => ⟨σ, _, I3, q2 dd h1 h2⟩
theorem pe_atX {f : Str} {K : PySem.W.Frag} (he : PE X e ta) (hb : attributeBase e f X.env (eval e X.env) = eval e X.env) (hK : X.K = K := by rfl) (hf : f = "at" := by rfl) : PE X (.Attribute e f pos) (tAtX K ta) := by
  subst hf hK
  intro pins s σ H Q I h
  refine attr_of hb (thn (he pins s σ H _ I h) fun u s1 ⟨x, H1, I1, rx, a, C, dd, n, ex, ea, ed, c, q⟩ => ?_)
  subst ex
  obtain rfl : u = Value.ref a := rx
  exact getattrX I1 ea ed c fun u' s2 I2 ru => ⟨.int n, H1, I2, ru, q⟩
def rIsX (K : PySem.W.Frag) : List V → Hp → VK → Prop := fun xs H Q => ∃ ea C dd t b, (xs = [.ref ea, .ref t] ∧ PySem.W.kitOne K (.ref C) (.ref t) = some b ∨ ∃ n, xs = [.ref ea, .ty n] ∧ PySem.W.kitOne K (.ref C) (.type n) = some b) ∧ IsX H ea C dd ∧ ClsX K C ∧ Q (.bl b) H
theorem call_isX {K : PySem.W.Frag} (hK : X.K = K) : CallR X (.builtin "isinstance") (rIsX K) := by
  subst hK
  intro pins s σ H xs us Q I r h
  obtain ⟨ea, C, dd, t, b, hxs, ix, c, q⟩ := h
  obtain ⟨o, ho, hc, _, _⟩ := HOk.isX I.hok ix
  rcases hxs with ⟨rfl, ek⟩ | ⟨n, rfl, ek⟩
  · obtain ⟨u, u2, rfl, rx, r2⟩ := vals2 r
    cases (show u2 = Value.ref t from r2)
    cases (show u = Value.ref ea from rx)
    exact PySem.W.kia_one (kitx_exc c.ek) I.kIn ⟨o, ho, hc⟩ ek (fun z => nomatch z) fun tk => ⟨.bl b, H, I.tok _, rfl, q⟩
  · obtain ⟨u, u2, rfl, rx, r2⟩ := vals2 r
    cases (show u2 = Value.type n from r2)
    cases (show u = Value.ref ea from rx)
    exact PySem.W.kia_one (kitx_exc c.ek) I.kIn ⟨o, ho, hc⟩ ek (fun z => nomatch z) fun tk => ⟨.bl b, H, I.tok _, rfl, q⟩
end
def excJ (K : PySem.W.Frag) (C fI : Addr) (new : String) : Bool := match K.lookup C with
  | none => false
  | some ob => ob.cls == .type "type" && (match ob.data with
    | .cls cd => (match cd.mro with
      | .ref C2 :: tl => (match ob.slots.toList with
        | [_, _, _, _, some (.builtin n), _] => C2 == C && n == new && !cd.hasDel && PySem.W.tailIn K bmX tl && PySem.W.nsOkIn K cd.ns && PySem.W.nsIn K cd.ns "__init__" == some (some (.ref fI))
        | _ => false)
      | _ => false)
    | _ => false)
theorem ns_someX {K : PySem.W.Frag} {h : Heap} {N : Addr} {m : Str → Option Value} {n : Str} {v : Value} (X : K.In h) (G : h.Ns N m) (e : PySem.W.nsIn K N n = some (some v)) : m n = some v := by
  obtain ⟨o, es, ep, ho, hd, _, hf⟩ := G
  unfold PySem.W.nsIn at e
  split at e
  · rename_i c d es' n' sl q
    have z := X _ _ q
    rw [ho] at z
    cases z
    cases hd
    split at e
    · rename_i y hy
      cases e
      rw [← hf n]
      unfold nsFind findBy
      rw [← Array.find?_toList, hy]
      rfl
    · split at e <;> cases e
  · cases e
theorem own_J {K : PySem.W.Frag} {h : Heap} {C fI : Addr} {new : String} (kin : K.In h) (q : excJ K C fI new = true) :
    ∃ tl N nm qn bs hdct sn sub ab col dd k0 k1 k2 k3 k5 mN, h.get? C = some (excClassObj nm qn C N bs tl hdct sn sub ab col dd k0 k1 k2 k3 k5 new) ∧ h.Ns N mN ∧ mN "__init__" = some (.ref fI) ∧ OwnTail h bmX tl := by
  unfold excJ at q
  cases lk : K.lookup C with
  | none => rw [lk] at q; cases q
  | some ob =>
    rw [lk] at q
    obtain ⟨oc, od, odt, osl⟩ := ob
    dsimp only at q
    obtain ⟨q0, qb⟩ := (Bool.and_eq_true _ _).mp q
    clear q
    split at qb
    · rename_i cd
      obtain ⟨nm, bs, mro, ns, qn, hd, sn, sub, ab, col, del⟩ := cd
      dsimp only at qb
      split at qb
      · rename_i C2 tl
        split at qb
        · rename_i k0 k1 k2 k3 n2 k5 es
          simp only [Bool.and_eq_true, beq_iff_eq, Bool.not_eq_true'] at qb q0
          obtain ⟨⟨⟨⟨⟨q1, q2⟩, q3⟩, q4⟩, q5⟩, q6⟩ := qb
          subst q1 q2 q3 q0
          have esl : osl = #[k0, k1, k2, k3, some (.builtin n2), k5] := Array.toList_inj.mp es
          subst esl
          have G := Heap.Ns.of_isNs (PySem.W.isNs_of_in kin q5)
          exact ⟨tl, ns, nm, qn, bs, hd, sn, sub, ab, col, od, k0, k1, k2, k3, k5, _, kin _ _ lk, G, ns_someX kin G q6, PySem.W.tail_of_in kin q4⟩
        · cases qb
      · cases qb
    · cases qb
structure MkX (K : PySem.W.Frag) (C fI : Addr) : Prop where
  own : excJ K C fI "ValueError.__new__" = true
  fn : PySem.W.isFn K (.ref fI) = true
  kp : PySem.W.keepIn K (.ref C) = true
  cx : ClsX K C
def spXI (C : Addr) : Sp := fun vs H Q _ => ∃ ea n, vs = [.ref ea, .int n] ∧ H ea = some (ExcN ea C) ∧ ∀ dd, H dd = none → dd ≠ ea → Q .non (upd (upd H dd (atX n)) ea (ExcM ea C dd))
section
variable {X : Cx} {pins : List (Addr × Obj)} {σ : St} {H : Hp} {s : Shared}
theorem Inv.track {ea : Addr} {φ : Heap → Prop} (I : Inv X pins σ H s) (hx : H ea = none) (ok : ∀ H', ObjOk X.prog X.w H' s.heap ea (.ext φ)) (h0 : X.s₀.heap.get? ea = none) (hL : ea ≠ X.env.locals) (hcl : ∀ y c, X.env.cells.lookup y = some c → c ≠ ea)
    (hp : ∀ p ∈ X.pn ++ pins, p.1 ≠ ea) : Inv X pins σ (upd H ea (.ext φ)) s := by
  refine ⟨I.ok, I.os, I.bare, ⟨I.base.keep, I.base.slot, fun b o e z nx => ?_, I.base.there, fun b xs e => ?_, fun b o u e => ?_, fun b ps e => ?_⟩, I.loc, I.cell, ?_, fun y c e => ?_, fun p hp' => ?_, fun b u e => ?_, I.len⟩
  · rw [upd_ne (fun z2 => by rw [z2, h0] at e; cases e)]
    exact I.base.free b o e z nx
  · have q := I.base.tups b xs e
    rw [upd_ne (ne_of_none q hx)]
    exact q
  · have q := I.base.frzs b o u e
    rw [upd_ne (ne_of_none q hx)]
    exact q
  · obtain ⟨more, q⟩ := I.base.tbls b ps e
    refine ⟨more, ?_⟩
    rw [upd_ne (ne_of_none q hx)]
    exact q
  · rw [upd_ne hL.symm]
    exact I.free
  · rw [upd_ne (hcl y c e)]
    exact I.freeC y c e
  · obtain ⟨e, f, r⟩ := I.pin p hp'
    refine ⟨e, ?_, r⟩
    rw [upd_ne (hp p hp')]
    exact f
  · by_cases hb : b = ea
    · subst hb
      rw [upd_same] at e
      cases e
      exact ok _
    · rw [upd_ne hb] at e
      refine (I.hok b u e).stay (fun c v _ q => q) (fun c q => ?_) fun c xs q => ?_
      · rw [upd_ne (ne_of_none q hx)]; exact q
      · rw [upd_ne (ne_of_none q hx)]; exact q
theorem Inv.drop {ea : Addr} {φ : Heap → Prop} (I : Inv X pins σ (upd H ea (.ext φ)) s) (hx : H ea = none) (h0 : X.s₀.heap.get? ea = none) : Inv X pins σ H s := by
  have dn : ∀ {b : Addr}, upd H ea (.ext φ) b = none → H b = none := fun {b} q => by
    by_cases hb : b = ea
    · rw [hb]; exact hx
    · rw [upd_ne hb] at q; exact q
  have ds : ∀ {b : Addr} {u : HO}, upd H ea (.ext φ) b = some u → u ≠ .ext φ → H b = some u := fun {b u} q n => by
    by_cases hb : b = ea
    · rw [hb, upd_same] at q
      exact absurd (Option.some.inj q).symm n
    · rw [upd_ne hb] at q; exact q
  refine ⟨I.ok, I.os, I.bare, ⟨I.base.keep, I.base.slot, fun b o e z nx => dn (I.base.free b o e z nx), I.base.there, fun b xs e => ds (I.base.tups b xs e) (by intro z; cases z), fun b o u e => ds (I.base.frzs b o u e) (by intro z; cases z), fun b ps e => ?_⟩,
    I.loc, I.cell, dn I.free, fun y c e => dn (I.freeC y c e), fun p hp' => ?_, fun b u e => ?_, I.len⟩
  · obtain ⟨more, q⟩ := I.base.tbls b ps e
    exact ⟨more, ds q (by intro z; cases z)⟩
  · obtain ⟨e, f, r⟩ := I.pin p hp'
    exact ⟨e, dn f, r⟩
  · have nb : b ≠ ea := ne_of_none e hx
    have e2 : upd H ea (.ext φ) b = some u := by rw [upd_ne nb]; exact e
    exact (I.hok b u e2).stay (fun c v _ q => q) (fun c q => ds q (by intro z; cases z)) fun c xs q => ds q (by intro z; cases z)
variable {C fI : Addr} {fd : FuncData} {k : Nat}
theorem none_old {ea : Addr} (I : Inv X pins σ H s) (hex : X.ex = []) (h1 : s.heap.get? ea = none) : H ea = none ∧ X.s₀.heap.get? ea = none ∧ ea ≠ X.env.locals ∧ (∀ y c, X.env.cells.lookup y = some c → c ≠ ea) ∧ ∀ p ∈ X.pn ++ pins, p.1 ≠ ea := by
  refine ⟨?_, ?_, ?_, fun y c e z => ?_, fun p hp z => ?_⟩
  · cases q : H ea with
    | none => rfl
    | some u =>
      obtain ⟨o, e⟩ := (I.hok ea u q).there
      rw [h1] at e; cases e
  · cases q : X.s₀.heap.get? ea with
    | none => rfl
    | some u =>
      obtain ⟨o', e'⟩ := I.base.there ea u q (by rw [hex]; simp)
      rw [h1] at e'; cases e'
  · obtain ⟨m, ⟨o, _, _, ho, _⟩, _⟩ := I.loc
    intro z
    rw [z, ho] at h1; cases h1
  · obtain ⟨v, o, e', _⟩ := I.cell y c e
    rw [z, h1] at e'; cases e'
  · have := (I.pin p hp).1
    rw [z, h1] at this; cases this
theorem run_makeX {n : Int} {u : Value} {Q : Value → Shared → Prop} {E : Value → Shared → Prop} (M : MkX X.K C fI) (F : ∀ H' s', Inv X pins σ H' s' → (∀ b o, s.heap.get? b = some o → s'.heap.get? b = some o) → ∃ Bh, FnOk X.prog X.w X.K X.mg Bh CX0 k fI fd ["self", "at"] (spXI C) ∧ Env0 X.prog X.w X.K X.mg Bh X.A X.stack s' H') (hb : Binds X.K fd ["self", "at"] []) (hr : Room (k + 1) X.A) (hex : X.ex = [])
    (I : Inv X pins σ H s) (r : RelV (.int n) u)
    (h : ∀ ea dd s', s.heap.get? ea = none → H ea = none → H dd = none → dd ≠ ea → Inv X pins σ (upd (upd H dd (atX n)) ea (ExcM ea C dd)) s' → Q (.ref ea) s') : wpAny (model X.prog X.w) X.A (call (.ref C) [u]) Q E s := by
  obtain ⟨tl, N, nm, qn, bs, hdct, sn, sub, ab, col, dd0, k0, k1, k2, k3, k5, mN, hC, hN, hi, T⟩ := own_J I.kIn M.own
  obtain ⟨oI, hI, hIc⟩ : ∃ oI, s.heap.get? fI = some oI ∧ oI.cls = .type "function" := by
    have z := beq_iff_eq.mp M.fn
    unfold PySem.W.typeIn at z
    obtain ⟨oI, e1, e2⟩ := Option.map_eq_some_iff.mp z
    exact ⟨oI, I.kIn _ _ e1, e2⟩
  obtain ⟨s1, s2, s3, s4, s5⟩ := s
  refine callJ PySem.F.excBase_ValueError T hC hN hi hI hIc (by show 1 ≤ sizeLine; decide) fun h' e hm => ?_
  obtain ⟨t, he, ht0, ht⟩ := hm.there
  obtain ⟨o1, o2, o3, o4, o5⟩ := none_old I hex hm.new
  have I1 : Inv X pins σ H ⟨h', s2, s3, s4, s5⟩ := I.kept (t' := s4) hm.keeps
  have I2 : Inv X pins σ (upd H e (ExcN e C)) ⟨h', s2, s3, s4, s5⟩ := Inv.track I1 o1 (fun H' => ok_excN he) o2 o3 o4 o5
  have hsp : spXI C [.ref e, .int n] (upd H e (ExcN e C)) (fun v H2 => v = .non ∧ ∃ dd, H dd = none ∧ dd ≠ e ∧ H2 = upd (upd H dd (atX n)) e (ExcM e C dd)) E0 := by
    refine ⟨e, n, rfl, upd_same, fun dd hd nd => ⟨rfl, dd, ?_, nd, ?_⟩⟩
    · rw [upd_ne nd] at hd; exact hd
    · funext b
      by_cases z : b = e
      · rw [z, upd_same, upd_same]
      · rw [upd_ne z, upd_ne z]
        unfold upd
        rw [if_neg z]
  obtain ⟨Bh, FF, e0⟩ := F _ _ I2 hm.keeps
  refine wpAny_call (codeAny_mono (FF.run _ X.stack _ _ ⟨[.ref e, u], []⟩ [.ref e, u] [.ref e, .int n] _ E0 (hr.make C [u] []) (e0.make C [u] []) ?_ (.cons rfl (.cons r .nil)) hsp) fun rr s' hq' => ?_)
  · have z := hb ⟨h', s2, s3, s4, s5⟩ [.ref e, u] I2.kIn rfl
    rw [List.append_nil] at z
    exact z
  cases rr with
  | error e => exact False.elim hq'
  | ok fl =>
    cases fl with
    | ret u2 =>
      obtain ⟨v, H', I3, rv, ev, dd, q1, q2, q3⟩ := I2.after hq'
      subst ev q3
      exact ⟨rv, h e dd s' hm.new o1 q1 q2 I3⟩
    | next => exact False.elim hq'
    | brk => exact False.elim hq'
    | cont => exact False.elim hq'
variable {x : Str} {p pos cpos : Pos} {e : Expr} {t : TA}
end
end L2.XA
namespace L2.XA
open PySem PySem.Spec PyProof.Rows _root_.XA
def CtxN (B h0 : Heap) (H : Hp) : Nat → Value → Prop
  | 0, v => v = .none
  | n + 1, v => v = .none ∨ ∃ c oc fs v', v = .ref c ∧ B.get? c = some oc ∧ oc.data = .fields fs ∧ fs[2]? = some v' ∧ h0.get? c = none ∧ H c = none ∧ CtxN B h0 H n v'
theorem CtxN.up {B h0 : Heap} {H : Hp} : ∀ {n : Nat} {v : Value}, CtxN B h0 H n v → CtxN B h0 H (n + 1) v
  | 0, _, x => .inl x
  | _ + 1, _, .inl x => .inl x
  | _ + 1, _, .inr ⟨c, oc, fs, v', a, b, d, e, f, g, r⟩ => .inr ⟨c, oc, fs, v', a, b, d, e, f, g, r.up⟩
theorem CtxN.mono {B h0 : Heap} {H : Hp} {m n : Nat} {v : Value} (x : CtxN B h0 H m v) (h : m ≤ n) : CtxN B h0 H n v := by
  induction h with
  | refl => exact x
  | step _ ih => exact ih.up
theorem CtxN.to {B B' h0 h0' : Heap} {H H' : Hp} (hb : ∀ c oc fs, B.get? c = some oc → oc.data = .fields fs → h0.get? c = none → H c = none → B'.get? c = some oc ∧ h0'.get? c = none ∧ H' c = none) : ∀ {n : Nat} {v : Value}, CtxN B h0 H n v → CtxN B' h0' H' n v
  | 0, _, x => x
  | _ + 1, _, .inl x => .inl x
  | _ + 1, _, .inr ⟨c, oc, fs, v', a, b, d, e, f, g, r⟩ =>
    let ⟨b', f', g'⟩ := hb c oc fs b d f g
    .inr ⟨c, oc, fs, v', a, b', d, e, f', g', CtxN.to hb r⟩
theorem CtxN.V {B h0 h : Heap} {H : Hp} (hb : ∀ c oc fs, B.get? c = some oc → oc.data = .fields fs → h0.get? c = none → H c = none → h.get? c = some oc) : ∀ {n : Nat} {v : Value}, CtxN B h0 H n v → CtxV h n v
  | 0, _, x => x
  | _ + 1, _, .inl x => .inl x
  | _ + 1, _, .inr ⟨c, oc, fs, v', a, b, d, e, f, g, r⟩ => .inr ⟨c, oc, fs, v', a, hb c oc fs b d f g, d, e, CtxN.V hb r⟩
def FlyA (d : Nat) (l : List Env) (h0 : Heap) (H : Hp) (ea C dd : Addr) (h : Heap) : Prop := ∃ B a0 cx, FlyD B l ea (.ref C) a0 (some dd, cx) h ∧ Cov l h0 H B h ∧ CtxN B h0 H d cx
def CXA (d : Nat) (P : Program) (w : World) : CXT := fun outer H s E e s' => ∃ ea C dd n tk H', e = .ref ea ∧ s'.os = s.os ∧ AllBare s'.gens ∧ Un (frs outer) [] H H' s.heap s'.heap ∧ HOk P w H' s'.heap ∧ FlyA d outer s.heap H' ea C dd s'.heap ∧
  H' dd = some (atX n) ∧ E (.int n tk) (some C) H'
structure DefA (d : Nat) (X : Cx) (E : XK) : Prop where
  stk : X.stack = X.env :: X.outer
  fr : X.env.frame = some X.env.locals
  ex : X.ex = []
  xe : X.xe = fun e s' => wpAny (model X.prog X.w) X.A (leaving X.env e) (fun _ s'' => CXA d X.prog X.w X.outer X.H₀ X.s₀ E e s'') (fun e' s'' => CXA d X.prog X.w X.outer X.H₀ X.s₀ E e' s'') s'
section
variable {d : Nat} {X : Cx} {E : XK} {pins : List (Addr × Obj)} {σ : St} {H H' : Hp} {s s' : Shared} {ea C dd : Addr} {n : Int} {tk : Tok}
theorem leavesA {B h2 hc : Heap} {a0 cx : Value} (D : DefA d X E) (I : Inv X pins σ H s) (c : Cov X.stack hc H B s.heap) (hc0 : ∀ b o, X.s₀.heap.get? b = some o → ∃ o', hc.get? b = some o') (ff : s.heap.FunFrames B X.stack) (hcx : CtxN B hc H d cx)
    (fl : FlyD B X.outer ea (.ref C) a0 (some dd, cx) h2) (sm : s.heap.UpToSlots h2) (hd : H dd = some (atX n)) (q : E (.int n tk) (some C) H) : CXA d X.prog X.w X.outer X.H₀ X.s₀ E (.ref ea) { s with heap := h2 } := by
  have st := fl.1.1
  have fc := frs_cons D.stk D.fr
  have b0 : Un X.fs [] X.H₀ H X.s₀.heap s.heap := by
    have z := I.base
    rw [D.ex] at z
    exact z
  have nL : ∀ b o, X.s₀.heap.get? b = some o → b ≠ X.env.locals := fun b o e z => absurd (Heap.lt_size e) (by rw [z]; exact Nat.not_lt.mpr I.ok.above)
  refine ⟨ea, C, dd, n, tk, H, rfl, I.os, I.bare, b0.moved c st sm ff hc0 (fun b hb => ?_) (fun b o e hb => ?_), I.hok.moved c st I.stkFree, ⟨B, a0, cx, fl, c.moved st I.hok b0 hc0 fun b nb hb => ?_, hcx.to fun b oc _ e1 _ e2 e3 => ⟨e1, ?_, e3⟩⟩, hd, q⟩
  · rw [fc]
    exact List.mem_cons_of_mem _ hb
  · rw [fc] at hb
    exact (List.mem_cons.mp hb).elim (fun z => absurd z (nL b o e)) id
  · rw [fc]
    intro z
    rcases List.mem_cons.mp z with z | z
    · subst z
      rcases hb with y | ⟨o0, y⟩
      · exact y I.free
      · exact nL _ o0 y rfl
    · exact nb z
  · cases z : X.s₀.heap.get? b with
    | none => rfl
    | some o =>
      obtain ⟨o', e'⟩ := hc0 b o z
      rw [e2] at e'
      cases e'
theorem cameA {e : Value} {E' : XK} (I : Inv X pins σ H s) (h : CXA d X.prog X.w X.stack H s E' e s') : ∃ ea C dd n tk H', e = .ref ea ∧ Inv X pins σ H' s' ∧ FlyA d X.stack s.heap H' ea C dd s'.heap ∧ H' dd = some (atX n) ∧ E' (.int n tk) (some C) H' := by
  obtain ⟨ea, C, dd, n, tk, H', rfl, os, bare, un, hok, fl, hd, q⟩ := h
  exact ⟨ea, C, dd, n, tk, H', rfl, I.call' os un hok bare (fun b z => absurd z (by simp)), fl, hd, q⟩
theorem passA (D : DefA d X E) (hE : X.A.frames = some X.stack) : Passes (CXA d X.prog X.w) X E := by
  intro pins σ H s e s' I h
  obtain ⟨ea, C, dd, n, tk, H', rfl, I', ⟨B, a0, cx, fl, c, hcx⟩, hd, q⟩ := cameA I h
  rw [D.xe]
  have hfr : X.A.frames = some (X.env :: X.outer) := by rw [hE, D.stk]
  have ff := fl.1.2.2.1
  rw [D.stk] at fl
  refine leavesD hfr D.fr fl fun h2 fl2 sm => ?_
  have sub : ∀ b o, X.s₀.heap.get? b = some o → ∃ o', s.heap.get? b = some o' := fun b o e => I.base.there b o e (by rw [D.ex]; simp)
  exact leavesA D I' c sub ff hcx fl2 sm hd q
theorem madeA (D : DefA d X E) (I : Inv X pins σ (upd H ea (ExcM ea C dd)) s) (hx : H ea = none) (h0 : X.s₀.heap.get? ea = none) (hd : H dd = some (atX n)) (q : E (.int n tk) (some C) H) : X.xe (.ref ea) s := by
  rw [D.xe]
  obtain ⟨t, he⟩ := HOk.made I.hok upd_same
  have I1 : Inv X pins σ H s := Inv.drop I hx h0
  have hfr : X.A.frames = some (X.env :: X.outer) := by rw [I.ok.frames, D.stk]
  have inh : ∀ env ∈ X.stack, ∀ b, env.frame = some b → b ∈ ea :: frs X.stack := fun env z b hb => List.mem_cons_of_mem _ (List.mem_filterMap.mpr ⟨env, z, hb⟩)
  have ff : s.heap.FunFrames (PySem.W.hideAll s.heap (ea :: frs X.stack)) X.stack := PySem.W.funFrames_hide I.stack inh
  have ff1 := ff
  rw [D.stk] at ff1
  rw [← D.stk] at ff1
  refine leaves1D (od := (some dd, .none)) (base := PySem.W.hideAll s.heap (ea :: frs X.stack)) hfr D.fr (by rw [← D.stk]; exact ff) he rfl (fun b o e => PySem.W.of_hideAll _ e) (PySem.W.hideAll_none _ List.mem_cons_self) rfl rfl rfl rfl fun h2 fl sm => ?_
  refine leavesA (hc := X.s₀.heap) D I1 (fun b o e nb hb => PySem.W.hideAll_get _ e fun z => ?_) (fun b o e => ⟨o, e⟩) ff (CtxN.mono (m := 0) rfl (Nat.zero_le _)) fl sm hd q
  rcases List.mem_cons.mp z with z | z
  · subst z
    rcases hb with y | ⟨o0, y⟩
    · exact y hx
    · rw [h0] at y; cases y
  · exact nb z
end
theorem def_cxA {d : Nat} {P : Program} {w : World} {K : PySem.W.Frag} {mg : Str → Option Value} {base : Heap} {N : List Str} {qual : Str} {scope : Scope} {f : Addr} {cd : Value} {A : Around} {outer : List Env} {s : Shared} {H : Hp} {E : XK} :
    DefA d (cxOf (CXA d P w) P w K mg base N qual scope f cd A outer s H E) E := ⟨rfl, rfl, rfl, rfl⟩
section
variable {d : Nat} {P : Program} {w : World} {K : PySem.W.Frag} {mg : Str → Option Value} {base : Heap}
theorem okA {x qual : Str} {st : Stmt} {f : Addr} {fd : FuncData} {N ps : List Str} {k : Nat} {sp : Sp} (F : Fun K x qual st f fd) (S : FnScope N ps (defScope st)) (len : ∀ vs H Q E, sp vs H Q E → vs.length = ps.length)
    (hbody : ∀ (cdv : Value) (A : Around) (outer : List Env) (s : Shared) (H : Hp) (vs : List V) (Q : VK) (E : XK), Room k (A.deeper (envOfC qual (defScope st) s.heap.objs.size f cdv)) → sp vs H Q E →
      ∃ t, PSs (cxOf (CXA d P w) P w K mg base N qual (defScope st) f cdv A outer s H E) (defBody st) t ∧ t { nx := fun _ H' => Q .non H', rt := Q } (start N vs) H) : FnOk P w K mg base (CXA d P w) (k + 1) f fd ps sp := by
  obtain ⟨oc, od, kV, doc, pm, an, cdv, ct, osl, rfl, lk, hcd⟩ := F.ex
  exact fn_of lk hcd S len fun A outer s H vs Q E hr hsp => hbody cdv A outer s H vs Q E hr hsp
theorem passXA {N : List Str} {qual : Str} {scope : Scope} {f : Addr} {cd : Value} {A : Around} {outer : List Env} {s : Shared} {H : Hp} {E : XK} : Passes (CXA d P w) (cxOf (CXA d P w) P w K mg base N qual scope f cd A outer s H E) E := by
  intro pins σ H1 s1 e s' I h
  exact passA def_cxA I.ok.frames pins σ H1 s1 e s' I h
end
section
variable {d : Nat} {X : Cx} {E : XK} {C fI : Addr} {fd : FuncData} {k : Nat} {x : Str} {p pos cpos : Pos} {e : Expr} {t : TA}
def tRaiseA (C : Addr) (E : XK) (t : TA) : TS := fun _ σ H => t σ H fun vs H1 => ∃ n, vs = [.int n] ∧ ∀ dd tk, H1 dd = none → E (.int n tk) (some C) (upd H1 dd (atX n))
theorem ps_raiseA (D : DefA d X E) (hcq : X.calm = true) (hc : X.A.handled = none) (M : MkX X.K C fI) (F : FnOk X.prog X.w X.K X.mg X.base CX0 k fI fd ["self", "at"] (spXI C)) (hb : Binds X.K fd ["self", "at"] []) (hr : Room (k + 1) X.A) (hg : Gl X x) (hm : X.mg x = some (.ref C))
    (ha : PA X [e] t) (hdb : (x == ("__debug__" : Str)) = false := by decide) (he : starEach [e] X.env = (false, eval e X.env) :: starEach [] X.env := by rfl) (hpl : (backTo cpos (starEach [] X.env)).any (·.1) = false := by rfl) :
    PS X (.Raise (some (.Call (.Name x p) [e] [] cpos)) none pos) (tRaiseA C E t) := by
  intro pins s σ H D' I h
  refine exec_raiseJ (C := C) hc (wpAny_Call_Name_kw (ld_glob I hg hm ?_ hdb))
  refine PySem.W.callWith_K (h₀ := X.base) I.ok.mod.kin M.kp (thn (ha cpos pins s σ H _ I h) fun us s1 ⟨vs, H1, I1, r, n, ev, q⟩ => ⟨I1.kIn, ?_⟩) he hpl
  subst ev
  obtain ⟨u, rfl, ru⟩ := vals1 r
  refine run_makeX M (fun H' s' I' _ => ⟨X.base, F, I'.env0 (I'.ok.hd hcq)⟩) hb hr D.ex I1 ru fun ea dd s' e0 h1 h2 h3 I2 => ?_
  obtain ⟨tl, N, nm, qn, bs, hdct, sn, sub, ab, col, dd0, k0, k1, k2, k3, k5, mN, hC, hN, hi, T⟩ := own_J I2.kIn M.own
  obtain ⟨t, he⟩ := HOk.made I2.hok upd_same
  have hx : upd H1 dd (atX n) ea = none := by rw [upd_ne (Ne.symm h3)]; exact h1
  exact ⟨ea, t, some dd, tl, N, nm, qn, bs, hdct, sn, sub, ab, col, dd0, k0, k1, k2, k3, k5, _, rfl, hC, T.hasType (by decide +kernel), he, madeA D I2 hx (none_old I1 D.ex e0).2.1 upd_same (q dd 0 h2)⟩
end
def MatchX (X : Cx) (C CB : Addr) (b : Bool) : Prop := ∀ (A : Around) (s : Shared) (ea : Addr) (ob : Obj) (Q : Bool → Shared → Prop) (E : Value → Shared → Prop), X.K.In s.heap → s.heap.get? ea = some ob → ob.cls = .ref C → Q b s → wpAny (model X.prog X.w) A (excMatches (.ref ea) (.ref CB)) Q E s
section
variable {X : Cx} {C CB : Addr} {b : Bool}
theorem matchC {A : Around} {s : Shared} {ea : Addr} {ob : Obj} {Q : Bool → Shared → Prop} {E : Value → Shared → Prop} {nm qn : Str} {N : Addr} {bs tl : List Value} {hdct : Bool} {sn : List Str} {sub : List Value} {ab : Bool} {col : Option Bool} {dd : Option Addr} {k0 k1 k2 k3 k5 : Option Value} {new : String}
    (kin : X.K.In s.heap) (hC : s.heap.get? CB = some (excClassObj nm qn CB N bs tl hdct sn sub ab col dd k0 k1 k2 k3 k5 new)) (hb : tl.contains (.type "BaseException") = true) (he : s.heap.get? ea = some ob) (hcls : ob.cls = .ref C)
    (hs : PySem.W.mroIn X.K C (.ref CB) = some b) (q : Q b s) : wpAny (model X.prog X.w) A (excMatches (.ref ea) (.ref CB)) Q E s := by
  obtain ⟨h, g, d, t, os⟩ := s
  have hcB : (Value.ref CB :: tl).contains (.type "BaseException") = true := by rw [List.contains_cons, hb, Bool.or_true]
  have f := tc_notTuple
  have L1 := PySem.W.looks_mroIn (M := model X.prog X.w) kin hs
  unfold excMatches
  repeat (first | (with_reducible refine wpAny_loadPart_at he ?_; rw [hcls]) | with_reducible refine wpAny_loadPart_at hC ?_ | (with_reducible refine wpAny_isSubtype_exc hC ?_; rw [hcB]) | (with_reducible refine PySem.W.Looks.at (by assumption) ?_) | wp_step)
  cases b
  · repeat (first | exact q | wp_step)
  · repeat (first | exact q | wp_step)
theorem match_J {fI : Addr} {new : String} (q : excJ X.K CB fI new = true) (hs : PySem.W.mroIn X.K C (.ref CB) = some b) : MatchX X C CB b := by
  intro A s ea ob Q E kin he hcls hq
  obtain ⟨tl, N, nm, qn, bs, hdct, sn, sub, ab, col, dd0, k0, k1, k2, k3, k5, mN, hC, hN, hi, T⟩ := own_J kin q
  exact matchC kin hC (T.hasType (by decide +kernel)) he hcls hs hq
theorem match_in {x : Str} {new : String} (hm : X.mg x = some (.ref CB)) (q : PySem.W.excIn X.K CB bmX new = true) (hs : PySem.W.mroIn X.K C (.ref CB) = some b) : MatchX X C CB b := by
  intro A s ea ob Q E kin he hcls hq
  obtain ⟨tl, N, nm, qn, bs, hdct, sn, sub, ab, col, dd, k0, k1, k2, k3, k5, mN, hC, hN, hni, T⟩ := (own_in kin hm q).obj
  exact matchC kin hC (T.hasType (by decide +kernel)) he hcls hs hq
end
end L2.XA
set_option maxHeartbeats 1000000
namespace L2
open PySem PySem.Spec PyProof.Rows PySem.W
theorem ff_base {h B B' : Heap} : ∀ {l : List Env}, h.FunFrames B l → (∀ b ∈ frs l, B'.get? b = none) → h.FunFrames B' l
  | [], _, _ => trivial
  | env :: r, ⟨k, ⟨L, o, fr, _, e, d⟩, t⟩, n => by
    have m : frs (env :: r) = L :: frs r := by
      show List.filterMap _ (env :: r) = _
      rw [List.filterMap_cons, fr]
      rfl
    rw [m] at n
    exact ⟨k, ⟨L, o, fr, n L List.mem_cons_self, e, d⟩, ff_base t fun b hb => n b (List.mem_cons_of_mem _ hb)⟩
def baseB (l : List Env) (H : Hp) (h : Heap) : Heap := hideAll h (trk h H ++ frs l)
theorem baseB_get {l : List Env} {H : Hp} {h : Heap} {b : Addr} {o : Obj} (e : h.get? b = some o) (n : H b = none) (nf : b ∉ frs l) : (baseB l H h).get? b = some o := hideAll_get _ e fun hm => by
  rcases List.mem_append.mp hm with z | z
  · have q : (H b).isSome = true := (List.mem_filter.mp z).2
    rw [n] at q
    simp at q
  · exact nf z
theorem of_baseB {l : List Env} {H : Hp} {h : Heap} {b : Addr} {o : Obj} (e : (baseB l H h).get? b = some o) : h.get? b = some o ∧ H b = none ∧ b ∉ frs l := by
  have e' : h.get? b = some o := of_hideAll _ e
  refine ⟨e', ?_, fun z => ?_⟩
  · cases q : H b with
    | none => rfl
    | some x =>
      have hm : b ∈ trk h H ++ frs l := List.mem_append_left _ (List.mem_filter.mpr ⟨List.mem_range.mpr (Heap.lt_size e'), by simp [q]⟩)
      have z : (baseB l H h).get? b = none := hideAll_none _ hm
      rw [z] at e
      cases e
  · have z : (baseB l H h).get? b = none := hideAll_none _ (List.mem_append_right _ z)
    rw [z] at e
    cases e
section
variable {X : Cx} {pins : List (Addr × Obj)} {σ : St} {H : Hp} {s : Shared}
theorem Inv.nfr2 (I : Inv X pins σ H s) {b : Addr} {o : Obj} (e : X.base.get? b = some o) : b ∉ frs X.stack := fun z => by
  rcases List.mem_cons.mp (I.stkSub b z) with z | z
  · have := Heap.lt_size (I.ok.bs b o e).1
    rw [z] at this
    exact absurd this (Nat.not_lt.mpr I.ok.above)
  · exact I.ok.nofr e z
theorem Inv.baseK (I : Inv X pins σ H s) : ∀ b o, X.base.get? b = some o → (baseB X.stack H s.heap).get? b = some o := fun b o e => baseB_get (I.bs b o e).1 (I.bs b o e).2 (I.nfr2 e)
theorem Inv.modB (I : Inv X pins σ H s) : Mod X.K X.mg (baseB X.stack H s.heap) := by
  obtain ⟨k1, k2, ⟨mb, k3, k4⟩, k5⟩ := I.ok.mod
  have kb := I.baseK
  exact ⟨k1.keeps kb, k2.keeps kb, ⟨mb, k3.keeps kb, k4⟩, k5.keeps kb⟩
theorem Inv.env0B (hq : QtH X.A (baseB X.stack H s.heap)) (I : Inv X pins σ H s) : Env0 X.prog X.w X.K X.mg (baseB X.stack H s.heap) X.A X.stack s H := by
  refine ⟨I.ok.frames, I.modB, fun b o e => ⟨(of_baseB e).1, (of_baseB e).2.1⟩, Nat.le_of_eq (hideAll_size _ _), ff_base I.stack fun b hb => ?_, I.stkFree, I.hok, I.bare, hq⟩
  cases z : (baseB X.stack H s.heap).get? b with
  | none => rfl
  | some o => exact absurd hb (of_baseB z).2.2
theorem Inv.pinNf (I : Inv X pins σ H s) {p : Addr × Obj} (hp : p ∈ X.pn ++ pins) : p.1 ∉ frs X.stack := fun z => by
  obtain ⟨_, _, nl, nf, _⟩ := I.pin p hp
  exact (List.mem_cons.mp (I.stkSub _ z)).elim nl nf
end
namespace XA
open _root_.XA
def FlyG (d : Nat) (l : List Env) (h0 : Heap) (H : Hp) (ea C : Addr) (od : Option Addr) (cx : Value) (h : Heap) : Prop := ∃ B a0, FlyD B l ea (.ref C) a0 (od, cx) h ∧ Cov l h0 H B h ∧ CtxN B h0 H d cx
theorem FlyG.ofE {l : List Env} {h0 : Heap} {H : Hp} {ea C : Addr} {h : Heap} (x : Fly l h0 H ea C h) : ∃ od, FlyG 0 l h0 H ea C od .none h := by
  obtain ⟨B, a0, fl, c, ox, fs, e, d, z⟩ := x
  exact ⟨ox.dict, B, a0, ⟨fl, ox, fs, e, rfl, d, z⟩, c, rfl⟩
theorem ctx_pl {B h0 : Heap} {H : Hp} : ∀ {n : Nat} {v : Value}, CtxN B h0 H n v → ∃ pl : List (Addr × Obj), (∀ p ∈ pl, B.get? p.1 = some p.2 ∧ (∃ fs, p.2.data = .fields fs) ∧ h0.get? p.1 = none ∧ H p.1 = none) ∧
    ∀ (B' h0' : Heap) (H' : Hp), (∀ p ∈ pl, B'.get? p.1 = some p.2 ∧ h0'.get? p.1 = none ∧ H' p.1 = none) → CtxN B' h0' H' n v
  | 0, _, x => ⟨[], by simp, fun _ _ _ _ => x⟩
  | _ + 1, _, .inl x => ⟨[], by simp, fun _ _ _ _ => .inl x⟩
  | n + 1, _, .inr ⟨c, oc, fs, v', e, h1, h2, h3, h4, h5, r⟩ => by
    obtain ⟨pl, q, k⟩ := ctx_pl r
    refine ⟨(c, oc) :: pl, fun p hp => ?_, fun B' h0' H' hh => ?_⟩
    · rcases List.mem_cons.mp hp with z | z
      · subst z
        exact ⟨h1, ⟨fs, h2⟩, h4, h5⟩
      · exact q p z
    · obtain ⟨a1, a2, a3⟩ := hh (c, oc) List.mem_cons_self
      exact .inr ⟨c, oc, fs, v', e, a1, h2, h3, a2, a3, k B' h0' H' fun p hp => hh p (List.mem_cons_of_mem _ hp)⟩
structure AtG (d : Nat) (X : Cx) (pins : List (Addr × Obj)) (σ : St) (H : Hp) (ea C : Addr) (od : Option Addr) (cx : Value) (s : Shared) : Prop where
  inv : Inv X pins σ H s
  new : H ea = none
  old : X.s₀.heap.get? ea = none
  nl : ea ≠ X.env.locals
  nc : ∀ y c, X.env.cells.lookup y = some c → c ≠ ea
  np : ∀ p ∈ X.pn ++ pins, p.1 ≠ ea
  nf : ea ∉ frs X.stack
  fly : ∃ B a0 h1, FlyD B (X.env :: X.outer) ea (.ref C) a0 (od, cx) s.heap ∧ (∀ h', B.StaysIn h' → s.heap.UpToSlots h' → Inv X pins σ H { s with heap := h' }) ∧ CtxN B h1 H d cx ∧ (∀ c, h1.get? c = none → X.s₀.heap.get? c = none ∧ c ≠ X.env.locals)
section
variable {d : Nat} {X : Cx} {pins : List (Addr × Obj)} {σ : St} {H H1 : Hp} {s s1 : Shared} {ea C CB : Addr} {od : Option Addr} {cx : Value} {D : Ends} {E : Value → Shared → Prop}
theorem comesG {hs : List ExceptHandler} {Q : Flow → Shared → Prop} (I1 : Inv X pins σ H1 s1) (I : Inv X pins σ H s) (hst : X.stack = X.env :: X.outer) (fr : X.env.frame = some X.env.locals) (hex : X.ex = []) (fly : FlyG d X.stack s1.heap H ea C od cx s.heap)
    (k : ∀ h5, AtG d X pins σ H ea C od cx { s with heap := h5 } → wpAny (model X.prog X.w) X.A (handleBy (.ref ea) X.env hs) Q E { s with heap := h5 }) :
    wpAny (model X.prog X.w) X.A (noteFrame (.ref ea) X.env) (fun _ s₂ => wpAny (model X.prog X.w) X.A (setFlight (.ref ea) none) (fun _ s₃ => wpAny (model X.prog X.w) X.A (handleBy (.ref ea) X.env hs) Q E s₃) E s₂) E s := by
  obtain ⟨B, a0, fl, c, ctx⟩ := fly
  have hfr : X.A.frames = some (X.env :: X.outer) := by rw [I.ok.frames, hst]
  have ff := fl.1.2.2.1
  have fl' := fl
  rw [hst] at fl'
  obtain ⟨oe, ws, hoe, hoec, hoed, hoe0⟩ := fl.1.first
  have nfr : ea ∉ frs X.stack := fun z => by
    obtain ⟨_, o', e', d'⟩ := ff.mem (show ea ∈ X.stack.filterMap (·.frame) from z)
    rw [hoe] at e'
    cases e'
    exact d' ws hoed
  have hB := fl.1.2.1
  have h1e : s1.heap.get? ea = none := by
    cases z : s1.heap.get? ea with
    | none => rfl
    | some u =>
      have y := c ea oe hoe nfr (.inr ⟨u, z⟩)
      rw [hB] at y; cases y
  have hHe : H ea = none := by
    cases z : H ea with
    | none => rfl
    | some u =>
      have y := c ea oe hoe nfr (.inl (by rw [z]; intro y; cases y))
      rw [hB] at y; cases y
  obtain ⟨_, o2, o3, o4, o5⟩ := none_old I1 hex h1e
  refine looksD hfr fr fl' fun h4 held sm4 => landsD held fun h5 fl5 sm5 => ?_
  have sm := sm4.trans sm5
  exact k h5 ⟨Inv.moved I1 I hst fr hex c fl5.1.1 sm ff, hHe, o2, o3, o4, o5, nfr, B, a0, s1.heap, fl5, fun h' st sm' => Inv.moved (s := s) I1 I hst fr hex c st (sm.trans sm') ff, ctx, fun b hb => ⟨(none_old I1 hex hb).2.1, (none_old I1 hex hb).2.2.1⟩⟩
theorem AtG.there (a : AtG d X pins σ H ea C od cx s) : ∃ ob, s.heap.get? ea = some ob ∧ ob.cls = .ref C := by
  obtain ⟨B, a0, _, fl, _⟩ := a.fly
  exact fl.1.there
end
end XA
end L2
set_option maxHeartbeats 2000000
namespace L2
open PySem PySem.Spec PyProof.Rows PySem.W
theorem CtxV.up {h : Heap} : ∀ {n : Nat} {v : Value}, CtxV h n v → CtxV h (n + 1) v
  | 0, _, x => .inl x
  | _ + 1, _, .inl x => .inl x
  | _ + 1, _, .inr ⟨c, oc, fs, v', a, b, d, e, r⟩ => .inr ⟨c, oc, fs, v', a, b, d, e, r.up⟩
theorem CtxV.mono {h : Heap} {m n : Nat} {v : Value} (x : CtxV h m v) (k : m ≤ n) : CtxV h n v := by
  induction k with
  | refl => exact x
  | step _ ih => exact ih.up
namespace XA
open _root_.XA
section
variable {d : Nat} {X : Cx} {pins : List (Addr × Obj)} {σ : St} {H : Hp} {s : Shared} {ea C CB C2 fI : Addr} {od : Option Addr} {cx : Value} {D : Ends} {E : XK} {k : Nat} {fd : FuncData} {cn x : Str} {np hpos p cpos np2 rpos : Pos} {kk : Nat} {e : Expr} {t : TA} {rest : List ExceptHandler}
theorem hitFrom (a : AtG d X pins σ H ea C od cx s) (hd1 : d ≤ 2) (DD : DefA (d + 1) X E) (hg : Gl X cn) (hm : X.mg cn = some (.ref CB)) (mt : MatchX X C CB true) (hdc : (cn == ("__debug__" : Str)) = false)
    (M : MkX X.K C2 fI) (F : ∀ Bh, Mod X.K X.mg Bh → FnOk X.prog X.w X.K X.mg Bh CX0 k fI fd ["self", "at"] (spXI C2)) (hb : Binds X.K fd ["self", "at"] []) (hr : ∀ ev, Room (k + 1) (X.A.mark (some ev))) (hg2 : Gl X x) (hm2 : X.mg x = some (.ref C2))
    (ha : ∀ ev, PA (X.hnd ev) [e] t) (q : t σ H fun vs H1 => ∃ n, vs = [.int n] ∧ ∀ dd tk, H1 dd = none → E (.int n tk) (some C2) (upd H1 dd (atX n)))
    (hdb : (x == ("__debug__" : Str)) = false) (he : starEach [e] X.env = (false, eval e X.env) :: starEach [] X.env) (hpl : (backTo cpos (starEach [] X.env)).any (·.1) = false) :
    wpAny (model X.prog X.w) X.A (handleBy (.ref ea) X.env (.ExceptHandler (some (.Name cn np)) none [.Raise (some (.Call (.Name x p) [e] [] cpos)) (some (.Constant .none kk np2)) rpos] hpos :: rest)) (SP X pins D) X.xe s := by
  obtain ⟨ob, ho, hc⟩ := a.there
  obtain ⟨B, a0, h1, fl, mv, ctx, ck⟩ := a.fly
  refine wpAny_handleBy_cons (codeAny_handlers_test (ld_glob (X := X.hnd (.ref ea)) (a.inv.hnd (.ref ea)) hg hm ?_ hdc)) (by intro z; cases z)
  refine mt _ _ ea ob _ _ a.inv.kIn ho hc (codeAny_handlers_suite ?_)
  refine againD fl fun h6 fl6 sm6 => ?_
  have I6 := mv h6 fl6.1.1 sm6
  obtain ⟨⟨stB, hB, ffB, tr6⟩, oe, vs, hoe, hodd, hoed, hocx⟩ := fl6
  obtain ⟨pl, hpl1, hplk⟩ := ctx_pl ctx
  have fc := frs_cons DD.stk DD.fr
  have I7 : Inv X (pins ++ ((ea, oe) :: pl)) σ H { s with heap := h6 } := I6.pins_of fun r hr => by
    rcases List.mem_append.mp hr with z | z
    · exact I6.pin r (List.mem_append_right _ z)
    · rcases List.mem_cons.mp z with z | z
      · subst z
        exact ⟨hoe, a.new, a.nl, fun y => a.nf (by rw [fc]; exact List.mem_cons_of_mem _ y), fun v y => by rw [hoed] at y; cases y⟩
      · obtain ⟨b1, ⟨fs, b2⟩, b3, b4⟩ := hpl1 r z
        refine ⟨stB _ _ b1, b4, (ck _ b3).2, fun y => ?_, fun v y => by rw [b2] at y; cases y⟩
        have m : r.1 ∈ (X.env :: X.outer).filterMap (·.frame) := by
          show r.1 ∈ frs (X.env :: X.outer)
          rw [← DD.stk, fc]
          exact List.mem_cons_of_mem _ y
        rw [(ffB.mem m).1] at b1
        cases b1
  have mE : (ea, oe) ∈ X.pn ++ (pins ++ ((ea, oe) :: pl)) := List.mem_append_right _ (List.mem_append_right _ List.mem_cons_self)
  have mP : ∀ r ∈ pl, r ∈ X.pn ++ (pins ++ ((ea, oe) :: pl)) := fun r hr => List.mem_append_right _ (List.mem_append_right _ (List.mem_cons_of_mem _ hr))
  refine wpAny_execs_cons (exec_raiseFromJ (C := C2) (ea := ea) rfl ?_)
  refine wpAny_Call_Name_kw (ld_glob (X := X.hnd (.ref ea)) (I7.hnd (.ref ea)) hg2 hm2 ?_ hdb)
  refine PySem.W.callWith_K (h₀ := X.base) I7.ok.mod.kin M.kp (nox (ha (.ref ea) cpos _ _ σ H _ (I7.hnd _) q) fun us s1 ⟨ws, H1, I1, r, n, ev, qq⟩ => ⟨I1.kIn, ?_⟩) he hpl
  subst ev
  obtain ⟨u, rfl, ru⟩ := vals1 r
  have ctxB : ∀ (Bh : Heap), Bh.get? ea = some oe → (∀ r ∈ pl, Bh.get? r.1 = some r.2) → CtxOf Bh ea := fun Bh h2 h3 =>
    ⟨oe, vs, cx, h2, hoed, hocx, ((hplk Bh X.s₀.heap (fun _ => none) fun r hr => ⟨h3 r hr, (ck _ (hpl1 r hr).2.2.1).1, rfl⟩).V fun c oc _ z _ _ _ => z).mono hd1⟩
  refine run_makeX (X := X.hnd (.ref ea)) M (fun H' s' I' _ => ⟨_, F _ I'.modB, I'.env0B (.inr ⟨ea, rfl, ctxB _ (baseB_get (I'.pin _ mE).1 (I'.pin _ mE).2.1 (I'.pinNf mE)) fun r hr => baseB_get (I'.pin _ (mP r hr)).1 (I'.pin _ (mP r hr)).2.1 (I'.pinNf (mP r hr))⟩)⟩) hb (hr _) DD.ex I1 ru fun e2 dd s2 e0 g1 g2 g3 I2 => ?_
  obtain ⟨tl, N, nm, qn, bs, hdct, sn, sub, ab, col, dd0, k0, k1, k2, k3, k5, mN, hC, hN, hi, T⟩ := own_J I2.kIn M.own
  obtain ⟨t2, he2⟩ := HOk.made I2.hok upd_same
  have hx : upd H1 dd (atX n) e2 = none := by rw [upd_ne (Ne.symm g3)]; exact g1
  have h0 := (none_old I1 DD.ex e0).2.1
  have pn : ∀ r ∈ X.pn ++ (pins ++ ((ea, oe) :: pl)), r.1 ≠ e2 ∧ upd H1 dd (atX n) r.1 = none ∧ s2.heap.get? r.1 = some r.2 := fun r hr => by
    obtain ⟨z1, z2, _⟩ := I2.pin r hr
    have ne : r.1 ≠ e2 := fun y => by
      rw [y, upd_same] at z2
      cases z2
    rw [upd_ne ne] at z2
    exact ⟨ne, z2, z1⟩
  have hid : ∀ r ∈ X.pn ++ (pins ++ ((ea, oe) :: pl)), (hideAll s2.heap [e2]).get? r.1 = some r.2 := fun r hr => hideAll_get _ (pn r hr).2.2 fun z => (pn r hr).1 (List.mem_singleton.mp z)
  refine ⟨e2, t2, some dd, tl, N, nm, qn, bs, hdct, sn, sub, ab, col, dd0, k0, k1, k2, k3, k5, _, rfl, hC, T.hasType (by decide +kernel), he2, fun z => (pn _ mE).1 z.symm, ctxB _ (hid _ mE) fun r hr => hid r (mP r hr), fun h' kb ke => ?_⟩
  have hfr : X.A.frames = some (X.env :: X.outer) := by rw [I6.ok.frames, DD.stk]
  have inh : ∀ env ∈ X.stack, ∀ b, env.frame = some b → b ∈ e2 :: frs X.stack := fun env z b hb => List.mem_cons_of_mem _ (List.mem_filterMap.mpr ⟨env, z, hb⟩)
  have I3 : Inv X pins σ (upd H1 dd (atX n)) s2 := (Inv.drop (Inv.unhnd I6.ok I2) hx h0).pins_of fun r hr => (Inv.drop (Inv.unhnd I6.ok I2) hx h0).pin r (List.mem_append_right _ (List.mem_append_left _ hr))
  have ff : s2.heap.FunFrames (hideAll s2.heap (e2 :: frs X.stack)) X.stack := PySem.W.funFrames_hide I3.stack inh
  have hen : (hideAll s2.heap (e2 :: frs X.stack)).get? e2 = none := hideAll_none _ List.mem_cons_self
  have st : (hideAll s2.heap (e2 :: frs X.stack)).StaysIn h' := fun b o z => by
    have nb : b ≠ e2 := fun y => by rw [y, hen] at z; cases z
    exact (kb b nb).trans (of_hideAll _ z)
  have nr : ∀ b o, s2.heap.get? b = some o → (∀ vs, o.data ≠ .fields vs) → b ≠ e2 := fun b o z nf y => by
    rw [y, he2] at z; injection z with z; subst z; exact nf _ rfl
  have ff' : h'.FunFrames (hideAll s2.heap (e2 :: frs X.stack)) (X.env :: X.outer) := by
    rw [← DD.stk]
    exact ff.of_keeps fun b o z nf => ⟨o, (kb b (nr b o z nf)).trans z, rfl⟩
  have u0 : s2.heap.UpToSlots h' := fun b o z nf => ⟨o.slots, (kb b (nr b o z nf)).trans z⟩
  refine note1D (od := (some dd, .ref ea)) (s := { s2 with heap := h' }) hfr ff' DD.fr ke rfl st hen rfl rfl rfl rfl fun h2 ⟨j1, j2, j3, j4⟩ kd => ?_
  obtain ⟨oe3, vs3, T3, oT, ts, y1, y2, y3, y4, y5⟩ := id j3
  show cameBackBy (model X.prog X.w) X.A X.env X.xe (.ref e2) { s2 with heap := h2 }
  unfold cameBackBy
  refine wpAny_bind (wpAny_field y1 y3 y4 ?_)
  rw [if_neg (show ¬ ((Value.ref T3 == Value.none) = true) from fun z => by cases z)]
  refine flightF j1 j2 j3 kd fun h3 fl' l1 l2 l3 l4 l5 => ?_
  rw [DD.xe]
  refine leavesF hfr DD.fr l1 hen l2 l3 l4 fun h4 fl4 sm4 => ?_
  have u3 : h2.UpToSlots h3 := fun b o z nf => ⟨o.slots, l5 b o z nf⟩
  refine leavesA (s := s2) (hc := X.s₀.heap) DD I3 (fun b o z nb hb => hideAll_get _ z fun y => ?_) (fun b o z => ⟨o, z⟩) ff (.inr ⟨ea, oe, vs, cx, rfl, hideAll_get _ (pn _ mE).2.2 fun y => ?_, hoed, hocx, a.old, (pn _ mE).2.1, hplk _ _ _ fun r hr => ⟨hideAll_get _ (pn _ (mP r hr)).2.2 fun y => ?_, (ck _ (hpl1 r hr).2.2.1).1, (pn _ (mP r hr)).2.1⟩⟩) fl4 (((u0.trans j4).trans u3).trans sm4) upd_same (qq dd 0 g2)
  · rcases List.mem_cons.mp y with y | y
    · subst y
      rcases hb with z | ⟨o0, z⟩
      · exact z hx
      · rw [h0] at z; cases z
    · exact nb y
  · exact (List.mem_cons.mp y).elim (pn _ mE).1 (I2.pinNf mE)
  · exact (List.mem_cons.mp y).elim (pn _ (mP r hr)).1 (I2.pinNf (mP r hr))
end
end XA
end L2
set_option maxHeartbeats 2000000
namespace L2
open PySem PySem.Spec PyProof.Rows PySem.W
abbrev Cx.pinned (X : Cx) (q : List (Addr × Obj)) : Cx := { X with pn := q ++ X.pn }
section
variable {X : Cx} {pins q : List (Addr × Obj)} {σ : St} {H : Hp} {s : Shared}
theorem Inv.unpinX (I : Inv (X.pinned q) pins σ H s) : Inv X pins σ H s :=
  ⟨⟨I.ok.mod, I.ok.kind, I.ok.glob, I.ok.blt, I.ok.above, I.ok.inj, I.ok.has, I.ok.cab, I.ok.hd, I.ok.frames, I.ok.stk, I.ok.exf, I.ok.bs, I.ok.bsz, I.ok.noex, I.ok.exfs, I.ok.funs, I.ok.frf⟩, I.os, I.bare, I.base, I.loc, I.cell, I.free, I.freeC,
    fun p hp => I.pin p (by
      rcases List.mem_append.mp hp with z | z
      · exact List.mem_append_left _ (List.mem_append_right _ z)
      · exact List.mem_append_right _ z), I.hok, I.len⟩
theorem Inv.pinX (I : Inv X pins σ H s) (hq : ∀ p ∈ q, s.heap.get? p.1 = some p.2 ∧ H p.1 = none ∧ p.1 ≠ X.env.locals ∧ p.1 ∉ X.fs ∧ ∀ v, p.2.data ≠ .cell v) : Inv (X.pinned q) pins σ H s :=
  ⟨⟨I.ok.mod, I.ok.kind, I.ok.glob, I.ok.blt, I.ok.above, I.ok.inj, I.ok.has, I.ok.cab, I.ok.hd, I.ok.frames, I.ok.stk, I.ok.exf, I.ok.bs, I.ok.bsz, I.ok.noex, I.ok.exfs, I.ok.funs, I.ok.frf⟩, I.os, I.bare, I.base, I.loc, I.cell, I.free, I.freeC,
    fun p hp => by
      rcases List.mem_append.mp hp with z | z
      · rcases List.mem_append.mp z with z | z
        · exact hq p z
        · exact I.pin p (List.mem_append_left _ z)
      · exact I.pin p (List.mem_append_right _ z), I.hok, I.len⟩
theorem SP.unpinX {D : Ends} {fl : Flow} (h : SP (X.pinned q) pins D fl s) : SP X pins D fl s := by
  cases fl with
  | next => obtain ⟨a, b, J, r⟩ := h; exact ⟨a, b, J.unpinX, r⟩
  | brk => obtain ⟨a, b, J, r⟩ := h; exact ⟨a, b, J.unpinX, r⟩
  | cont => obtain ⟨a, b, J, r⟩ := h; exact ⟨a, b, J.unpinX, r⟩
  | ret u => obtain ⟨v, a, b, J, r⟩ := h; exact ⟨v, a, b, J.unpinX, r⟩
end
namespace XA
open _root_.XA
def CtxP (pp : List (Addr × Obj)) (cx : Value) : Prop := ∀ Bh : Heap, (∀ p ∈ pp, Bh.get? p.1 = some p.2) → CtxV Bh 2 cx
section
variable {d : Nat} {X : Cx} {pins : List (Addr × Obj)} {σ : St} {H : Hp} {s : Shared} {ea C CB dd : Addr} {cx : Value} {D : Ends} {E : Value → Shared → Prop} {cn n : Str} {np hpos : Pos} {b₀ : Stmt} {suite : List Stmt} {rest : List ExceptHandler} {th : Addr → List (Addr × Obj) → TS} {i : Nat}
theorem hitAs (a : AtG d X pins σ H ea C (some dd) cx s) (hd2 : d ≤ 2) (DD : X.stack = X.env :: X.outer) (fr : X.env.frame = some X.env.locals) (hg : Gl X cn) (hm : X.mg cn = some (.ref CB)) (mt : MatchX X C CB true) (hdc : (cn == ("__debug__" : Str)) = false)
    (hs : ∀ ea pp, PSs ((X.hnd (.ref ea)).pinned pp) (b₀ :: suite) (th ea pp)) (hN : X.N.Nodup) (hi : X.N[i]? = some n) (hk : X.env.scope.names.lookup n = some .local)
    (q : ∀ pp, CtxP pp cx → th ea pp (D.gone i) (σ.set i (some (.ref ea))) (upd H ea (ExcA ea C dd cx))) : wpAny (model X.prog X.w) X.A (handleBy (.ref ea) X.env (.ExceptHandler (some (.Name cn np)) (some n) (b₀ :: suite) hpos :: rest)) (SP X pins D) E s := by
  obtain ⟨ob, ho, hc⟩ := a.there
  obtain ⟨B, a0, h1, fl, mv, ctx, ck⟩ := a.fly
  refine wpAny_handleBy_cons (codeAny_handlers_test (ld_glob (X := X.hnd (.ref ea)) (a.inv.hnd (.ref ea)) hg hm ?_ hdc)) (by intro z; cases z)
  refine mt _ _ ea ob _ _ a.inv.kIn ho hc (codeAny_handlers_suite_as ?_)
  refine againD fl fun h6 fl6 sm6 => ?_
  have I6 := mv h6 fl6.1.1 sm6
  obtain ⟨⟨stB, hB, ffB, tr6⟩, oe, vs, hoe, hodd, hoed, hocx⟩ := fl6
  obtain ⟨oe2, _, _, _, _, y1, y2, _⟩ := tr6
  rw [hoe] at y1
  cases y1
  have ncls : PySem.W.notCls oe = true := by
    unfold PySem.W.notCls
    rw [hoed]
  obtain ⟨pl, hpl1, hplk⟩ := ctx_pl ctx
  have fc := frs_cons DD fr
  have nea : ∀ r ∈ pl, r.1 ≠ ea := fun r hr z => by
    have b1 := (hpl1 r hr).1
    rw [z, hB] at b1
    cases b1
  have I7 := Inv.track I6 a.new (fun H' => ok_excA (H := H') hoe y2.1 hodd ncls hoed hocx) a.old a.nl a.nc a.np
  have I8 : Inv (X.pinned pl) pins σ (upd H ea (ExcA ea C dd cx)) { s with heap := h6 } := I7.pinX fun r hr => by
    obtain ⟨b1, ⟨fs, b2⟩, b3, b4⟩ := hpl1 r hr
    refine ⟨stB _ _ b1, by rw [upd_ne (nea r hr)]; exact b4, (ck _ b3).2, fun y => ?_, fun v y => by rw [b2] at y; cases y⟩
    have m : r.1 ∈ (X.env :: X.outer).filterMap (·.frame) := by
      show r.1 ∈ frs (X.env :: X.outer)
      rw [← DD, fc]
      exact List.mem_cons_of_mem _ y
    rw [(ffB.mem m).1] at b1
    cases b1
  have cp : CtxP pl cx := fun Bh hh => ((hplk Bh X.s₀.heap (fun _ => none) fun r hr => ⟨hh r hr, (ck _ (hpl1 r hr).2.2.1).1, rfl⟩).V fun c oc _ z _ _ _ => z).mono hd2
  refine store_ok (X := X.pinned pl) I8 hN hi (.inl hk) (v := .ref ea) rfl (fun s7 I9 => ?_) (.inr hk)
  refine wpAny_mono (hs ea pl pins _ _ _ (D.gone i) (I9.hnd (.ref ea)) (q pl cp)) (fun f s8 h8 => ?_) fun _ _ z => z.elim
  have h9 : SP X pins (D.gone i) f s8 := SP.unpinX (SP.unhnd I8.ok h8)
  cases f with
  | next => obtain ⟨σ', H', I', q'⟩ := h9; exact goes_ok I' hN hi hk fun s9 I9 => ⟨_, H', I9, q'⟩
  | brk => obtain ⟨σ', H', I', q'⟩ := h9; exact goes_ok I' hN hi hk fun s9 I9 => ⟨_, H', I9, q'⟩
  | cont => obtain ⟨σ', H', I', q'⟩ := h9; exact goes_ok I' hN hi hk fun s9 I9 => ⟨_, H', I9, q'⟩
  | ret v => obtain ⟨x, σ', H', I', r, q'⟩ := h9; exact goes_ok I' hN hi hk fun s9 I9 => ⟨x, _, H', I9, r, q'⟩
end
def XPA (d : Nat) (X : Cx) (pins : List (Addr × Obj)) (σ : St) (E : XK) (ev : Value) (s' : Shared) : Prop := ∃ s1 H1 ea C dd n tk H', Inv X pins σ H1 s1 ∧ ev = .ref ea ∧ Inv X pins σ H' s' ∧ FlyA d X.stack s1.heap H' ea C dd s'.heap ∧ H' dd = some (atX n) ∧ E (.int n tk) (some C) H'
def PEXA (d : Nat) (X : Cx) (e : Expr) (t : TX) : Prop :=
  ∀ (pins : List (Addr × Obj)) (s : Shared) (σ : St) (H : Hp) (Q : VK) (E : XK), Inv X pins σ H s → t σ H Q E → wpAny (model X.prog X.w) X.A (eval e X.env) (EP X pins σ Q) (XPA d X pins σ E) s
section
variable {d : Nat} {X : Cx} {k : Nat} {f C : Addr} {fd : FuncData} {ps : List Str} {sp : Sp} {x : Str} {p pos : Pos} {e : Expr} {es : List Expr} {t : TA}
theorem pexA_call (F : FnOk X.prog X.w X.K X.mg X.base (CXA d X.prog X.w) k f fd ps sp) (hr : Room k X.A) (hg : Gl X x) (hm : X.mg x = some (.ref f)) (hk : PySem.W.keepIn X.K (.ref f) = true) (hb : Binds X.K fd ps [])
    (ha : PA X.nox (e :: es) t) (hdb : (x == ("__debug__" : Str)) = false := by decide) (he : starEach (e :: es) X.env = (false, eval e X.env) :: starEach es X.env := by rfl) (hpl : (backTo pos (starEach es X.env)).any (·.1) = false := by rfl) (hcq : X.calm = true := by rfl) :
    PEXA d X (.Call (.Name x p) (e :: es) [] pos) (xCall sp [] t) := by
  intro pins s σ H Q E I h
  refine wpAny_Call_Name_kw (ld_glob I hg hm ?_ hdb)
  refine PySem.W.callWith_K (h₀ := X.base) I.ok.mod.kin hk (nox (ha pos pins s σ H _ (I.wish _) h) fun us s1 ⟨vs, H1, I1, r, q⟩ => ⟨I1.unwish.kIn, ?_⟩) he hpl
  have I2 := I1.unwish
  have r2 : Vals (vs ++ []) (us ++ []) := r.append .nil
  have hl : (us ++ ([] : List Value)).length = ps.length := by rw [← r2.length]; exact F.len _ _ _ _ q
  refine wpAny_call (codeAny_mono (F.run X.A X.stack s1 H1 ⟨us, []⟩ (us ++ []) (vs ++ []) Q E hr (I2.env0 (I2.ok.hd hcq)) (hb s1 us I2.kIn hl) r2 q) fun rr s' hq => ?_)
  cases rr with
  | error e =>
    obtain ⟨ea, C, dd, n, tk, H', e1, I', fl, hd, q⟩ := cameA I2 hq
    exact ⟨s1, H1, ea, C, dd, n, tk, H', I2, e1, I', fl, hd, q⟩
  | ok fl =>
    cases fl with
    | ret u => exact I2.after hq
    | next => exact False.elim hq
    | brk => exact False.elim hq
    | cont => exact False.elim hq
end
section
variable {d : Nat} {X : Cx} {E : XK} {k : Nat} {C2 CB fI : Addr} {fd : FuncData} {e e2 : Expr} {t : TX} {t2 : TA} {cn x y n : Str} {np hpos pos py apos rpos p cpos np2 : Pos} {kk j i : Nat} {b₀ : Stmt} {suite : List Stmt} {th : Addr → List (Addr × Obj) → TS}
def xFrom (C2 : Addr) (E : XK) (t2 : TA) (σ : St) (H : Hp) : Prop := t2 σ H fun vs H1 => ∃ n, vs = [.int n] ∧ ∀ dd tk, H1 dd = none → E (.int n tk) (some C2) (upd H1 dd (atX n))
def tTrySetF (X : Cx) (j : Nat) (CB C2 : Addr) (E : XK) (t : TX) (t2 : TA) : TS := fun D σ H => t σ H (fun v H1 => D.nx (σ.set j (some v)) H1) fun _ c H1 => ∃ C, c = some C ∧ MatchX X C CB true ∧ xFrom C2 E t2 σ H1
theorem ps_trySetF (DD : DefA 1 X E) (hN : X.N.Nodup) (hj : X.N[j]? = some y) (hy : Loc X.env.scope y) (he : PEX X e t) (hg : Gl X cn) (hm : X.mg cn = some (.ref CB))
    (M : MkX X.K C2 fI) (F : ∀ Bh, Mod X.K X.mg Bh → FnOk X.prog X.w X.K X.mg Bh CX0 k fI fd ["self", "at"] (spXI C2)) (hb : Binds X.K fd ["self", "at"] []) (hr : ∀ ev, Room (k + 1) (X.A.mark (some ev))) (hg2 : Gl X x) (hm2 : X.mg x = some (.ref C2)) (ha : ∀ ev, PA (X.hnd ev) [e2] t2)
    (hdc : (cn == ("__debug__" : Str)) = false := by decide) (hdb : (x == ("__debug__" : Str)) = false := by decide) (hse : starEach [e2] X.env = (false, eval e2 X.env) :: starEach [] X.env := by rfl) (hpl : (backTo cpos (starEach [] X.env)).any (·.1) = false := by rfl)
    (hsw : swapsWith e (some (.Name y py)) apos.line X.env = pure false := by rfl) (hf : X.fn y = true ∨ X.env.scope.names.lookup y = some .local := by first | exact .inl rfl | exact .inr rfl | assumption) :
    PS X (.Try [.Assign [.Name y py] e apos] [.ExceptHandler (some (.Name cn np)) none [.Raise (some (.Call (.Name x p) [e2] [] cpos)) (some (.Constant .none kk np2)) rpos] hpos] [] [] pos) (tTrySetF X j CB C2 E t t2) := by
  intro pins s σ H D I h
  refine wpAny_Try_except (wpAny_execs_cons (wpAny_mono (wpAny_Assign_Name (Q := fun f s1 => f = .next ∧ SP X pins D .next s1) (wpAny_mono (he pins s σ H _ _ I h) (fun v s1 ⟨y1, H1, I1, r1, q1⟩ => ?_) fun ev s1 hx => ?_) hsw) (fun f s1 hq => ?_) fun _ _ z => z))
  · exact store_ok I1 hN hj hy r1 (fun s2 I2 => ⟨rfl, _, H1, I2, q1⟩) hf
  · obtain ⟨s0, H0, ea, C', H', I0, rfl, I', fl, C, e1, mt, q⟩ := hx
    obtain rfl : C' = C := Option.some.inj e1
    obtain ⟨od, fg⟩ := FlyG.ofE fl
    exact comesG I0 I' DD.stk DD.fr DD.ex fg fun h5 a => hitFrom a (by decide) DD hg hm mt hdc M F hb hr hg2 hm2 ha q hdb hse hpl
  · obtain ⟨rfl, hq⟩ := hq
    exact wpAny_execs_nil (wpAny_execs_nil hq)
def tTryRetF (X : Cx) (CB C2 : Addr) (E : XK) (t : TX) (t2 : TA) : TS := fun D σ H => t σ H (fun v H1 => D.rt v H1) fun _ c H1 => ∃ C, c = some C ∧ MatchX X C CB true ∧ xFrom C2 E t2 σ H1
theorem ps_tryRetF (hd1 : d ≤ 2) (DD : DefA (d + 1) X E) (he : PEXA d X e t) (hg : Gl X cn) (hm : X.mg cn = some (.ref CB))
    (M : MkX X.K C2 fI) (F : ∀ Bh, Mod X.K X.mg Bh → FnOk X.prog X.w X.K X.mg Bh CX0 k fI fd ["self", "at"] (spXI C2)) (hb : Binds X.K fd ["self", "at"] []) (hr : ∀ ev, Room (k + 1) (X.A.mark (some ev))) (hg2 : Gl X x) (hm2 : X.mg x = some (.ref C2)) (ha : ∀ ev, PA (X.hnd ev) [e2] t2)
    (hdc : (cn == ("__debug__" : Str)) = false := by decide) (hdb : (x == ("__debug__" : Str)) = false := by decide) (hse : starEach [e2] X.env = (false, eval e2 X.env) :: starEach [] X.env := by rfl) (hpl : (backTo cpos (starEach [] X.env)).any (·.1) = false := by rfl) :
    PS X (.Try [.Return (some e) apos] [.ExceptHandler (some (.Name cn np)) none [.Raise (some (.Call (.Name x p) [e2] [] cpos)) (some (.Constant .none kk np2)) rpos] hpos] [] [] pos) (tTryRetF X CB C2 E t t2) := by
  intro pins s σ H D I h
  refine wpAny_Try_except (wpAny_execs_cons (wpAny_mono (wpAny_Return_some (Q := fun f s1 => ∃ u, f = .ret u ∧ SP X pins D (.ret u) s1) (wpAny_mono (he pins s σ H _ _ I h) (fun v s1 ⟨y1, H1, I1, r1, q1⟩ => ?_) fun ev s1 hx => ?_)) (fun f s1 hq => ?_) fun _ _ z => z))
  · exact ⟨v, rfl, y1, σ, H1, I1, r1, q1⟩
  · obtain ⟨s0, H0, ea, C', dd, m0, tk0, H', I0, rfl, I', ⟨B, a0, cx, fl⟩, hdd, C, e1, mt, q⟩ := hx
    obtain rfl : C' = C := Option.some.inj e1
    exact comesG I0 I' DD.stk DD.fr DD.ex ⟨B, a0, fl⟩ fun h5 a => hitFrom a hd1 DD hg hm mt hdc M F hb hr hg2 hm2 ha q hdb hse hpl
  · obtain ⟨u, rfl, hq⟩ := hq
    exact hq
def tTrySetAs (X : Cx) (i j : Nat) (CB : Addr) (t : TX) (th : Addr → List (Addr × Obj) → TS) : TS := fun D σ H => t σ H (fun v H1 => D.nx (σ.set j (some v)) H1) fun ev c H1 => ∃ m tk C, ev = .int m tk ∧ c = some C ∧ MatchX X C CB true ∧
  ∀ ea dd cx pp, H1 ea = none → H1 dd = some (atX m) → CtxP pp cx → th ea pp (D.gone i) (σ.set i (some (.ref ea))) (upd H1 ea (ExcA ea C dd cx))
theorem ps_trySetAs (hd2 : d ≤ 2) (hst : X.stack = X.env :: X.outer) (fr : X.env.frame = some X.env.locals) (hex : X.ex = []) (hN : X.N.Nodup) (hj : X.N[j]? = some y) (hy : Loc X.env.scope y) (hi : X.N[i]? = some n) (hk : X.env.scope.names.lookup n = some .local)
    (he : PEXA d X e t) (hg : Gl X cn) (hm : X.mg cn = some (.ref CB)) (hs : ∀ ea pp, PSs ((X.hnd (.ref ea)).pinned pp) (b₀ :: suite) (th ea pp))
    (hdc : (cn == ("__debug__" : Str)) = false := by decide) (hsw : swapsWith e (some (.Name y py)) apos.line X.env = pure false := by rfl) (hf : X.fn y = true ∨ X.env.scope.names.lookup y = some .local := by first | exact .inl rfl | exact .inr rfl | assumption) :
    PS X (.Try [.Assign [.Name y py] e apos] [.ExceptHandler (some (.Name cn np)) (some n) (b₀ :: suite) hpos] [] [] pos) (tTrySetAs X i j CB t th) := by
  intro pins s σ H D I h
  refine wpAny_Try_except (wpAny_execs_cons (wpAny_mono (wpAny_Assign_Name (Q := fun f s1 => f = .next ∧ SP X pins D .next s1) (wpAny_mono (he pins s σ H _ _ I h) (fun v s1 ⟨y1, H1, I1, r1, q1⟩ => ?_) fun ev s1 hx => ?_) hsw) (fun f s1 hq => ?_) fun _ _ z => z))
  · exact store_ok I1 hN hj hy r1 (fun s2 I2 => ⟨rfl, _, H1, I2, q1⟩) hf
  · obtain ⟨s0, H0, ea, C', dd, m0, tk0, H', I0, rfl, I', ⟨B, a0, cx, fl⟩, hdd, m, tk, C, e1, e2, mt, q⟩ := hx
    obtain rfl : C' = C := Option.some.inj e2
    cases e1
    exact comesG I0 I' hst fr hex ⟨B, a0, fl⟩ fun h5 a => hitAs a hd2 hst fr hg hm mt hdc hs hN hi hk fun pp cp => q ea dd cx pp a.new hdd cp
  · obtain ⟨rfl, hq⟩ := hq
    exact wpAny_execs_nil (wpAny_execs_nil hq)
end
end XA
end L2
set_option maxHeartbeats 2000000
namespace L2.XA
open PySem PySem.Spec PyProof.Rows PySem.W _root_.XA
structure FnH (P : Program) (w : World) (K : PySem.W.Frag) (mg : Str → Option Value) (base : Heap) (k : Nat) (f : Addr) (fd : FuncData) (ps : List Str) (sp : Sp) : Prop where
  len : ∀ vs H Q E, sp vs H Q E → vs.length = ps.length
  run : ∀ (ev : Value) (A : Around) (outer : List Env) (s : Shared) (H : Hp) (args : Args) (us : List Value) (vs : List V) (Q : VK) (E : XK), A.handled = none → Room k A → Env0 P w K mg base A outer s H → BindsTo s fd args (ps.zip us) → Vals vs us → sp vs H Q E →
    codeAny (model P w) (A.mark (some ev)) (.call (.ref f) args) (CR CX0 outer P w H s Q E) s
section
variable {P : Program} {w : World} {K : PySem.W.Frag} {mg : Str → Option Value} {base : Heap}
theorem okH {x qual : Str} {st : Stmt} {f : Addr} {fd : FuncData} {N ps : List Str} {k : Nat} {sp : Sp} (F : Fun K x qual st f fd) (S : FnScope N ps (defScope st)) (len : ∀ vs H Q E, sp vs H Q E → vs.length = ps.length)
    (hb : ∀ (ev : Value) (cdv : Value) (A : Around) (outer : List Env) (s : Shared) (H : Hp) (vs : List V) (Q : VK) (E : XK), (A.deeper (envOfC qual (defScope st) s.heap.objs.size f cdv)).handled = none → Room k (A.deeper (envOfC qual (defScope st) s.heap.objs.size f cdv)) → sp vs H Q E →
      ∃ t, PSs ((cxOf CX0 P w K mg base N qual (defScope st) f cdv A outer s H E).hnd ev) (defBody st) t ∧ t { nx := fun _ H' => Q .non H', rt := Q } (start N vs) H) : FnH P w K mg base (k + 1) f fd ps sp := by
  obtain ⟨oc, od, kV, doc, pm, an, cdv, ct, osl, rfl, lk, hcd⟩ := F.ex
  refine ⟨len, fun ev A outer s H args us vs Q E hh hr e0 hbi r hsp => ?_⟩
  have kin : K.In s.heap := e0.mod.kin.keeps fun b o e => (e0.bs b o e).1
  have nol : s.heap.NoLimit := e0.mod.nolimit.keeps fun b o e => (e0.bs b o e).1
  have kinds : ∀ y ∈ ps.zip us, (defScope st).names.lookup y.1 = some .local ∨ ((defScope st).names.lookup y.1 = some .cell ∧ ((cellsFrom (s.heap.objs.size + 1) (defScope st).names []).lookup y.1).isSome = true) := fun y hy =>
    (S.par y.1 (List.of_mem_zip (show (y.1, y.2) ∈ ps.zip us from hy)).1).imp id fun q => ⟨q, PySem.W.cellsFrom_some _ _ _ (.inl q)⟩
  refine codeAny_call_function (A := A.mark (some ev)) hr.depth (kin _ _ lk) rfl S.co S.gen rfl (PySem.W.codeRec_of kin hcd) (hbi _ _ _ _ (wpAny_newFunctionEnv_cells S.kind kinds fun env he s1 x => ?_))
  subst he
  obtain ⟨t, ht, hq⟩ := hb ev cdv A outer s H vs Q E hh (hr.deeper _) hsp
  have I := inv_start (CX := CX0) (E := E) (qual := qual) (f := f) (cd := cdv) S e0 (len _ _ _ _ hsp) r x
  refine ⟨nol.keeps x.toInCall.keep, codeAny_func (wpAny_mono (ht [] s1 (start N vs) H _ (I.hnd ev) hq) (fun fl s' hs => ?_) fun e s' hs => hs.elim)⟩
  cases fl with
  | ret u =>
    obtain ⟨v, σ', H', J, rv, q⟩ := hs
    exact ⟨v, H', J.os, J.bare, J.base, J.hok, rv, q⟩
  | next =>
    obtain ⟨σ', H', J, q⟩ := hs
    exact ⟨.non, H', J.os, J.bare, J.base, J.hok, rfl, q⟩
  | brk =>
    obtain ⟨_, _, _, q⟩ := hs
    exact False.elim q
  | cont =>
    obtain ⟨_, _, _, q⟩ := hs
    exact False.elim q
end
structure GH (P : Program) (w : World) (K : PySem.W.Frag) (mg : Str → Option Value) (base : Heap) (k : Nat) (x : Str) (ps : List Str) (sp : Sp) : Prop where
  ex : ∃ f fd, FnH P w K mg base k f fd ps sp ∧ Binds K fd ps [] ∧ mg x = some (.ref f) ∧ PySem.W.keepIn K (.ref f) = true
section
variable {Y : Cx} {A0 : Around} {ev : Value} {j k : Nat} {ps : List Str} {sp : Sp} {x : Str} {p pos : Pos} {e : Expr} {es : List Expr} {t : TA}
theorem pcH (G : GH Y.prog Y.w Y.K Y.mg Y.base j x ps sp) (hr : Room k A0) (hh : A0.handled = none) (hY : Y.A = A0.mark (some ev)) (ha : PA Y (e :: es) t) (hk : j ≤ k := by decide) (hg : Gl Y x := by rfl)
    (hdb : (x == ("__debug__" : Str)) = false := by decide) (he : starEach (e :: es) Y.env = (false, eval e Y.env) :: starEach es Y.env := by rfl) (hpl : (backTo pos (starEach es Y.env)).any (·.1) = false := by rfl) :
    PE Y (.Call (.Name x p) (e :: es) [] pos) (tCall sp [] E0 t) := by
  obtain ⟨f, fd, F, hb, hm, hkp⟩ := G.ex
  intro pins s σ H Q I h
  refine wpAny_Call_Name_kw (ld_glob I hg hm ?_ hdb)
  refine PySem.W.callWith_K (h₀ := Y.base) I.ok.mod.kin hkp (thn (ha pos pins s σ H _ I h) fun us s1 ⟨vs, H1, I1, r, q⟩ => ⟨I1.kIn, ?_⟩) he hpl
  have r2 : Vals (vs ++ []) (us ++ []) := r.append .nil
  have hl : (us ++ ([] : List Value)).length = ps.length := by rw [← r2.length]; exact F.len _ _ _ _ q
  have ef : A0.frames = some Y.stack := by
    have z := I1.ok.frames
    rw [hY] at z
    exact z
  have e2 : Env0 Y.prog Y.w Y.K Y.mg Y.base A0 Y.stack s1 H1 := ⟨ef, I1.ok.mod, I1.bs, Nat.le_trans I1.ok.bsz I1.sz, I1.stack, I1.stkFree, I1.hok, I1.bare, .inl hh⟩
  have z := F.run ev A0 Y.stack s1 H1 ⟨us, []⟩ (us ++ []) (vs ++ []) Q E0 hh (hr.mono hk) e2 (hb s1 us I1.kIn hl) r2 q
  rw [← hY] at z
  refine wpAny_call (codeAny_mono z fun rr s' hq => ?_)
  cases rr with
  | error e => exact False.elim hq
  | ok fl =>
    cases fl with
    | ret u => exact I1.after hq
    | next => exact False.elim hq
    | brk => exact False.elim hq
    | cont => exact False.elim hq
end
def del (H : Hp) (a : Addr) : Hp := fun b => if b = a then none else H b
theorem del_same {H : Hp} {a : Addr} : del H a a = none := if_pos rfl
theorem del_ne {H : Hp} {a b : Addr} (h : b ≠ a) : del H a b = H b := if_neg h
theorem del_none {H : Hp} {a b : Addr} (h : H b = none) : del H a b = none := by
  unfold del
  split
  · rfl
  · exact h
theorem del_upd {H : Hp} {a : Addr} {o : HO} (h : H a = none) : del (upd H a o) a = H := by
  funext b
  by_cases e : b = a
  · rw [e, del_same, h]
  · rw [del_ne e, upd_ne e]
section
variable {X : Cx} {pins : List (Addr × Obj)} {σ : St} {H : Hp} {s : Shared} {ea C0 dd : Addr} {cx : Value} {pp : List (Addr × Obj)}
theorem Inv.env0D (I : Inv X pins σ H s) (hA : X.A.handled = some (.ref ea)) (he : H ea = some (ExcA ea C0 dd cx)) (hp : ∀ p ∈ pp, p ∈ X.pn) (cp : CtxP pp cx) :
    Mod X.K X.mg (baseB X.stack (del H ea) s.heap) ∧ Env0 X.prog X.w X.K X.mg (baseB X.stack (del H ea) s.heap) X.A X.stack s (del H ea) ∧ ∃ oe, s.heap.get? ea = some oe ∧ ea ∉ frs X.stack := by
  obtain ⟨⟨oe, eo, _, _, _, vs, hv, hx⟩, _⟩ := I.hok ea _ he
  have nf : ea ∉ frs X.stack := fun z => by rw [I.stkFree ea z] at he; cases he
  have kb : ∀ b o, X.base.get? b = some o → (baseB X.stack (del H ea) s.heap).get? b = some o := fun b o e => baseB_get (I.bs b o e).1 (del_none (I.bs b o e).2) (I.nfr2 e)
  obtain ⟨k1, k2, ⟨mb, k3, k4⟩, k5⟩ := I.ok.mod
  have md : Mod X.K X.mg (baseB X.stack (del H ea) s.heap) := ⟨k1.keeps kb, k2.keeps kb, ⟨mb, k3.keeps kb, k4⟩, k5.keeps kb⟩
  refine ⟨md, ⟨I.ok.frames, md, fun b o e => ⟨(of_baseB e).1, (of_baseB e).2.1⟩, Nat.le_of_eq (hideAll_size _ _), ff_base I.stack fun b hb => ?_, fun b hb => del_none (I.stkFree b hb), fun a o e => ?_, I.bare, .inr ⟨ea, hA, oe, vs, cx, baseB_get eo del_same nf, hv, hx, cp _ fun p hm => ?_⟩⟩, oe, eo, nf⟩
  · cases z : (baseB X.stack (del H ea) s.heap).get? b with
    | none => rfl
    | some o => exact absurd hb (of_baseB z).2.2
  · have ne : a ≠ ea := fun z => by rw [z, del_same] at e; cases e
    rw [del_ne ne] at e
    refine (I.hok a o e).stay (fun c v _ q => q) (fun c q => ?_) fun c xs q => ?_
    · rw [del_ne fun z => ?_]
      · exact q
      · rw [z, he] at q; cases q
    · rw [del_ne fun z => ?_]
      · exact q
      · rw [z, he] at q; cases q
  · have hm' := List.mem_append_left pins (hp p hm)
    exact baseB_get (I.pin p hm').1 (del_none (I.pin p hm').2.1) (I.pinNf hm')
theorem Un.under {fs : List Addr} {H' : Hp} {h h' : Heap} {o : HO} (he : H ea = some (ExcA ea C0 dd cx)) (u : Un fs [] (del H ea) H' h h') : Un fs [] H (upd H' ea (ExcA ea C0 dd cx)) h h' := by
  have ne : ∀ b, H b = none → b ≠ ea := fun b z e => by rw [e, he] at z; cases z
  refine ⟨fun b o e n => u.keep b o e (del_none n), fun b o e n => u.slot b o e (del_none n), fun b o e n nx => ?_, u.there, fun b xs e => ?_, fun b o v e => ?_, fun b ps e => ?_⟩
  · rw [upd_ne (ne b n)]
    exact u.free b o e (del_none n) nx
  · have nb : b ≠ ea := fun z => by rw [z, he] at e; cases e
    rw [upd_ne nb]
    exact u.tups b xs (by rw [del_ne nb]; exact e)
  · have nb : b ≠ ea := fun z => by rw [z, he] at e; cases e
    rw [upd_ne nb]
    exact u.frzs b o v (by rw [del_ne nb]; exact e)
  · have nb : b ≠ ea := fun z => by rw [z, he] at e; cases e
    rw [upd_ne nb]
    exact u.tbls b ps (by rw [del_ne nb]; exact e)
variable {k : Nat} {f : Addr} {fd : FuncData} {ps : List Str} {sp : Sp} {x : Str} {p pos : Pos} {e : Expr} {es : List Expr} {t : TA}
def tCallD (ea : Addr) (pp : List (Addr × Obj)) (sp : Sp) (t : TA) : TE := fun σ H Q => t σ H fun vs H1 => ∃ C0 dd cx, H1 ea = some (ExcA ea C0 dd cx) ∧ CtxP pp cx ∧ sp vs (del H1 ea) (fun v H2 => H2 ea = none → Q v (upd H2 ea (ExcA ea C0 dd cx))) fun _ _ _ => False
theorem pe_callD (hA : X.A.handled = some (.ref ea)) (hp : ∀ p ∈ pp, p ∈ X.pn) (F : ∀ B, Mod X.K X.mg B → FnOk X.prog X.w X.K X.mg B CX0 k f fd ps sp) (hr : Room k X.A) (hg : Gl X x) (hm : X.mg x = some (.ref f)) (hk : PySem.W.keepIn X.K (.ref f) = true) (hb : Binds X.K fd ps []) (ha : PA X (e :: es) t)
    (hdb : (x == ("__debug__" : Str)) = false := by decide) (hst : starEach (e :: es) X.env = (false, eval e X.env) :: starEach es X.env := by rfl) (hpl : (backTo pos (starEach es X.env)).any (·.1) = false := by rfl) :
    PE X (.Call (.Name x p) (e :: es) [] pos) (tCallD ea pp sp t) := by
  intro pins s σ H Q I h
  refine wpAny_Call_Name_kw (ld_glob I hg hm ?_ hdb)
  refine PySem.W.callWith_K (h₀ := X.base) I.ok.mod.kin hk (thn (ha pos pins s σ H _ I h) fun us s1 ⟨vs, H1, I1, r, C0, dd, cx, he, cp, q⟩ => ⟨I1.kIn, ?_⟩) hst hpl
  obtain ⟨md, e0, oe, eo, nf⟩ := Inv.env0D I1 hA he hp cp
  have hl : us.length = ps.length := by rw [← r.length]; exact (F _ md).len _ _ _ _ q
  have bb := hb s1 us I1.kIn (by rw [List.append_nil]; exact hl)
  rw [List.append_nil] at bb
  refine wpAny_call (codeAny_mono ((F _ md).run X.A X.stack s1 (del H1 ea) ⟨us, []⟩ us vs _ _ hr e0 bb r q) fun r s' hq => ?_)
  cases r with
  | error e => exact False.elim hq
  | ok fl =>
    cases fl with
    | next => exact False.elim hq
    | brk => exact False.elim hq
    | cont => exact False.elim hq
    | ret u =>
      obtain ⟨v, H', os, bare, un, hok, rv, q⟩ := hq
      have h'e : H' ea = none := un.free ea oe eo del_same (by simp)
      have keep := un.keep ea oe eo del_same nf (by simp)
      refine I1.after ⟨v, upd H' ea (ExcA ea C0 dd cx), os, bare, Un.under (o := .own 0) he un, fun b w e => ?_, rv, q h'e⟩
      by_cases hb : b = ea
      · subst hb
        rw [upd_same] at e
        cases e
        obtain ⟨ph, _, mono⟩ := I1.hok _ _ he
        exact ⟨mono _ _ ph fun o e => by rw [eo] at e; cases e; exact keep, ⟨_, keep⟩, mono⟩
      · rw [upd_ne hb] at e
        exact (hok b w e).stay (fun c v _ q => q) (fun c q => by rw [upd_ne (ne_of_none q h'e)]; exact q) fun c xs q => by rw [upd_ne (ne_of_none q h'e)]; exact q
end
end L2.XA
namespace L2
open PySem PySem.Spec PyProof.Rows PySem.W
set_option maxHeartbeats 1600000 in
theorem lc_coreE {X : Cx} {elt iter : Expr} {x : Str} {px : Pos} {ifs : List Expr} {scope : Scope} {pos : Pos} {N' : List Str} {fv : List Nat} {tt : TT} {te : TE} {pins : List (Addr × Obj)} {σ : St} {s2 : Shared} {H2 : Hp} {it : Addr} {fp : List Addr} {tn : Nat → Heap → Prop} {J : It}
    {RR : Value → Addr → Result → Shared → Prop} {Fin : List V → Hp → Prop} {E : Value → Shared → Prop} {W : Nat → List V → Hp → Prop} {n : Nat}
    (S : BlkScope X.N X.env.scope scope x N' fv) (hc : X.calm = true) (xb : Addr → Value → Shared → Prop) (herr : ∀ (D C : Addr) (ev : Value) (s' : Shared), s2.heap.objs.size ≤ C → xb C ev s' → notedBy (model X.prog X.w) X.A (X.blk N' scope C fp s2 H2).env (fun x s'' => RR (.ref D) C (.error x) s'') ev s')
    (ht : ∀ C, PTs ((X.blk N' scope C fp s2 H2).wish (xb C)) ifs tt) (he : ∀ C, PE ((X.blk N' scope C fp s2 H2).wish (xb C)) elt te)
    (I2 : Inv X pins σ H2 s2) (T : Turn X.prog X.w X.K (.Name x px) J fp it tn) (st2 : tn 0 s2.heap) (f2 : ∀ b ∈ fp, FpOk X pins H2 b) (w0 : W 0 [] H2) (hn : n ≤ sizeLine)
    (turn : ∀ i ys H, W i ys H → (J.stop i H ∧ Fin ys H) ∨ (J.go i H ∧ i < n ∧ ∀ x H', J.yld i H x H' → tt (some x :: blkVals fv σ) H' fun c H2 => if c = true then te (some x :: blkVals fv σ) H2 fun y H3 => W (i + 1) (ys ++ [y]) H3 else W (i + 1) ys H2))
    (fin : ∀ (D C : Addr) (ys : List V) (H4 : Hp) (s5 : Shared) (m5 : Str → Option Value), Inv X pins σ (upd H4 D (.lst ys)) s5 → s5.heap.Ns C m5 → C ≠ D → H4 D = none → H4 C = none → C ≠ X.env.locals → X.s₀.heap.objs.size ≤ C → (∀ y c, X.env.cells.lookup y = some c → c ≠ C) → (∀ p ∈ X.pn ++ pins, p.1 ≠ C) → Fin ys H4 → RR (.ref D) C (.ok .next) s5) :
    wpAny (model X.prog X.w) X.A (newList []) (fun acc s₃ => wpAny (model X.prog X.w) X.A (newFunctionEnv scope X.env.globals (cloOf X.env scope.names []) [] X.env.qual none .none (some X.env)) (fun cenv s₄ =>
      codeAny (model X.prog X.w) X.A (.compStart (.ListComp elt [⟨.Name x px, iter, ifs, 0⟩] scope pos) 0 (.ref it) acc { cenv with scope := relabel scope X.env }) (RR acc cenv.locals) s₄) E s₃) E s2 := by
  refine wpAny_newObj_type (wpAny_newFunctionEnv S.nocell (by intro y hy; simp at hy) (fun h1 hns hsb => ?_) S.kind)
  dsimp only at hns hsb ⊢
  generalize hH : s2.heap.push { cls := .type "list", dict := none, data := .seq ([] : List Value).toArray } = G at hns hsb ⊢
  have hG : G.objs.size = s2.heap.objs.size + 1 := by rw [← hH, Heap.size_push]
  have kpG : ∀ b o, s2.heap.get? b = some o → G.get? b = some o := fun b o e => hH ▸ Heap.get?_push_of_some _ e
  have kp1 : ∀ b o, b < G.objs.size → G.get? b = some o → h1.get? b = some o := fun b o lt e => hsb.extBut b o (Nat.ne_of_lt lt) (Heap.get?_push_of_some _ e)
  have kp : ∀ b o, s2.heap.get? b = some o → h1.get? b = some o := fun b o e => kp1 b o (by rw [hG]; exact Nat.lt_succ_of_lt (Heap.lt_size e)) (kpG b o e)
  have hD : h1.PlainList s2.heap.objs.size #[] := ⟨_, kp1 _ _ (by rw [hG]; exact Nat.lt_succ_self _) (hH ▸ Heap.get?_push_size _ rfl)⟩
  have hDC : s2.heap.objs.size ≠ G.objs.size := by rw [hG]; exact Nat.ne_of_lt (Nat.lt_succ_self _)
  have hC : s2.heap.objs.size ≤ G.objs.size := by rw [hG]; exact Nat.le_succ _
  have hfo : ∀ b ∈ fp, b < s2.heap.objs.size := fun b hb => by obtain ⟨o, e, _⟩ := T.obj 0 _ st2 b hb; exact Heap.lt_size e
  have stat : ∀ {H' : Hp} {pl : List (Addr × Obj)}, (∀ b ∈ fp, H' b = none) → (∀ p ∈ pl, p.1 ∉ fp) → ∀ b ∈ fp, FpOk ((X.blk N' scope G.objs.size fp s2 H2).wish (xb G.objs.size)) pl H' b := fun {H' pl} hn hpl b hb => by
    obtain ⟨_, g1, g2, g3, g4, g5⟩ := f2 b hb
    refine ⟨hn b hb, Nat.ne_of_lt (Nat.lt_of_lt_of_le (hfo b hb) hC), fun z => ?_, .inl hb, fun y c e => g4 y c (cloOf_lookup_sub e), fun p hp e => ?_⟩
    · rcases List.mem_cons.mp (I2.stkSub b z) with q | q
      · exact g1 q
      · exact g2 q
    · exact hpl p hp (e ▸ hb)
  have hDf : s2.heap.objs.size ∉ fp := fun z => absurd (hfo _ z) (Nat.lt_irrefl _)
  have hlc : ((X.blk N' scope G.objs.size fp s2 H2).wish (xb G.objs.size)).env.scope.names.lookup x = some .local := lookup_relabel_local S.loc
  have hcl : ∀ y c, ((X.blk N' scope G.objs.size fp s2 H2).wish (xb G.objs.size)).env.cells.lookup y = some c → c ≠ s2.heap.objs.size := fun y c e z => by
    obtain ⟨v, q⟩ := I2.cell y c (cloOf_lookup_sub e)
    exact absurd q.lt (by rw [z]; exact Nat.lt_irrefl _)
  have pin1 : ∀ {s' : Shared} {H' : Hp} {ob : Obj} {i : Nat} {ys : List V}, Inv ((X.blk N' scope G.objs.size fp s2 H2).wish (xb G.objs.size)) [] (none :: blkVals fv σ) H' s' → s'.heap.get? s2.heap.objs.size = some ob → (∀ v, ob.data ≠ .cell v) → H' s2.heap.objs.size = none →
      Inv ((X.blk N' scope G.objs.size fp s2 H2).wish (xb G.objs.size)) [(s2.heap.objs.size, ob)] (none :: blkVals fv σ) H' s' := fun {s' H' ob i ys} J1 e d f => J1.pins_of fun p hp => by
    have z : p = (s2.heap.objs.size, ob) := by simpa using hp
    subst z
    refine ⟨e, f, hDC, fun z => ?_, d⟩
    rcases List.mem_cons.mp (I2.stkSub _ z) with q | q
    · exact absurd I2.lt (by rw [← q]; exact Nat.lt_irrefl _)
    · exact I2.nofs (Nat.le_refl _) q
  have loop : ∀ s3 : Shared, s3 = { s2 with heap := h1, toks := s2.toks + ([] : List (Str × Value)).length } →
      codeAny (model X.prog X.w) X.A (.compLoop (.ListComp elt [⟨.Name x px, iter, ifs, 0⟩] scope pos) 0 (.ref it) (.ref s2.heap.objs.size) ((X.blk N' scope G.objs.size fp s2 H2).wish (xb G.objs.size)).env)
        (RR (.ref s2.heap.objs.size) G.objs.size) s3 := by
    rintro s3 rfl
    have thx : ∀ {α : Type} {m : Sem α} {Q Q' : α → Shared → Prop} {st : Shared}, wpAny (model X.prog X.w) X.A m Q (xb G.objs.size) st → (∀ v s', Q v s' → Q' v s') → wpAny (model X.prog X.w) X.A m Q' (notedBy (model X.prog X.w) X.A ((X.blk N' scope G.objs.size fp s2 H2).wish (xb G.objs.size)).env fun e s' => RR (.ref s2.heap.objs.size) G.objs.size (.error e) s') st :=
      fun h k => wpAny_mono h k fun ev s' hx => herr _ _ ev s' hC hx
    refine codeAny_compLoop_tests (fun k s' => ∃ i ys H' its, k = n + 1 - i ∧ i ≤ n ∧ ys.length ≤ i ∧ Vals ys its ∧ s'.heap.PlainList s2.heap.objs.size its.toArray ∧
      Inv ((X.blk N' scope G.objs.size fp s2 H2).wish (xb G.objs.size)) [] (none :: blkVals fv σ) H' s' ∧ H' s2.heap.objs.size = none ∧ tn i s'.heap ∧ (∀ b ∈ fp, H' b = none) ∧ W i ys H') ?_ (n + 1)
      ⟨0, [], H2, [], rfl, Nat.zero_le _, Nat.le_refl _, .nil, hD, (blk_inv (pl := []) S I2 f2 hfo hC kp hns (fun p hp => nomatch hp)).wish _, I2.hok.fresh (Nat.le_refl _), T.keep _ _ _ st2 fun b _ o e => kp b o e, fun b hb => (f2 b hb).1, w0⟩
    rintro k s4 ⟨i, ys, H4, its, rfl, hin, hyi, rv, pl4, I4, fD4, st4, ff4, w4⟩
    obtain ⟨cnt, eD⟩ := id pl4
    have I4p := pin1 (i := i) (ys := ys) I4 eD (fun v z => by cases z) fD4
    have np : ∀ p ∈ [(s2.heap.objs.size, ({ cls := .type "list", data := .seq its.toArray cnt } : Obj))], p.1 ∉ fp := fun p hp => by
      have z : p = (s2.heap.objs.size, ({ cls := .type "list", data := .seq its.toArray cnt } : Obj)) := by simpa using hp
      subst z; exact hDf
    rcases turn i ys H4 w4 with ⟨stop, fn⟩ | ⟨go, hi2, step⟩
    · refine wpAny_mono (T.done ((X.blk N' scope G.objs.size fp s2 H2).wish (xb G.objs.size)) rfl rfl rfl hc i _ s4 _ H4 _ I4p (stat ff4 np) st4 stop) (fun r s5 ⟨hr, I5⟩ => ?_) fun _ _ e => e
      subst hr
      obtain ⟨m5, hm5, _⟩ := I5.loc
      have eD5 : s5.heap.get? s2.heap.objs.size = some { cls := .type "list", data := .seq its.toArray cnt } := (I5.pin _ (List.mem_append_right _ List.mem_cons_self)).1
      have fD2 : H2 s2.heap.objs.size = none := I2.hok.fresh (Nat.le_refl _)
      have ltD : ∀ {b : Addr} {o : Obj}, s2.heap.get? b = some o → b ≠ s2.heap.objs.size := fun {b o} e => Nat.ne_of_lt (Heap.lt_size e)
      have B := I5.base
      have fC : H4 G.objs.size = none := I5.free
      have I5X : Inv X pins σ (upd H4 s2.heap.objs.size (.lst ys)) s5 := by
        refine I2.call' (s' := s5) (ch := fp) I5.os ⟨fun b o e nb hb hx => B.keep b o e nb hb hx, fun b o e nb hb hx => B.slot b o e nb hb hx, fun b o e nb hx => ?_, fun b o e hx => B.there b o e hx, fun b xs e => ?_, fun b o u e => ?_, fun b ps e => ?_⟩ ?_ I5.bare fun b hb => ?_
        · rw [upd_ne (ltD e)]; exact B.free b o e nb hx
        · have e' : H2 b = some (.tup xs) := e
          rw [upd_ne (ne_of_none e' fD2)]; exact B.tups b xs e
        · have e' : H2 b = some (.frz o u) := e
          rw [upd_ne (ne_of_none e' fD2)]; exact B.frzs b o u e
        · have e' : H2 b = some (.tbl ps) := e
          rw [upd_ne (ne_of_none e' fD2)]; exact B.tbls b ps e
        · intro b u e
          by_cases hb : b = s2.heap.objs.size
          · subst hb
            rw [upd_same] at e
            cases e
            exact ⟨Nat.le_trans hyi (Nat.le_trans hin hn), its, cnt, rv, eD5⟩
          · rw [upd_ne hb] at e
            exact (I5.hok b u e).stay (fun c v hc' q => q) (fun c q => by rw [upd_ne (ne_of_none q fD4)]; exact q) fun c xs q => by rw [upd_ne (ne_of_none q fD4)]; exact q
        · obtain ⟨_, g1, g2, g3, g4, g5⟩ := f2 b hb
          exact ⟨g3, g1, g4, g5⟩
      refine fin s2.heap.objs.size G.objs.size ys H4 s5 m5 I5X hm5 hDC.symm fD4 fC (Nat.ne_of_gt (Nat.lt_of_lt_of_le I2.lt hC)) (Nat.le_trans I2.sz hC) (fun y c e z => ?_) (fun p hp z => ?_) fn
      · obtain ⟨v, q⟩ := I2.cell y c e
        exact absurd (Nat.lt_of_lt_of_le q.lt hC) (by rw [z]; exact Nat.lt_irrefl _)
      · exact absurd (Nat.lt_of_lt_of_le (Heap.lt_size (I2.pin p hp).1) hC) (by rw [z]; exact Nat.lt_irrefl _)
    · refine wpAny_mono (T.item ((X.blk N' scope G.objs.size fp s2 H2).wish (xb G.objs.size)) rfl rfl rfl hc i _ s4 _ H4 _ I4p (stat ff4 np) st4 go) (fun r s5 ⟨u, hr, h5⟩ => ?_) fun _ _ e => e
      subst hr
      show wpAny _ _ (letOwnedTupleGo (.Name x px) (.ref it) u >>= fun _ => assign (.Name x px) ((X.blk N' scope G.objs.size fp s2 H2).wish (xb G.objs.size)).env u) _ _ s5
      refine wpAny_bind (wpAny_mono h5 (fun _ s6 ⟨xv, H6, I6, r6, y6, st6, ff6⟩ => ?_) fun _ _ e => e)
      have I6' := I6.pinned (stat ff6 np) (T.obj _ _ st6)
      have out : ∀ {σ' : St} {H' : Hp} {s' : Shared}, Inv ((X.blk N' scope G.objs.size fp s2 H2).wish (xb G.objs.size)) ([(s2.heap.objs.size, ({ cls := .type "list", data := .seq its.toArray cnt } : Obj))] ++ pinsAt fp s6.heap) σ' H' s' →
          s'.heap.PlainList s2.heap.objs.size its.toArray ∧ H' s2.heap.objs.size = none ∧ (∀ b ∈ fp, H' b = none) ∧ (∀ b ∈ fp, ∀ o, s6.heap.get? b = some o → s'.heap.get? b = some o) := fun {σ' H' s'} J1 => by
        have q := J1.pin (s2.heap.objs.size, ({ cls := .type "list", data := .seq its.toArray cnt } : Obj)) (List.mem_append_right _ (List.mem_append_left _ List.mem_cons_self))
        refine ⟨⟨cnt, q.1⟩, q.2.1, fun b hb => ?_, fun b hb o e => (J1.pin (b, o) (List.mem_append_right _ (List.mem_append_right _ (mem_pinsAt hb e)))).1⟩
        obtain ⟨o, e, d⟩ := T.obj _ _ st6 b hb
        exact (J1.pin (b, o) (List.mem_append_right _ (List.mem_append_right _ (mem_pinsAt hb e)))).2.1
      refine thx ((pg_name (X := (X.blk N' scope G.objs.size fp s2 H2).wish (xb G.objs.size)) (i := 0) S.nd S.hd (.inl hlc) (.inr hlc)) _ s6 _ H6 xv u (fun σ' H' => σ' = some xv :: blkVals fv σ ∧ H' = H6) I6' r6 ⟨rfl, rfl⟩) fun _ s7 ⟨σ7, H7, I7, e7, e7'⟩ => ?_
      subst e7 e7'
      refine thx (ht _ _ s7 _ H7 _ I7 (step xv H7 y6)) fun ok s8 ⟨H8, I8, q8⟩ => ?_
      cases ok with
      | false =>
        obtain ⟨o1, o2, o3, o4⟩ := out I8
        exact ⟨n + 1 - (i + 1), by omega, i + 1, ys, H8, its, rfl, hi2, Nat.le_succ_of_le hyi, rv, o1, (I8.pins_of (pins' := []) fun p hp => nomatch hp).weak (σ' := none :: blkVals fv σ) rfl (fun j v e => by
          cases j with
          | zero => cases (show (none : Option V) = some v from Option.some.inj e)
          | succ j => exact e), o2, T.keep _ _ _ st6 o4, o3, q8⟩
      | true =>
        refine thx (he _ _ s8 _ H8 _ I8 q8) fun yv s9 ⟨y, H9, I9, r9, q9⟩ => ?_
        obtain ⟨o1, o2, o3, o4⟩ := out I9
        have hlen := rv.length
        refine wpAny_list_append_plain (hsz := by rw [List.size_toArray, ← hlen]; exact Nat.le_trans hyi (Nat.le_trans hin hn)) o1 fun h' pl' sb' => ?_
        have I9' : Inv ((X.blk N' scope G.objs.size fp s2 H2).wish (xb G.objs.size)) [] (some xv :: blkVals fv σ) H9 { s9 with heap := h' } :=
          (I9.pins_of (pins' := []) fun p hp => nomatch hp).turned (t' := s9.toks) (it := s2.heap.objs.size) (fun b o hb e => sb'.extBut b o hb e) o2 hDC (.inr (Nat.le_refl _)) hcl (fun p hp => nomatch hp)
        refine ⟨n + 1 - (i + 1), by omega, i + 1, ys ++ [y], H9, its ++ [yv], rfl, hi2, by rw [List.length_append]; exact Nat.succ_le_succ hyi, rv.append (.cons r9 .nil), ?_, I9'.weak (σ' := none :: blkVals fv σ) rfl (fun j v e => by
          cases j with
          | zero => cases (show (none : Option V) = some v from Option.some.inj e)
          | succ j => exact e), o2, T.keep _ _ _ st6 fun b hb o e => sb'.extBut b o (fun z => hDf (z ▸ hb)) (o4 b hb o e), o3, q9⟩
        have e9 : (its ++ [yv]).toArray = its.toArray.push yv := by simp
        rw [e9]
        exact pl'
  exact codeAny_compStart_list (loop _ rfl) (T.self _ 0 _ _ _ (T.keep _ _ _ st2 fun b _ o e => kp b o e) (loop _ rfl))
end L2
set_option maxHeartbeats 2000000
namespace L2.XA
open PySem PySem.Spec PyProof.Rows PySem.W _root_.XA
theorem ff_keep {h h' B : Heap} : ∀ {l : List Env}, h.FunFrames B l → (∀ b ∈ frs l, h'.get? b = h.get? b) → h'.FunFrames B l
  | [], _, _ => trivial
  | env :: r, ⟨k, ⟨L, o, fr, nb, e, d⟩, t⟩, n => by
    have m : frs (env :: r) = L :: frs r := by
      show List.filterMap _ (env :: r) = _
      rw [List.filterMap_cons, fr]
      rfl
    rw [m] at n
    exact ⟨k, ⟨L, o, fr, nb, (n L List.mem_cons_self).trans e, d⟩, ff_keep t fun b hb => n b (List.mem_cons_of_mem _ hb)⟩
theorem note_env {e : Value} {a b : Env} (h : a.frame = b.frame) : noteFrame e a = noteFrame e b := by
  unfold noteFrame PySem.frameOf
  rw [h]
def xB (d : Nat) (X : Cx) (N' : List Str) (scope : Scope) (fp : List Addr) (s2 : Shared) (H2 : Hp) (E : XK) (C : Addr) (ev : Value) (s' : Shared) : Prop :=
  ∃ pl σ' s1 H1 ea C' dd n tk H', Inv (X.blk N' scope C fp s2 H2) pl σ' H1 s1 ∧ ev = .ref ea ∧ Inv (X.blk N' scope C fp s2 H2) pl σ' H' s' ∧ FlyA d X.stack s1.heap H' ea C' dd s'.heap ∧ H' dd = some (atX n) ∧ E (.int n tk) (some C') H'
theorem passB {d : Nat} {X : Cx} {N' : List Str} {scope : Scope} {fp : List Addr} {s2 : Shared} {H2 : Hp} {E : XK} {C : Addr} : Passes (CXA d X.prog X.w) ((X.blk N' scope C fp s2 H2).wish (xB d X N' scope fp s2 H2 E C)) E := by
  intro pins σ H s e s' I h
  obtain ⟨ea, C', dd, n, tk, H', e1, I', fl, hd, q⟩ := cameA (X := X.blk N' scope C fp s2 H2) I.unwish h
  exact ⟨pins, σ, s, H, ea, C', dd, n, tk, H', I.unwish, e1, I', fl, hd, q⟩
section
variable {d : Nat} {X : Cx} {E : XK} {pins : List (Addr × Obj)} {σ : St} {H2 : Hp} {s2 : Shared} {N' : List Str} {scope : Scope} {fp : List Addr} {C : Addr} {ev : Value} {s' : Shared} {acc : Value} {use : Option (Value → Sem Unit)} {Q : Value → Shared → Prop}
theorem lcErr (D : DefA d X E) (I2 : Inv X pins σ H2 s2) (f2 : ∀ b ∈ fp, FpOk X pins H2 b) (hC : s2.heap.objs.size ≤ C) (h : xB d X N' scope fp s2 H2 E C ev s') :
    notedBy (model X.prog X.w) X.A (X.blk N' scope C fp s2 H2).env (fun x s'' => compPost (model X.prog X.w) X.A X.xe use Q acc C (.error x) s'') ev s' := by
  obtain ⟨pl, σ', s1, H1, ea, C', dd, n, tk, H', I1, rfl, I', ⟨B, a0, cx, fl, c, ctx⟩, hd, q⟩ := h
  have lift : ∀ {H3 : Hp} {s3 : Shared}, Inv (X.blk N' scope C fp s2 H2) pl σ' H3 s3 → Inv X pins σ H3 s3 := fun J => I2.call' (ch := fp) J.os J.base J.hok J.bare fun b hb => by
    obtain ⟨_, g1, g2, g3, g4, g5⟩ := f2 b hb
    exact ⟨g3, g1, g4, g5⟩
  have J0 := lift I1
  have J1 := lift I'
  have hfr : X.A.frames = some (X.env :: X.outer) := by rw [I2.ok.frames, D.stk]
  have ff := fl.1.2.2.1
  have fl' := fl
  rw [D.stk] at fl'
  have s2C : s2.heap.get? C = none := by
    cases z : s2.heap.get? C with
    | none => rfl
    | some o => exact absurd (Heap.lt_size z) (Nat.not_lt.mpr hC)
  have s0C : ∀ b o, X.s₀.heap.get? b = some o → b ≠ C := fun b o e z => by
    obtain ⟨o', e'⟩ := I2.base.there b o e (by rw [D.ex]; simp)
    rw [z, s2C] at e'
    cases e'
  have fpS : ∀ b o, X.s₀.heap.get? b = some o → b ∉ fp := fun b o e z => by
    obtain ⟨_, _, _, g3, _⟩ := f2 b z
    rcases g3 with y | y
    · rw [D.ex] at y
      cases y
    · exact absurd (Heap.lt_size e) (Nat.not_lt.mpr y)
  have in1 : ∀ b o, X.s₀.heap.get? b = some o → ∃ o', s1.heap.get? b = some o' := fun b o e => J0.base.there b o e (by rw [D.ex]; simp)
  show wpAny _ _ (noteFrame (.ref ea) (X.blk N' scope C fp s2 H2).env) _ _ s'
  rw [note_env (a := (X.blk N' scope C fp s2 H2).env) (b := X.env) rfl]
  refine looksD hfr D.fr fl' fun h4 held sm4 => ?_
  obtain ⟨⟨st4, hB, ff4, tr4⟩, kd4⟩ := held
  have J2 : Inv X pins σ H' { s' with heap := h4 } := Inv.moved J0 J1 D.stk D.fr D.ex c st4 sm4 ff
  obtain ⟨m, hm, _⟩ := I'.loc
  have hm4 : h4.Ns C m := sm4.ns hm
  have H'C : H' C = none := I'.free
  refine ⟨m, hm4, fun h' sb cenv hcv => ?_⟩
  have kb : ∀ b, b ≠ C → h'.get? b = h4.get? b := fun b n => sb.2 b n
  have dC : ∀ o vs, h4.get? C = some o → o.data ≠ .fields vs := fun o vs e z => by
    obtain ⟨o2, es, ep, e2, d2, _⟩ := hm4
    rw [e] at e2
    cases e2
    rw [z] at d2
    cases d2
  have neF : ∀ b o vs, h4.get? b = some o → o.data = .fields vs → b ≠ C := fun b o vs e z y => dC o vs (y ▸ e) z
  have J3 : Inv X pins σ H' { s' with heap := h' } := Inv.turned (s := { s' with heap := h4 }) (t' := s'.toks) (it := C) J2 (fun b o nb e => (kb b nb).trans e) H'C (Nat.ne_of_gt (Nat.lt_of_lt_of_le I2.lt hC)) (.inr (Nat.le_trans I2.sz hC)) (fun y k e z => by
    obtain ⟨v, o, e', _⟩ := I2.cell y k e
    rw [z, s2C] at e'
    cases e') fun p hp z => by
      have y := (I2.pin p hp).1
      rw [z, s2C] at y
      cases y
  have hbC : (hideAll B [C]).get? C = none := hideAll_none _ List.mem_cons_self
  have ofB : ∀ {b : Addr} {o : Obj}, (hideAll B [C]).get? b = some o → B.get? b = some o ∧ b ≠ C := fun {b o} e => ⟨of_hideAll _ e, fun z => by rw [z, hbC] at e; cases e⟩
  have toB : ∀ {b : Addr} {o : Obj}, B.get? b = some o → b ≠ C → (hideAll B [C]).get? b = some o := fun e n => hideAll_get _ e fun z => n (List.mem_singleton.mp z)
  have noB : ∀ b, B.get? b = none → (hideAll B [C]).get? b = none := fun b e => by
    cases z : (hideAll B [C]).get? b with
    | none => rfl
    | some o => rw [(ofB z).1] at e; cases e
  have stB : (hideAll B [C]).StaysIn h' := fun b o e => (kb b (ofB e).2).trans (st4 b o (ofB e).1)
  have ff3 : h4.FunFrames (hideAll B [C]) (X.env :: X.outer) := ff_base ff4 fun b hb => noB b (ff4.mem (show b ∈ (X.env :: X.outer).filterMap (·.frame) from hb)).1
  have nfC : ∀ b ∈ frs (X.env :: X.outer), b ≠ C := fun b hb z => by
    rw [← D.stk] at hb
    rcases List.mem_cons.mp (I2.stkSub b hb) with y | y
    · exact absurd (Nat.lt_of_lt_of_le I2.lt hC) (by rw [← y, z]; exact Nat.lt_irrefl _)
    · exact I2.nofs hC (z ▸ y)
  have ff5 : h'.FunFrames (hideAll B [C]) (X.env :: X.outer) := by
    exact ff_keep ff3 fun b hb => kb b (nfC b hb)
  obtain ⟨oe, vs, T, oT, ts, y1, y2, y3, y4, y5, y6, y7, y8, y9⟩ := tr4
  have tr5 : h'.TracedAtW (hideAll B [C]) ea (.ref C') a0 (rawInt X.env.locals) := ⟨oe, vs, T, oT, ts, (kb ea (neF _ _ _ y1 y3)).trans y1, y2, y3, y4, noB T y5, y6, (kb T (neF _ _ _ y7 y8)).trans y7, y8, y9⟩
  have kd5 : KD (some dd, cx) ea h' := by
    obtain ⟨o, ws, z1, z2, z3, z4⟩ := kd4
    exact ⟨o, ws, (kb ea (neF _ _ _ z1 z3)).trans z1, z2, z3, z4⟩
  refine passF (l := X.env :: X.outer) stB ff5 tr5 kd5 fun h5 fl5 l1 l2 l3 l4 l5 => ?_
  rw [D.xe]
  refine leavesF hfr D.fr l1 (noB _ hB) l2 l3 l4 fun h6 fl6 sm6 => ?_
  have u5 : h'.UpToSlots h5 := fun b o z nf => ⟨o.slots, l5 b o z nf⟩
  refine leavesA (s := { s' with heap := h' }) (hc := X.s₀.heap) D J3 (fun b o e nb hb => ?_) (fun b o e => ⟨o, e⟩) (by rw [D.stk]; exact ff5) (ctx.to fun b oc _ e1 _ e2 e3 => ⟨toB e1 fun z => ?_, ?_, e3⟩) fl6 (u5.trans sm6) hd q
  · have nC : b ≠ C := fun z => by
      rcases hb with y | ⟨o0, y⟩
      · rw [z] at y
        exact y H'C
      · exact s0C b o0 y z
    have e4 : h4.get? b = some o := (kb b nC).symm.trans e
    obtain ⟨o', e'⟩ : ∃ o', s'.heap.get? b = some o' := by
      rcases hb with y | ⟨o0, y⟩
      · cases z : H' b with
        | none => exact absurd z y
        | some u => exact ObjOk.there (J1.hok b u z)
      · exact J1.base.there b o0 y (by rw [D.ex]; simp)
    have eB := c b o' e' nb (hb.imp id fun ⟨o0, y⟩ => in1 b o0 y)
    have e6 := st4 b o' eB
    rw [e4] at e6
    cases e6
    exact toB eB nC
  · obtain ⟨m1, hm1, _⟩ := I1.loc
    obtain ⟨o, _, _, e', _⟩ := hm1
    have e' : s1.heap.get? C = some o := e'
    rw [z, e'] at e2
    cases e2
  · cases z : X.s₀.heap.get? b with
    | none => rfl
    | some o =>
      obtain ⟨o', e'⟩ := in1 b o z
      rw [e2] at e'
      cases e'
end
section
variable {d : Nat} {X : Cx} {E : XK} {elt iter : Expr} {x : Str} {px : Pos} {scope : Scope} {pos : Pos} {N' : List Str} {fv : List Nat} {wi : TI} {te : TE}
theorem pe_lcE (D : DefA d X E) (S : BlkScope X.N X.env.scope scope x N' fv) (hc : X.calm = true) (hi : PI X (.Name x px) iter wi)
    (he : ∀ C fp s2 H2, PE ((X.blk N' scope C fp s2 H2).wish (xB d X N' scope fp s2 H2 E C)) elt te) (hs : ∀ x, foldedSetIterable iter X.env x = pure x := by intro _; rfl) :
    PE X (.ListComp elt [⟨.Name x px, iter, [], 0⟩] scope pos) (tLC wi fv tAll te) := by
  intro pins s σ H Q I h
  rw [eval_ListComp]
  refine wpAny_comprehension_free (use := none) rfl hs (closureFor_free fun y hy hk => I.ok.has y.1 (S.free y hy hk)) S.kind S.names
    (wpAny_mono (hi pins s σ H _ I h) (fun xv s1 h1 => wpAny_mono h1 (fun itv s2 h2 => ?_) fun _ _ e => e) fun _ _ e => e)
  obtain ⟨it, fp, tn, J, H2, rfl, I2, T, st2, f2, W, n, w0, hn, turn⟩ := h2
  refine lc_coreE (Fin := fun ys H => ∀ p, H p = none → Q (.ref p) (upd H p (.lst ys))) (RR := fun acc C => compPost (model X.prog X.w) X.A X.xe none (EP X pins σ Q) acc C) S hc (xB d X N' scope fp s2 H2 E) (fun D' C ev s' hC hx => lcErr D I2 f2 hC hx) (fun C => pts_nil) (fun C => he C fp s2 H2) I2 T st2 f2 w0 hn turn ?_
  intro E' C ys H4 s5 m5 I5 hm5 hCE fD fC hCL hC0 hCc hCp q
  refine ⟨m5, hm5, fun h' sb' => ⟨.ref E', _, ?_, rfl, q E' fD⟩⟩
  exact I5.turned (t' := s5.toks) (it := C) (fun b o hb e => sb'.extBut b o hb e) (by rw [upd_ne hCE]; exact fC) hCL (.inr hC0) hCc hCp
end
end L2.XA
namespace L2
open PySem PySem.Spec PyProof.Rows
open Builtin Builtin.Str
theorem join_manyS {y : Str} (hy : 1 ≤ y.length) : ∀ ys : List Str, ys.length ≤ (Str.join y ys).length + 1
  | [] => Nat.zero_le _
  | [_] => by simp
  | a :: u :: ys => by
    have ih := join_manyS hy (u :: ys)
    rw [join_cons_cons]
    have e : (a ++ y ++ Str.join y (u :: ys)).length = a.length + y.length + (Str.join y (u :: ys)).length := by
      show ((a.cps ++ y.cps) ++ (Str.join y (u :: ys)).cps).size = _
      rw [Array.size_append, Array.size_append]
      rfl
    rw [e, List.length_cons]
    omega
section
variable {X : Cx}
theorem mt_splitS : MtR X "str.split" (fun x vs H Q => ∃ (z y : Str), x = .str z ∧ vs = [.str y] ∧ 1 ≤ y.length ∧ z.length ≤ 1000000 ∧ ∀ p, H p = none → Q (.ref p) (upd H p (.lst ((Txt.split z y).map V.str)))) := by
  intro pins s σ H x xs v us Q I rx r h
  obtain ⟨z, y, rfl, rfl, h1y, hz, q⟩ := h
  obtain ⟨t, rfl⟩ := rx
  obtain ⟨u, rfl, ⟨t1, rfl⟩⟩ := vals1 r
  have hs : (1000002 : Nat) ≤ sizeLine := by decide
  have many : (Txt.split z y).length ≤ sizeLine := by
    have := join_manyS h1y (Txt.split z y)
    rw [StrLaws.join_split] at this
    omega
  have fin : ∀ (l : List (Str × Tok)) (k : Nat), l.map (·.1) = Txt.split z y → EP X pins σ Q (.ref s.heap.objs.size) { s with toks := k, heap := s.heap.push { cls := .type "list", data := .seq (strValues l).toArray } } := fun l k el =>
    ⟨.ref s.heap.objs.size, _, I.laid (t' := k) (o := .lst ((Txt.split z y).map V.str)) (fun b o e => Heap.get?_push_of_some _ e) (Nat.le_refl _)
      (show ObjOk X.prog X.w _ _ _ (.lst ((Txt.split z y).map V.str)) from ⟨by rw [List.length_map]; exact many, strValues l, 0, el ▸ vals_strs l, Heap.get?_push_size _ rfl⟩), rfl, q _ (I.hok.fresh (Nat.le_refl _))⟩
  have hy : (y.length == 0) = false := by
    cases e : y.length with
    | zero => omega
    | succ n => rfl
  cases h1 : (decide (z.length < y.length) || decide (strKind z < strKind y)) with
  | true =>
    have es : Txt.split z y = [z] := by unfold Txt.split; rw [if_pos h1]
    exact call_meets F.slot_str_split (typeIs_str _ _ _) F.entry_str_split (F.args_str_split_2 _ _) (meets_str_split_cannot_occur z y t t1 h1) (fin [(z, t)] s.toks es.symm)
  | false =>
    cases hf : (occurrences z y 0 z.length (z.length + 1)).isEmpty with
    | true =>
      have es : Txt.split z y = [z] := by unfold Txt.split; rw [if_neg (by rw [h1]; decide), if_pos hf]
      exact call_meets F.slot_str_split (typeIs_str _ _ _) F.entry_str_split (F.args_str_split_2 _ _) (meets_str_split_not_found z y t t1 h1 hy hf) (fin [(z, t)] s.toks es.symm)
    | false =>
      have es : Txt.split z y = partsBetween z (occurrences z y 0 z.length (z.length + 1)) y.length := by unfold Txt.split; rw [if_neg (by rw [h1]; decide), if_neg (by rw [hf]; decide)]
      refine call_meets F.slot_str_split (typeIs_str _ _ _) F.entry_str_split (F.args_str_split_2 _ _) (meets_str_split_sep z y t t1 h1 hy hf (by omega) (by rw [← es]; exact many)) ?_
      rw [strsFrom_eq]
      exact fin _ _ ((numbered_texts _ _).trans es.symm)
theorem mt_part : MtR X "str.partition" (fun x vs H Q => ∃ (z y : Str), x = .str z ∧ vs = [.str y] ∧ (y.length == 0) = false ∧ z.length ≤ sizeLine ∧
    ∀ p, H p = none → Q (.ref p) (upd H p (.tup [.str (Txt.partition z y).1, .str (Txt.partition z y).2.1, .str (Txt.partition z y).2.2]))) := by
  intro pins s σ H x xs v us Q I rx r h
  obtain ⟨z, y, rfl, rfl, hy, hz, q⟩ := h
  obtain ⟨t, rfl⟩ := rx
  obtain ⟨u, rfl, ⟨t1, rfl⟩⟩ := vals1 r
  have fin : ∀ (a b c : Str) (ta tb tc : Tok) (k : Nat), (∀ p, H p = none → Q (.ref p) (upd H p (.tup [.str a, .str b, .str c]))) →
      EP X pins σ Q (.ref s.heap.objs.size) { s with toks := k, heap := s.heap.push { cls := .type "tuple", data := .seq [Value.str a ta, Value.str b tb, Value.str c tc].toArray } } := fun a b c ta tb tc k hq =>
    ⟨.ref s.heap.objs.size, _, I.laid (t' := k) (o := .tup [.str a, .str b, .str c]) (fun b o e => Heap.get?_push_of_some _ e) (Nat.le_refl _)
      (show ObjOk X.prog X.w _ _ _ (.tup [.str a, .str b, .str c]) from ⟨by show 3 ≤ sizeLine; decide, _, .cons ⟨ta, rfl⟩ (.cons ⟨tb, rfl⟩ (.cons ⟨tc, rfl⟩ .nil)), IsTup.new _ _⟩), rfl, hq _ (I.hok.fresh (Nat.le_refl _))⟩
  refine call_meets F.slot_str_partition (typeIs_str _ _ _) F.entry_str_partition (F.args_str_partition_2 _ _) (meets_str_partition z y t t1 hy hz) ?_
  unfold Txt.partition at q
  cases e : occurrences z y 0 z.length 1 with
  | nil => rw [e] at q; exact fin _ _ _ _ _ _ _ q
  | cons i r => rw [e] at q; exact fin _ _ _ _ _ _ _ q
end
end L2
set_option maxHeartbeats 4000000
namespace K25
open PySem L2 Lo
def top (i : Nat) : Stmt := PySem.Challenge.pw_pactroom_k25_no_pact.main.body.getD i (.Pass ⟨0, 0, 0, 0⟩)
abbrev m_NoText_init : Stmt := inClass (top 4) 0
abbrev s_is_whole : Stmt := top 15
abbrev s_shown : Stmt := top 16
abbrev s_read_thing : Stmt := top 17
abbrev s_is_sign : Stmt := top 18
abbrev m_Reader_init : Stmt := inClass (top 19) 0
abbrev m_Reader_passes : Stmt := inClass (top 19) 1
abbrev m_Reader_read_any : Stmt := inClass (top 19) 2
abbrev m_Reader_read_below : Stmt := inClass (top 19) 4
abbrev m_Reader_read_number : Stmt := inClass (top 19) 5
abbrev m_Reader_read_signs : Stmt := inClass (top 19) 6
abbrev m_CellStep_init : Stmt := inClass (top 24) 0
abbrev m_TakeStep_spelled : Stmt := inClass (top 25) 2
abbrev m_MeanStep_spelled : Stmt := inClass (top 26) 2
abbrev m_SumStep_init : Stmt := inClass (top 27) 0
abbrev m_SumStep_spelled : Stmt := inClass (top 27) 4
abbrev m_GiveStep_spelled : Stmt := inClass (top 28) 3
abbrev m_AddStep_init : Stmt := inClass (top 29) 0
abbrev m_AddStep_spelled : Stmt := inClass (top 29) 4
abbrev m_PlusStep_init : Stmt := inClass (top 30) 0
abbrev m_PlusStep_spelled : Stmt := inClass (top 30) 2
abbrev m_NeedStep_init : Stmt := inClass (top 31) 0
abbrev m_NeedStep_spelled : Stmt := inClass (top 31) 2
abbrev s_spell : Stmt := top 32
abbrev s_read_step : Stmt := top 33
abbrev s_read_number : Stmt := top 34
abbrev s_made_step : Stmt := top 35
abbrev s_made_sum : Stmt := top 36
abbrev m_Pact_init : Stmt := inClass (top 40) 0
abbrev m_Pact_spelled : Stmt := inClass (top 40) 1
abbrev s_read_pact : Stmt := top 41
abbrev s_read_part : Stmt := top 42
abbrev s__law_cell : Stmt := top 44
abbrev s__law_whole : Stmt := top 45
abbrev s__law_mixed : Stmt := top 46
abbrev s__law_number : Stmt := top 47
abbrev s__law_either : Stmt := top 48
abbrev s__law_step : Stmt := top 49
abbrev s__law_text : Stmt := top 50
abbrev s__law_odds : Stmt := top 51
abbrev s__law_spoiled : Stmt := top 52
abbrev s__law_is_number : Stmt := top 53
abbrev s__law_is_step : Stmt := top 54
abbrev s__law_due : Stmt := top 55
abbrev s__law_told : Stmt := top 56
abbrev s__law_pact_right : Stmt := top 57
abbrev s__law_step_right : Stmt := top 58
abbrev s_law : Stmt := top 59
theorem sc_NoText_init : FnScope ["self", "at"] ["self", "at"] (defScope m_NoText_init) := ⟨rfl, rfl, rfl, by decide +kernel, rfl, by decide +kernel, by decide +kernel⟩
theorem sc_is_whole : FnScope ["thing"] ["thing"] (defScope s_is_whole) := ⟨rfl, rfl, rfl, by decide +kernel, rfl, by decide +kernel, by decide +kernel⟩
theorem sc_shown : FnScope ["thing"] ["thing"] (defScope s_shown) := ⟨rfl, rfl, rfl, by decide +kernel, rfl, by decide +kernel, by decide +kernel⟩
theorem sc_CellStep_init : FnScope ["self", "where", "cell"] ["self", "where", "cell"] (defScope m_CellStep_init) := ⟨rfl, rfl, rfl, by decide +kernel, rfl, by decide +kernel, by decide +kernel⟩
theorem sc_TakeStep_spelled : FnScope ["self"] ["self"] (defScope m_TakeStep_spelled) := ⟨rfl, rfl, rfl, by decide +kernel, rfl, by decide +kernel, by decide +kernel⟩
theorem sc_MeanStep_spelled : FnScope ["self"] ["self"] (defScope m_MeanStep_spelled) := ⟨rfl, rfl, rfl, by decide +kernel, rfl, by decide +kernel, by decide +kernel⟩
theorem sc_SumStep_init : FnScope ["self", "where", "low", "high"] ["self", "where", "low", "high"] (defScope m_SumStep_init) := ⟨rfl, rfl, rfl, by decide +kernel, rfl, by decide +kernel, by decide +kernel⟩
theorem sc_SumStep_spelled : FnScope ["self"] ["self"] (defScope m_SumStep_spelled) := ⟨rfl, rfl, rfl, by decide +kernel, rfl, by decide +kernel, by decide +kernel⟩
theorem sc_GiveStep_spelled : FnScope ["self"] ["self"] (defScope m_GiveStep_spelled) := ⟨rfl, rfl, rfl, by decide +kernel, rfl, by decide +kernel, by decide +kernel⟩
theorem sc_AddStep_init : FnScope ["self", "where", "cell", "amount"] ["self", "where", "cell", "amount"] (defScope m_AddStep_init) := ⟨rfl, rfl, rfl, by decide +kernel, rfl, by decide +kernel, by decide +kernel⟩
theorem sc_AddStep_spelled : FnScope ["self"] ["self"] (defScope m_AddStep_spelled) := ⟨rfl, rfl, rfl, by decide +kernel, rfl, by decide +kernel, by decide +kernel⟩
theorem sc_PlusStep_init : FnScope ["self", "amount"] ["self", "amount"] (defScope m_PlusStep_init) := ⟨rfl, rfl, rfl, by decide +kernel, rfl, by decide +kernel, by decide +kernel⟩
theorem sc_PlusStep_spelled : FnScope ["self"] ["self"] (defScope m_PlusStep_spelled) := ⟨rfl, rfl, rfl, by decide +kernel, rfl, by decide +kernel, by decide +kernel⟩
theorem sc_NeedStep_init : FnScope ["self", "amount"] ["self", "amount"] (defScope m_NeedStep_init) := ⟨rfl, rfl, rfl, by decide +kernel, rfl, by decide +kernel, by decide +kernel⟩
theorem sc_NeedStep_spelled : FnScope ["self"] ["self"] (defScope m_NeedStep_spelled) := ⟨rfl, rfl, rfl, by decide +kernel, rfl, by decide +kernel, by decide +kernel⟩
theorem sc_spell : FnScope ["word", "numbers"] ["word", "numbers"] (defScope s_spell) := ⟨rfl, rfl, rfl, by decide +kernel, rfl, by decide +kernel, by decide +kernel⟩
def cm_spell_0 : Scope := match defBody s_spell with
  | .Return (some (.Call _ [(.BinOp _ _ (.ListComp _ _ sc _) _)] _ _)) _ :: _ => sc
  | _ => default
theorem sb_spell_0 : BlkScope ["word", "numbers"] (defScope s_spell) cm_spell_0 "number" ["number"] [] := ⟨by decide +kernel, rfl, by decide +kernel, rfl, by decide +kernel, by decide +kernel, rfl, rfl, fun j h => absurd h (Nat.not_lt_zero j)⟩
theorem sc_read_step : FnScope ["text", "words", "shape"] ["text"] (defScope s_read_step) := ⟨rfl, rfl, rfl, by decide +kernel, rfl, by decide +kernel, by decide +kernel⟩
def cm_read_step_0 : Scope := match defBody s_read_step with
  | _ :: _ :: _ :: .Return (some (.Call _ [_, .ListComp _ _ sc _] _ _)) _ :: _ => sc
  | _ => default
theorem sb_read_step_0 : BlkScope ["text", "words", "shape"] (defScope s_read_step) cm_read_step_0 "k" ["k", "words", "shape"] [1, 2] := ⟨by decide +kernel, rfl, by decide +kernel, rfl, by decide +kernel, by decide +kernel, rfl, rfl, by decide +kernel⟩
theorem sc_read_number : FnScope ["word", "letter", "number"] ["word", "letter"] (defScope s_read_number) := ⟨rfl, rfl, rfl, by decide +kernel, rfl, by decide +kernel, by decide +kernel⟩
theorem sc_made_step : FnScope ["word", "numbers"] ["word", "numbers"] (defScope s_made_step) := ⟨rfl, rfl, rfl, by decide +kernel, rfl, by decide +kernel, by decide +kernel⟩
theorem sc_made_sum : FnScope ["where", "low", "high"] ["where", "low", "high"] (defScope s_made_sum) := ⟨rfl, rfl, rfl, by decide +kernel, rfl, by decide +kernel, by decide +kernel⟩
theorem sc_Pact_init : FnScope ["self", "manner", "steps"] ["self", "manner", "steps"] (defScope m_Pact_init) := ⟨rfl, rfl, rfl, by decide +kernel, rfl, by decide +kernel, by decide +kernel⟩
theorem sc_Pact_spelled : FnScope ["self"] ["self"] (defScope m_Pact_spelled) := ⟨rfl, rfl, rfl, by decide +kernel, rfl, by decide +kernel, by decide +kernel⟩
def cm_Pact_spelled_0 : Scope := match defBody m_Pact_spelled with
  | .Return (some (.BinOp _ _ (.Call _ [.ListComp _ _ sc _] _ _) _)) _ :: _ => sc
  | _ => default
theorem sb_Pact_spelled_0 : BlkScope ["self"] (defScope m_Pact_spelled) cm_Pact_spelled_0 "step" ["step"] [] := ⟨by decide +kernel, rfl, by decide +kernel, rfl, by decide +kernel, by decide +kernel, rfl, rfl, fun j h => absurd h (Nat.not_lt_zero j)⟩
theorem sc_read_pact : FnScope ["text", "pieces", "texts"] ["text"] (defScope s_read_pact) := ⟨rfl, rfl, rfl, by decide +kernel, rfl, by decide +kernel, by decide +kernel⟩
def cm_read_pact_0 : Scope := match defBody s_read_pact with
  | _ :: _ :: _ :: _ :: .Return (some (.Call _ [_, .ListComp _ _ sc _] _ _)) _ :: _ => sc
  | _ => default
theorem sb_read_pact_0 : BlkScope ["text", "pieces", "texts"] (defScope s_read_pact) cm_read_pact_0 "k" ["k", "texts"] [2] := ⟨by decide +kernel, rfl, by decide +kernel, rfl, by decide +kernel, by decide +kernel, rfl, rfl, by decide +kernel⟩
theorem sc_read_part : FnScope ["text", "number"] ["text", "number"] (defScope s_read_part) := ⟨rfl, rfl, rfl, by decide +kernel, rfl, by decide +kernel, by decide +kernel⟩
theorem sc__law_cell : FnScope ["_law_script", "_law_k"] ["_law_script", "_law_k"] (defScope s__law_cell) := ⟨rfl, rfl, rfl, by decide +kernel, rfl, by decide +kernel, by decide +kernel⟩
theorem sc__law_whole : FnScope ["_law_found"] ["_law_found"] (defScope s__law_whole) := ⟨rfl, rfl, rfl, by decide +kernel, rfl, by decide +kernel, by decide +kernel⟩
theorem sc__law_mixed : FnScope ["_law_cell_here", "_law_k", "_law_number_here"] ["_law_cell_here", "_law_k"] (defScope s__law_mixed) := ⟨rfl, rfl, rfl, by decide +kernel, rfl, by decide +kernel, by decide +kernel⟩
theorem sc__law_number : FnScope ["_law_cell_here", "_law_k", "_law_number_here", "_law_j"] ["_law_cell_here", "_law_k"] (defScope s__law_number) := ⟨rfl, rfl, rfl, by decide +kernel, rfl, by decide +kernel, by decide +kernel⟩
theorem sc__law_either : FnScope ["_law_cell_here", "_law_k"] ["_law_cell_here", "_law_k"] (defScope s__law_either) := ⟨rfl, rfl, rfl, by decide +kernel, rfl, by decide +kernel, by decide +kernel⟩
theorem sc__law_step : FnScope ["_law_cell_here", "_law_word", "_law_where", "_law_one", "_law_other"] ["_law_cell_here"] (defScope s__law_step) := ⟨rfl, rfl, rfl, by decide +kernel, rfl, by decide +kernel, by decide +kernel⟩
theorem sc__law_text : FnScope ["_law_step_here"] ["_law_step_here"] (defScope s__law_text) := ⟨rfl, rfl, rfl, by decide +kernel, rfl, by decide +kernel, by decide +kernel⟩
def cm__law_text_0 : Scope := match defBody s__law_text with
  | .Return (some (.Call _ [(.BinOp _ _ (.ListComp _ _ sc _) _)] _ _)) _ :: _ => sc
  | _ => default
theorem sb__law_text_0 : BlkScope ["_law_step_here"] (defScope s__law_text) cm__law_text_0 "_law_number_here" ["_law_number_here"] [] := ⟨by decide +kernel, rfl, by decide +kernel, rfl, by decide +kernel, by decide +kernel, rfl, rfl, fun j h => absurd h (Nat.not_lt_zero j)⟩
theorem sc__law_odds : FnScope ["_law_some"] [] (defScope s__law_odds) := ⟨rfl, rfl, rfl, by decide +kernel, rfl, by decide +kernel, by decide +kernel⟩
theorem sc__law_spoiled : FnScope ["_law_text_here", "_law_cell_here", "_law_sign", "_law_at"] ["_law_text_here", "_law_cell_here"] (defScope s__law_spoiled) := ⟨rfl, rfl, rfl, by decide +kernel, rfl, by decide +kernel, by decide +kernel⟩
theorem sc__law_is_number : FnScope ["_law_word", "_law_below", "_law_figures", "_law_sign"] ["_law_word", "_law_below"] (defScope s__law_is_number) := ⟨rfl, rfl, rfl, by decide +kernel, rfl, by decide +kernel, by decide +kernel⟩
theorem sc__law_is_step : FnScope ["_law_text_here", "_law_words", "_law_many", "_law_k"] ["_law_text_here"] (defScope s__law_is_step) := ⟨rfl, rfl, rfl, by decide +kernel, rfl, by decide +kernel, by decide +kernel⟩
theorem sc__law_due : FnScope ["_law_text_here", "_law_manner", "_law_blank", "_law_rest", "_law_parts", "_law_k"] ["_law_text_here"] (defScope s__law_due) := ⟨rfl, rfl, rfl, by decide +kernel, rfl, by decide +kernel, by decide +kernel⟩
theorem sc__law_told : FnScope ["_law_e", "_law_due_here"] ["_law_e", "_law_due_here"] (defScope s__law_told) := ⟨rfl, rfl, rfl, by decide +kernel, rfl, by decide +kernel, by decide +kernel⟩
theorem sc__law_pact_right : FnScope ["_law_text_here", "_law_due_here", "_law_found", "_law_e"] ["_law_text_here"] (defScope s__law_pact_right) := ⟨rfl, rfl, rfl, by decide +kernel, rfl, by decide +kernel, by decide +kernel⟩
theorem sc__law_step_right : FnScope ["_law_text_here", "_law_found", "_law_e"] ["_law_text_here"] (defScope s__law_step_right) := ⟨rfl, rfl, rfl, by decide +kernel, rfl, by decide +kernel, by decide +kernel⟩
theorem sc_law : FnScope ["_law_script", "_law_parts", "_law_k", "_law_at", "_law_manner", "_law_part"] ["_law_script"] (defScope s_law) := ⟨rfl, rfl, rfl, by decide +kernel, rfl, by decide +kernel, by decide +kernel⟩
def cm_law_0 : Scope := match defBody s_law with
  | .Assign _ (.ListComp _ _ sc _) _ :: _ => sc
  | _ => default
theorem sb_law_0 : BlkScope ["_law_script", "_law_parts", "_law_k", "_law_at", "_law_manner", "_law_part"] (defScope s_law) cm_law_0 "_law_cell_here" ["_law_cell_here"] [] := ⟨by decide +kernel, rfl, by decide +kernel, rfl, by decide +kernel, by decide +kernel, rfl, rfl, fun j h => absurd h (Nat.not_lt_zero j)⟩
end K25
namespace Km
open PySem PySem.NumText
def NumDs (ds : List Nat) : Prop := AllDigits ds ∧ ds ≠ [] ∧ ds.length ≤ 400 ∧ (ds = [48] ∨ ∀ c r, ds = c :: r → c ≠ 48)
def pFig (ds : List Nat) : Bool := !ds.isEmpty && decide (ds.length ≤ 400) && (decide (ds = [48]) || decide (ds.head? ≠ some 48))
def pNum (r : List Nat) : Option (Nat × List Nat) := if pFig (r.takeWhile isDig) then some (digitsVal (r.takeWhile isDig), r.dropWhile isDig) else none
def pNeg (r : List Nat) : Option (Th × List Nat) := match pNum r with
  | none => none
  | some (m, r') => if m = 0 then none else some (.num (-(m : Int)), r')
def pTail (m : Nat) (r : List Nat) : Option (Th × List Nat) := if r.head? = some 58 then (if m ≤ 2000 ∧ m ≤ r.tail.length then some (.txt (r.tail.take m), r.tail.drop m) else none) else some (.num (m : Int), r)
def pPlain (r : List Nat) : Option (Th × List Nat) := match pNum r with
  | none => none
  | some (m, r') => pTail m r'
def pRest (f : List Nat → Option (Th × List Nat)) : Nat → List Th → List Nat → Option (Th × List Nat)
  | 0, _, _ => none
  | k + 1, acc, r => if r.head? = some 32 then (match f r.tail with
      | none => none
      | some (t, r') => pRest f k (acc ++ [t]) r')
    else if r.head? = some 41 then (if acc.length ≤ 2000 then some (.tup acc, r.tail) else none) else none
def pParts (f : List Nat → Option (Th × List Nat)) (r : List Nat) : Option (Th × List Nat) := if r.head? = some 41 then some (.tup [], r.tail) else match f r with
  | none => none
  | some (t, r') => pRest f (r'.length + 1) [t] r'
def pAny : Nat → List Nat → Option (Th × List Nat)
  | 0, r => if r.head? = some 40 then none else if r.head? = some 45 then pNeg r.tail else pPlain r
  | d + 1, r => if r.head? = some 40 then pParts (pAny d) r.tail else if r.head? = some 45 then pNeg r.tail else pPlain r
theorem pFig_iff {ds : List Nat} (h : AllDigits ds) : pFig ds = true ↔ NumDs ds := by
  unfold pFig NumDs
  cases ds with
  | nil => simp
  | cons c r =>
    simp only [List.isEmpty_cons, Bool.not_false, Bool.true_and, Bool.and_eq_true, Bool.or_eq_true, decide_eq_true_eq, List.head?_cons, ne_eq, Option.some.injEq]
    constructor
    · rintro ⟨h1, h2⟩
      refine ⟨h, by simp, h1, h2.imp id fun z c' r' e => ?_⟩
      rw [← (List.cons.inj e).1]; exact z
    · rintro ⟨_, _, h1, h2⟩
      exact ⟨h1, h2.imp id fun z => z c r rfl⟩
theorem dig_iff (c : Nat) : isDig c = true ↔ 48 ≤ c ∧ c ≤ 57 := by unfold isDig; simp
theorem tw_all : ∀ r : List Nat, AllDigits (r.takeWhile isDig)
  | [] => fun c hc => by simp at hc
  | x :: r => fun c hc => by
    rw [List.takeWhile_cons] at hc
    split at hc
    · rename_i hx
      rcases List.mem_cons.mp hc with rfl | hc
      · exact (dig_iff _).mp hx
      · exact tw_all r c hc
    · cases hc
theorem digs_of {ds : List Nat} (h : NumDs ds) : digs (digitsVal ds) = ds := by
  obtain ⟨a, b, _, z⟩ := h
  have key : ∀ (n : Nat) (ds : List Nat), ds.length = n → AllDigits ds → (∀ c r, ds = c :: r → c ≠ 48) → ds ≠ [] → digs (digitsVal ds) = ds := by
    intro n
    induction n using Nat.strongRecOn with
    | _ n ih =>
      intro ds hl ha hz hn
      obtain ⟨ini, c, rfl⟩ : ∃ ini c, ds = ini ++ [c] := ⟨ds.dropLast, ds.getLast hn, (List.dropLast_concat_getLast hn).symm⟩
      have hc : 48 ≤ c ∧ c ≤ 57 := ha c (by simp)
      have ev : digitsVal (ini ++ [c]) = digitsVal ini * 10 + (c - 48) := by unfold digitsVal; rw [List.foldl_append]; rfl
      have hd : (Nat.digitChar (c - 48)).toNat = c := by
        have : ∀ d : Nat, d < 10 → (Nat.digitChar d).toNat = d + 48 := by decide
        rw [this (c - 48) (by omega)]; omega
      cases ini with
      | nil =>
        rw [ev]
        show digs (0 * 10 + (c - 48)) = [c]
        rw [Nat.zero_mul, Nat.zero_add]
        unfold digs
        rw [Nat.toDigits_of_lt_base (by omega), List.map_cons, hd]
        rfl
      | cons x ini =>
        have ih' := ih (x :: ini).length (by rw [← hl]; simp) (x :: ini) rfl (fun y hy => ha y (List.mem_append_left _ hy)) (fun c' r' e => by
          have e1 := (List.cons.inj e).1
          rw [← e1]
          exact hz x (ini ++ [c]) rfl) (by simp)
        have pos : 0 < digitsVal (x :: ini) := by
          rcases Nat.eq_zero_or_pos (digitsVal (x :: ini)) with e | e
          · rw [e, digs_zero] at ih'
            have := (List.cons.inj ih').1
            exact absurd this.symm (hz x (ini ++ [c]) rfl)
          · exact e
        rw [ev, Nat.mul_comm]
        unfold digs
        rw [← Nat.toDigits_append_toDigits (by decide) pos (by omega), List.map_append]
        have e2 : (Nat.toDigits 10 (digitsVal (x :: ini))).map Char.toNat = x :: ini := ih'
        rw [e2, Nat.toDigits_of_lt_base (by omega), List.map_cons, hd]
        rfl
  rcases z with rfl | z
  · rfl
  · exact key _ ds rfl a z b
theorem numds_lt {ds : List Nat} (h : NumDs ds) : digitsVal ds < 10 ^ 400 := Nat.lt_of_lt_of_le (digitsVal_lt ds h.1) (Nat.pow_le_pow_right (by decide) h.2.2.1)
theorem pNum_some {r r' : List Nat} {m : Nat} (h : pNum r = some (m, r')) : NumDs (r.takeWhile isDig) ∧ r = digs m ++ r' ∧ m < 10 ^ 400 ∧ m = digitsVal (r.takeWhile isDig) ∧ r' = r.dropWhile isDig := by
  unfold pNum at h
  split at h
  · rename_i hf
    have nd := (pFig_iff (tw_all r)).mp hf
    have h' := Option.some.inj h
    obtain ⟨rfl, rfl⟩ := Prod.mk.inj h'
    exact ⟨nd, by rw [digs_of nd, List.takeWhile_append_dropWhile], numds_lt nd, rfl, rfl⟩
  · cases h
def Stops (post : List Nat) : Prop := ∀ c r, post = c :: r → isDig c = false
theorem tw_stop {ds post : List Nat} (ha : AllDigits ds) (hs : Stops post) : (ds ++ post).takeWhile isDig = ds ∧ (ds ++ post).dropWhile isDig = post := by
  have h1 : ∀ x ∈ ds, isDig x = true := fun x hx => (dig_iff x).mpr (ha x hx)
  rw [List.takeWhile_append_of_pos h1, List.dropWhile_append_of_pos h1]
  cases post with
  | nil => simp
  | cons c r => simp [hs c r rfl]
theorem pNum_digs {m : Nat} {post : List Nat} (hm : m < 10 ^ 400) (hs : Stops post) : pNum (digs m ++ post) = some (m, post) := by
  have nd : NumDs (digs m) := by
    refine ⟨digs_all m, digs_ne m, digs_len (by decide) hm, ?_⟩
    by_cases h0 : m = 0
    · subst h0; exact .inl digs_zero
    · exact .inr (digs_head m h0)
  obtain ⟨e1, e2⟩ := tw_stop (digs_all m) hs
  unfold pNum
  rw [e1, e2, if_pos ((pFig_iff (digs_all m)).mpr nd), digs_val]
theorem head_of {r : List Nat} {c : Nat} (h : r.head? = some c) : r = c :: r.tail := by
  cases r with
  | nil => cases h
  | cons x r => rw [show x = c by simpa using h]; rfl
theorem neg_some {r r' : List Nat} {t : Th} {d : Nat} (h : pNeg r = some (t, r')) : 45 :: r = t.cs ++ r' ∧ t.Ok ∧ t.dp ≤ d := by
  unfold pNeg at h
  cases e : pNum r with
  | none => rw [e] at h; cases h
  | some p =>
    obtain ⟨m, r1⟩ := p
    rw [e] at h
    dsimp only at h
    by_cases hm : m = 0
    · rw [if_pos hm] at h; cases h
    · rw [if_neg hm] at h
      obtain ⟨rfl, rfl⟩ := Prod.mk.inj (Option.some.inj h)
      obtain ⟨_, e1, lt, _⟩ := pNum_some e
      refine ⟨?_, by simp only [Th.Ok]; omega, by simp only [Th.dp]; omega⟩
      rw [cs_num]
      unfold numCs
      rw [if_pos (by omega)]
      have : (-(m : Int)).natAbs = m := by omega
      rw [this, List.cons_append, ← e1]
theorem plain_some {r r' : List Nat} {t : Th} {d : Nat} (h : pPlain r = some (t, r')) : r = t.cs ++ r' ∧ t.Ok ∧ t.dp ≤ d := by
  unfold pPlain at h
  cases e : pNum r with
  | none => rw [e] at h; cases h
  | some p =>
    obtain ⟨m, r1⟩ := p
    rw [e] at h
    dsimp only at h
    obtain ⟨_, e1, lt, _⟩ := pNum_some e
    unfold pTail at h
    by_cases hc : r1.head? = some 58
    · rw [if_pos hc] at h
      by_cases hm : m ≤ 2000 ∧ m ≤ r1.tail.length
      · rw [if_pos hm] at h
        obtain ⟨rfl, rfl⟩ := Prod.mk.inj (Option.some.inj h)
        have hl : (r1.tail.take m).length = m := by rw [List.length_take]; omega
        refine ⟨?_, by simp only [Th.Ok]; omega, by simp only [Th.dp]; omega⟩
        rw [cs_txt, hl, e1, List.append_assoc, List.cons_append, List.take_append_drop, ← head_of hc]
      · rw [if_neg hm] at h; cases h
    · rw [if_neg hc] at h
      obtain ⟨rfl, rfl⟩ := Prod.mk.inj (Option.some.inj h)
      refine ⟨?_, by simp only [Th.Ok]; omega, by simp only [Th.dp]; omega⟩
      rw [cs_num]
      unfold numCs
      rw [if_neg (by omega)]
      exact e1
def EndsT (post : List Nat) : Prop := ∀ c r, post = c :: r → c = 32 ∨ c = 41
theorem EndsT.stops {post : List Nat} (h : EndsT post) : Stops post := fun c r e => by
  rcases h c r e with rfl | rfl <;> decide
theorem EndsT.no58 {post : List Nat} (h : EndsT post) : post.head? ≠ some 58 := by
  cases post with
  | nil => simp
  | cons c r =>
    intro e
    have := h c r rfl
    have : c = 58 := by simpa using e
    omega
theorem plain_num {m : Nat} {post : List Nat} (hm : m < 10 ^ 400) (he : EndsT post) : pPlain (digs m ++ post) = some (.num (m : Int), post) := by
  unfold pPlain
  rw [pNum_digs hm he.stops]
  dsimp only
  unfold pTail
  rw [if_neg he.no58]
theorem num_at {i : Int} {post : List Nat} {d : Nat} (hi : i.natAbs < 10 ^ 400) (he : EndsT post) : pAny d (numCs i ++ post) = some (.num i, post) := by
  have key : ∀ g : List Nat → Option (Th × List Nat), (fun r => if r.head? = some 40 then g r.tail else if r.head? = some 45 then pNeg r.tail else pPlain r) (numCs i ++ post) = some (.num i, post) := fun g => by
    dsimp only
    by_cases h : i < 0
    · have e : numCs i = 45 :: digs i.natAbs := by unfold numCs; rw [if_pos h]
      rw [e, List.cons_append, List.head?_cons, if_neg (by decide), if_pos rfl, List.tail_cons]
      unfold pNeg
      rw [pNum_digs hi he.stops]
      dsimp only
      rw [if_neg (by omega)]
      have : -((i.natAbs : Nat) : Int) = i := by omega
      rw [this]
    · have e : numCs i = digs i.natAbs := by unfold numCs; rw [if_neg h]
      have hd := digs_all i.natAbs
      rw [e]
      have hh : (digs i.natAbs ++ post).head? ≠ some 40 ∧ (digs i.natAbs ++ post).head? ≠ some 45 := by
        cases q : digs i.natAbs with
        | nil => exact absurd q (digs_ne _)
        | cons c r =>
          rw [q] at hd
          have := hd.head
          simp only [List.cons_append, List.head?_cons, ne_eq, Option.some.injEq]
          omega
      rw [if_neg hh.1, if_neg hh.2, plain_num hi he]
      have : ((i.natAbs : Nat) : Int) = i := by omega
      rw [this]
  cases d with
  | zero => exact key fun _ => none
  | succ d => exact key (pParts (pAny d))
def rdTh (cs : List Nat) : Option Th := if cs.length ≤ 100000 ∧ cs.all okSign = true then (match pAny 8 cs with
  | some (t, []) => some t
  | _ => none) else none
end Km
set_option maxHeartbeats 4000000
namespace K25T
open PySem L2 Km PySem.NumText
abbrev sRead : Stmt := K25.s_read_thing
abbrev sSign : Stmt := K25.s_is_sign
abbrev sInit : Stmt := K25.m_Reader_init
abbrev sPass : Stmt := K25.m_Reader_passes
abbrev sAny : Stmt := K25.m_Reader_read_any
abbrev sBelow : Stmt := K25.m_Reader_read_below
abbrev sNum : Stmt := K25.m_Reader_read_number
abbrev sSigns : Stmt := K25.m_Reader_read_signs
theorem tp : ¬ (("text" : Str) = "place") := by decide +kernel
def rf (z : Str) (k : Int) : List (Str × V) := putF "place" (.int k) (putF "text" (.str z) [])
theorem rf_eq (z : Str) (k : Int) : rf z k = ([("text", V.str z), ("place", V.int k)] : List (Str × V)) := by
  show (if ("text" : Str) = "place" then [(("text" : Str), V.int k)] else (("text" : Str), V.str z) :: putF "place" (V.int k) []) = ([("text", V.str z), ("place", V.int k)] : List (Str × V))
  rw [if_neg tp]
  all_goals rfl
theorem rf_text (z : Str) (k : Int) : (rf z k).lookup ("text" : Str) = some (.str z) := by
  unfold rf
  rw [lookup_putF, if_neg tp, lookup_putF, if_pos rfl]
theorem rf_place (z : Str) (k : Int) : (rf z k).lookup ("place" : Str) = some (.int k) := by
  unfold rf
  rw [lookup_putF, if_pos rfl]
theorem rf_no (z : Str) (k : Int) {m : Str} (h1 : ¬ m = "place") (h2 : ¬ m = "text") : (rf z k).lookup m = none := by
  unfold rf
  rw [lookup_putF, if_neg h1, lookup_putF, if_neg h2]
  all_goals rfl
theorem rf_put (z : Str) (k j : Int) : putF "place" (.int j) (rf z k) = rf z j := by
  rw [rf_eq, rf_eq]
  show (if ("text" : Str) = "place" then _ else (("text" : Str), V.str z) :: (if ("place" : Str) = "place" then [(("place" : Str), V.int j)] else _)) = ([("text", V.str z), ("place", V.int j)] : List (Str × V))
  rw [if_neg tp, if_pos rfl]
theorem rf_len (z : Str) (k : Int) : (rf z k).length = 2 := by rw [rf_eq]; rfl
structure Tx (K : PySem.W.Frag) (mg : Str → Option Value) (C : Addr) : Prop where
  cl : Cls K C
  nT : NoAttr K C "text"
  nP : NoAttr K C "place"
  mgC : mg "Reader" = some (.ref C)
  isi : mg "isinstance" = none
  int : mg "int" = none
  bool : mg "bool" = none
  str : mg "str" = none
  len : mg "len" = none
  ord : mg "ord" = none
  all : mg "all" = none
  range : mg "range" = none
  cFig : ∃ t, mg "MOST_FIGURES_things" = some (.int 400 t)
  cSig : ∃ t, mg "MOST_SIGNS" = some (.int 2000 t)
  cDeep : ∃ t, mg "MOST_DEEP" = some (.int 8 t)
  cLong : ∃ t, mg "LONGEST" = some (.int 100000 t)
  cBl : ∃ t, mg "BLANK" = some (.int 32 t)
  cPc : ∃ t, mg "PERCENT" = some (.int 37 t)
  cTi : ∃ t, mg "TILDE" = some (.int 126 t)
abbrev bmV : List Value := [.type "ValueError", .type "Exception", .type "BaseException", .type "object"]
structure Ty (K : PySem.W.Frag) (mg : Str → Option Value) (CN : Addr) : Prop where
  mgN : mg "NoThing" = some (.ref CN)
  xN : PySem.W.excIn K CN bmV "ValueError.__new__" = true
theorem gint {X : Cx} {x : Str} {i : Int} {pos : Pos} (hm : ∃ t, X.mg x = some (.int i t)) (hg : Gl X x) (hd : (x == ("__debug__" : Str)) = false := by decide) : PE X (.Name x pos) (tC (.int i)) := by
  obtain ⟨t, e⟩ := hm
  exact pe_glob hg e ⟨t, rfl⟩ hd
section
variable {K : PySem.W.Frag}
theorem kit_ii : PySem.W.kitOne K (.type "int") (.type "int") = some true := rfl
theorem kit_ib : PySem.W.kitOne K (.type "int") (.type "bool") = some false := by kernel_rfl
theorem kit_si : PySem.W.kitOne K (.type "str") (.type "int") = some false := by kernel_rfl
end
section
variable {P : Program} {w : World} {K : PySem.W.Frag} {mg : Str → Option Value} {base : Heap} {f C : Addr} {fd : FuncData}
theorem line_big : 1000000 ≤ sizeLine := by decide
def spSign : Sp := fun vs H Q _ => ∃ c : Nat, vs = [.str ⟨#[c]⟩] ∧ Q (.bl (okSign c)) H
theorem scSign : FnScope ["sign", "number"] ["sign"] (defScope sSign) := ⟨rfl, rfl, rfl, by decide +kernel, rfl, by decide +kernel, by decide +kernel⟩
theorem ok_sign (F : Fun K "is_sign" "is_sign" sSign f fd) (T : Tx K mg C) : FnOk P w K mg base CX0 1 f fd ["sign"] spSign := by
  refine F.ok scSign (fun vs H Q E h => ?_) (fun cdv A outer s H vs Q E hr h => ?_)
  · obtain ⟨c, rfl, _⟩ := h
    rfl
  obtain ⟨c, rfl, q⟩ := h
  refine ⟨_, pss_cons (ps_set (i := 1) scSign.nd rfl (Or.inl rfl) (pe_callB call_ord rfl T.ord PyProof.Rows.boot_ord (pa_cons (pv 0) pa_nil)))
    (pss_one (ps_ret (pe_and (pe_chain op_le op_le (gint T.cBl rfl) (pv 1) (gint T.cTi rfl)) (pe_one (pe_cmpR op_ne (pv 1) (gint T.cPc rfl) (nomark _)))))), ?_⟩
  refine ⟨_, rfl, _, rfl, rfl, ?_⟩
  refine ⟨_, rfl, _, _, rfl, rfl, _, rfl, ?_⟩
  have e0 : ((({ cps := #[c] } : Str).cps.getD 0 0 : Nat) : Int) = (c : Int) := rfl
  unfold okSign at q
  by_cases h1 : 32 ≤ c
  · have d1 : decide ((32 : Int) ≤ (({ cps := #[c] } : Str).cps.getD 0 0 : Nat)) = true := decide_eq_true (by rw [e0]; omega)
    rw [d1]
    refine iteT ⟨_, _, rfl, rfl, _, rfl, ?_⟩
    by_cases h2 : c ≤ 126
    · have d2 : decide (((({ cps := #[c] } : Str).cps.getD 0 0 : Nat) : Int) ≤ 126) = true := decide_eq_true (by rw [e0]; omega)
      rw [d2]
      refine iteT ⟨_, rfl, rfl, ?_⟩
      have e3 : (!decide (V.int (({ cps := #[c] } : Str).cps.getD 0 0 : Nat) = V.int 37)) = (decide (32 ≤ c) && decide (c ≤ 126) && decide (c ≠ 37)) := by
        rw [decide_eq_true h1, decide_eq_true h2, dec_int, e0]
        by_cases h3 : c = 37
        · subst h3; rfl
        · have : ((c : Int) == 37) = false := beq_eq_false_iff_ne.mpr (by omega)
          rw [this, decide_eq_true h3]; rfl
      rw [e3]
      exact q
    · have d2 : decide (((({ cps := #[c] } : Str).cps.getD 0 0 : Nat) : Int) ≤ 126) = false := decide_eq_false (by rw [e0]; omega)
      rw [d2]
      refine iteF ?_
      rw [decide_eq_false h2, Bool.and_false, Bool.false_and] at q
      exact q
  · have d1 : decide ((32 : Int) ≤ (({ cps := #[c] } : Str).cps.getD 0 0 : Nat)) = false := decide_eq_false (by rw [e0]; omega)
    rw [d1]
    refine iteF ⟨_, rfl, iteF ?_⟩
    rw [decide_eq_false h1, Bool.false_and, Bool.false_and] at q
    exact q
def spInit (C : Addr) : Sp := fun vs H Q _ => ∃ p dx z, vs = [.ref p, .str z] ∧ H p = some (.ins C dx []) ∧ Q .non (upd (upd H p (.ins C dx (putF "text" (.str z) []))) p (.ins C dx (rf z 0)))
theorem scInit : FnScope ["self", "text"] ["self", "text"] (defScope sInit) := ⟨rfl, rfl, rfl, by decide +kernel, rfl, by decide +kernel, by decide +kernel⟩
theorem ok_init (F : Fun K "__init__" "Reader.__init__" sInit f fd) (T : Tx K mg C) : FnOk P w K mg base CX0 1 f fd ["self", "text"] (spInit C) := by
  refine F.ok scInit (fun vs H Q E h => ?_) (fun cdv A outer s H vs Q E hr h => ?_)
  · obtain ⟨p, dx, z, rfl, _⟩ := h
    rfl
  obtain ⟨p, dx, z, rfl, hp, q⟩ := h
  refine ⟨_, pss_cons (ps_fld (pv 0) (pv 1) rfl) (pss_one (ps_fld (pv 0) pe_int rfl)), ?_⟩
  exact ⟨_, rfl, _, rfl, p, C, dx, [], rfl, hp, T.cl, T.nT, (by show 0 < 1000; decide), _, rfl, p, C, dx, _, rfl, upd_same, T.cl, T.nP, (by show 1 < 1000; decide), q⟩
theorem starts_one (z : Str) (c k : Nat) : Txt.startswith3 z ⟨#[c]⟩ (k : Int) = decide (z.cps.toList[k]? = some c) := by
  have e1 : fromIndex z.length (k : Int) = k := by
    unfold fromIndex
    rw [if_neg (by omega)]
    omega
  unfold Txt.startswith3
  rw [e1]
  have e2 : (({ cps := #[c] } : Str)).length = 1 := rfl
  rw [e2]
  by_cases h : k < z.length
  · have h' : k < z.cps.size := h
    have e3 : Builtin.Str.subAt z ⟨#[c]⟩ k = (z.cps[k] == c) := by
      unfold Builtin.Str.subAt
      rw [e2]
      have e4 : z.cps.extract k (k + 1) = #[z.cps[k]] := by
        apply Array.ext
        · simp; omega
        · intro i h1 h2
          have : i = 0 := by simp at h2; omega
          subst this
          simp
      rw [e4]
      simp
    rw [e3]
    have e5 : decide (k + 1 ≤ z.length) = true := decide_eq_true h
    rw [e5, Bool.true_and]
    have e6 : z.cps.toList[k]? = some z.cps[k] := by rw [Array.getElem?_toList]; exact Array.getElem?_eq_getElem h'
    rw [e6]
    simp [Bool.beq_eq_decide_eq]
  · have e5 : decide (k + 1 ≤ z.length) = false := decide_eq_false (by omega)
    rw [e5, Bool.false_and]
    have e6 : z.cps.toList[k]? = none := by rw [Array.getElem?_toList]; exact Array.getElem?_eq_none (by show z.length ≤ k; omega)
    rw [e6]
    simp
def spPass (C : Addr) : Sp := fun vs H Q _ => ∃ p dx z c, ∃ k : Nat, vs = [.ref p, .str ⟨#[c]⟩] ∧ H p = some (.ins C dx (rf z k)) ∧ 
  (if z.cps.toList[k]? = some c then Q (.bl true) (upd H p (.ins C dx (rf z ((k + 1 : Nat) : Int)))) else Q (.bl false) H)
theorem scPass : FnScope ["self", "sign"] ["self", "sign"] (defScope sPass) := ⟨rfl, rfl, rfl, by decide +kernel, rfl, by decide +kernel, by decide +kernel⟩
theorem ok_pass (F : Fun K "passes" "Reader.passes" sPass f fd) (T : Tx K mg C) : FnOk P w K mg base CX0 1 f fd ["self", "sign"] (spPass C) := by
  refine F.ok scPass (fun vs H Q E h => ?_) (fun cdv A outer s H vs Q E hr h => ?_)
  · obtain ⟨p, dx, z, c, k, rfl, _⟩ := h
    rfl
  obtain ⟨p, dx, z, c, k, rfl, hp, q⟩ := h
  refine ⟨_, pss_cons (ps_if (pt_not (pt_val (pe_bm PySem.F.plainAttrs_str PySem.F.slot_str_startswith PySem.F.type_str_startswith mt_startswith3 (pe_fld (pv 0) rfl) (pa_cons (pv 1) (pa_cons (pe_fld (pv 0) rfl) pa_nil))))) (pss_one (ps_ret pe_bl)) pss_nil)
    (pss_cons (ps_fldaug (pv 0) pe_int in_add) (pss_one (ps_ret pe_bl))), ?_⟩
  refine ⟨_, rfl, p, C, dx, _, _, rfl, hp, T.cl, T.nT, rf_text _ _, rfl, _, rfl, _, rfl, p, C, dx, _, _, rfl, hp, T.cl, T.nP, rf_place _ _, _, _, _, rfl, rfl, _, rfl, ?_⟩
  rw [starts_one]
  by_cases hk : z.cps.toList[k]? = some c
  · rw [if_pos hk] at q
    rw [decide_eq_true hk]
    refine iteF ?_
    refine ⟨_, rfl, p, C, dx, _, _, rfl, hp, T.cl, T.nP, rf_place _ _, _, _, rfl, rfl, dx, _, hp, (by rw [rf_len]; decide), ?_⟩
    rw [rf_put]
    have e : ((k : Int) + 1) = ((k + 1 : Nat) : Int) := by omega
    rw [e]
    exact q
  · rw [if_neg hk] at q
    rw [decide_eq_false hk]
    exact iteT q
end
theorem str_ext {x y : Str} (h : x.cps.toList = y.cps.toList) : x = y := by
  obtain ⟨a⟩ := x
  obtain ⟨b⟩ := y
  have : a = b := Array.toList_inj.mp h
  rw [this]
theorem len_cps (z : Str) : z.length = z.cps.toList.length := by simp [Str.length]
theorem slice_mid {z : Str} {pre ds post : List Nat} {i j : Int} (e : z.cps.toList = pre ++ ds ++ post) (hi : i = ((pre.length : Nat) : Int)) (hj : j = ((pre.length + ds.length : Nat) : Int)) : Txt.slice z (some i) (some j) = ⟨ds.toArray⟩ := by
  subst hi hj
  have hl : z.cps.toList.length = pre.length + ds.length + post.length := by rw [e]; simp; omega
  have q := PyProof.Rows.slice_closes (x := z) (i := ((pre.length : Nat) : Int)) (j := ((pre.length + ds.length : Nat) : Int)) ⟨by omega, by omega, by omega⟩
  rw [eq_of_beq q]
  refine str_ext ?_
  have e1 : (((pre.length + ds.length : Nat) : Int) - ((pre.length : Nat) : Int)).toNat = ds.length := by omega
  have e2 : (((pre.length : Nat) : Int)).toNat = pre.length := by omega
  rw [e1, e2, e, List.append_assoc, List.drop_left, List.take_left]
theorem uni_dig : ∀ c : Nat, c < 128 → Unicode.isDigit c = isDig c := by decide +kernel
theorem isdigit_one {c : Nat} (h : c < 128) : Txt.isdigit ⟨#[c]⟩ = isDig c := by
  rw [← uni_dig c h]
  unfold Txt.isdigit
  simp [Str.length]
def But (p : Addr) (H H' : Hp) : Prop := ∀ b o, H b = some o → b ≠ p → H' b = some o
theorem But.refl (p : Addr) (H : Hp) : But p H H := fun _ _ e _ => e
theorem But.upd {p : Addr} {H H' : Hp} (h : But p H H') (o : HO) : But p H (L2.upd H' p o) := fun b u e n => by rw [upd_ne n]; exact h b u e n
theorem But.trans {p : Addr} {H H1 H2 : Hp} (a : But p H H1) (b : But p H1 H2) : But p H H2 := fun c o e n => b c o (a c o e n) n
theorem starts0 (x y : Str) : Txt.startswith x y = Txt.startswith3 x y ((0 : Nat) : Int) := by
  unfold Txt.startswith Txt.startswith3
  have e : fromIndex x.length ((0 : Nat) : Int) = 0 := by unfold fromIndex; simp
  rw [e]
theorem e_empty : (Str.ofString "") = ⟨#[]⟩ := by decide +kernel
theorem e_zero : (Str.ofString "0") = ⟨#[48]⟩ := by decide +kernel
theorem e_open : (Str.ofString "(") = ⟨#[40]⟩ := by decide +kernel
theorem e_minus : (Str.ofString "-") = ⟨#[45]⟩ := by decide +kernel
theorem e_colon : (Str.ofString ":") = ⟨#[58]⟩ := by decide +kernel
theorem at_pre {z : Str} {pre rest : List Nat} (e : z.cps.toList = pre ++ rest) : z.cps.toList[pre.length]? = rest.head? := by
  rw [e, List.getElem?_append_right (Nat.le_refl _), Nat.sub_self, List.head?_eq_getElem?]
theorem pNum_yes {r : List Nat} (h : NumDs (r.takeWhile isDig)) : pNum r = some (digitsVal (r.takeWhile isDig), r.dropWhile isDig) := by
  unfold pNum
  rw [if_pos ((pFig_iff (tw_all r)).mpr h)]
theorem pNum_no {r : List Nat} (h : ¬ NumDs (r.takeWhile isDig)) : pNum r = none := by
  unfold pNum
  rw [if_neg (fun z => h ((pFig_iff (tw_all r)).mp z))]
theorem neg_none {r : List Nat} (e : pNum r = none) : pNeg r = none := by unfold pNeg; rw [e]
theorem neg_eq {r r' : List Nat} {m : Nat} (e : pNum r = some (m, r')) : pNeg r = if m = 0 then none else some (.num (-(m : Int)), r') := by unfold pNeg; rw [e]
theorem plain_none {r : List Nat} (e : pNum r = none) : pPlain r = none := by unfold pPlain; rw [e]
theorem plain_eq {r r' : List Nat} {m : Nat} (e : pNum r = some (m, r')) : pPlain r = pTail m r' := by unfold pPlain; rw [e]
theorem dw_stop : ∀ (r : List Nat) (c : Nat) (q : List Nat), r.dropWhile isDig = c :: q → isDig c = false
  | [], c, q, e => by cases e
  | x :: r, c, q, e => by
    rw [List.dropWhile_cons] at e
    split at e
    · exact dw_stop r c q e
    · rename_i h
      rw [← (List.cons.inj e).1]
      simpa using h
section
variable {P : Program} {w : World} {K : PySem.W.Frag} {mg : Str → Option Value} {base : Heap} {f C CN : Addr} {fd : FuncData}
def spNum (C CN : Addr) : Sp := fun vs H Q E => ∃ p dx z pre r, vs = [.ref p] ∧ z.cps.toList = pre ++ r ∧ H p = some (.ins C dx (rf z ((pre : List Nat).length : Nat))) ∧ z.length ≤ 100000 ∧ (∀ c ∈ r, c < 128) ∧
  (∀ m r', pNum r = some (m, r') → ∀ pre' H', z.cps.toList = pre' ++ r' → H' p = some (.ins C dx (rf z ((pre' : List Nat).length : Nat))) → But p H H' → Q (.int (m : Nat)) H') ∧
  (pNum r = none → ∀ ea H', But p H H' → E (.ref ea) (some CN) H')
theorem scNum : FnScope ["self", "start", "figures"] ["self"] (defScope sNum) := ⟨rfl, rfl, rfl, by decide +kernel, rfl, by decide +kernel, by decide +kernel⟩
def tNumTest (K : PySem.W.Frag) : TT := tAnd (tTest (tOp (rI0 fun i j => .bl (decide (i < j))) (tFld K (tVar 0) "place") (tCB (fun xs H Q => ∃ z, xs = [.str z] ∧ z.length ≤ sizeLine ∧ Q (.int z.length) H) (tCons (tFld K (tVar 0) "text") tNil))))
  (tB (tBM0 K "str" (fun x vs H Q => ∃ z, x = .str z ∧ vs = [] ∧ Q (.bl (Txt.isdigit z)) H) (tOp rIxS (tFld K (tVar 0) "text") (tFld K (tVar 0) "place"))))
theorem num_test {p dx : Addr} {z : Str} {pre ds post : List Nat} {j : Nat} {σ : St} {H1 : Hp} {R : Bool → Hp → Prop} (T : Tx K mg C) (ez : z.cps.toList = pre ++ ds ++ post) (hz : z.length ≤ 100000) (d1 : AllDigits ds) (hpo : ∀ c r, post = c :: r → c < 128 ∧ isDig c = false) (hj : j ≤ ds.length)
    (e0 : σ[0]? = some (some (.ref p))) (hp1 : H1 p = some (.ins C dx (rf z ((pre.length + j : Nat) : Int)))) (h : R (decide (j < ds.length)) H1) : tNumTest K σ H1 R := by
  have hu := line_big
  have lz : z.length = pre.length + ds.length + post.length := by rw [len_cps, ez]; simp; omega
  refine ⟨_, e0, p, C, dx, _, _, rfl, hp1, T.cl, T.nP, rf_place _ _, _, e0, p, C, dx, _, _, rfl, hp1, T.cl, T.nT, rf_text _ _, _, rfl, by omega, _, _, rfl, rfl, _, rfl, ?_⟩
  by_cases hlt : (pre.length + j : Nat) < z.length
  · rw [decide_eq_true (show (((pre.length + j : Nat)) : Int) < ((z.length : Nat) : Int) by omega)]
    have hlt' : pre.length + j < z.cps.toList.length := by rw [← len_cps]; exact hlt
    obtain ⟨c, hc⟩ : ∃ c, z.cps.toList[pre.length + j]? = some c := ⟨_, List.getElem?_eq_getElem hlt'⟩
    refine iteT ⟨_, e0, p, C, dx, _, _, rfl, hp1, T.cl, T.nT, rf_text _ _, _, e0, p, C, dx, _, _, rfl, hp1, T.cl, T.nP, rf_place _ _, z, _, c, rfl, rfl, by omega, atI_nat hc, rfl, _, rfl, rfl, _, rfl, ?_⟩
    by_cases hjd : j < ds.length
    · have ec : ds[j]? = some c := by
        rw [ez, List.append_assoc, List.getElem?_append_right (by omega), List.getElem?_append_left (by omega)] at hc
        rw [← hc]; congr 1; omega
      have dc : 48 ≤ c ∧ c ≤ 57 := d1 c (List.mem_of_getElem? ec)
      have e1 : Txt.isdigit ⟨#[c]⟩ = true := by rw [isdigit_one (by omega)]; exact (dig_iff c).mpr dc
      rw [decide_eq_true hjd] at h
      rw [e1]
      exact h
    · have hjd' : j = ds.length := by omega
      have ec : post[0]? = some c := by
        rw [ez, List.getElem?_append_right (by rw [List.length_append]; omega)] at hc
        rw [← hc]; congr 1; rw [List.length_append]; omega
      have hp2 : c < 128 ∧ isDig c = false := by
        cases post with
        | nil => cases ec
        | cons a r => exact hpo c r (by rw [show a = c by simpa using ec])
      have e1 : Txt.isdigit ⟨#[c]⟩ = false := by rw [isdigit_one hp2.1]; exact hp2.2
      rw [decide_eq_false hjd] at h
      rw [e1]
      exact h
  · rw [decide_eq_false (show ¬ (((pre.length + j : Nat)) : Int) < ((z.length : Nat) : Int) by omega)]
    rw [decide_eq_false (show ¬ j < ds.length by omega)] at h
    exact iteF h
theorem ok_num (F : Fun K "read_number" "Reader.read_number" sNum f fd) (T : Tx K mg C) (Y : Ty K mg CN) : FnOk P w K mg base (CXE P w) 21 f fd ["self"] (spNum C CN) := by
  refine F.okE scNum (fun vs H Q E h => ?_) (fun cdv A outer s H vs Q E hr h => ?_)
  · obtain ⟨p, dx, z, pre, r, rfl, _⟩ := h
    rfl
  obtain ⟨p, dx, z, pre, r, rfl, ez0, hp, hz, hasc, q, qx⟩ := h
  have hu := line_big
  have d1 := tw_all r
  have ed : r.takeWhile isDig ++ r.dropWhile isDig = r := List.takeWhile_append_dropWhile
  have hpo : ∀ c q, r.dropWhile isDig = c :: q → c < 128 ∧ isDig c = false := fun c q e => ⟨hasc c (by rw [← ed]; exact List.mem_append_right _ (by rw [e]; exact List.mem_cons_self)), dw_stop r c q e⟩
  have yes := pNum_yes (r := r)
  have no := pNum_no (r := r)
  generalize r.takeWhile isDig = ds at d1 ed yes no
  generalize r.dropWhile isDig = post at ed hpo yes
  have ez : z.cps.toList = pre ++ ds ++ post := by rw [ez0, ← ed, List.append_assoc]
  have lz : z.length = pre.length + ds.length + post.length := by rw [len_cps, ez]; simp; omega
  refine ⟨_, pss_cons (ps_set (i := 1) scNum.nd rfl (Or.inl rfl) (pe_fld (pv 0) rfl))
    (pss_cons (ps_while (tc := tNumTest K) PassesOwn.leaving (PW.pt (pw_and (pt_cmpR op_lt (pe_fld (pv 0) rfl) (pe_callB call_len_str rfl T.len PySem.boot_len (pa_cons (pe_fld (pv 0) rfl) pa_nil)) (nomark _))
        (pw_and1 (pt_val (pe_bm0 PySem.F.plainAttrs_str PySem.F.slot_str_isdigit PySem.F.type_str_isdigit mt_isdigit (pe_ix ix_str (pe_fld (pv 0) rfl) (pe_fld (pv 0) rfl) (fun _ _ => rfl)))))))
      (pss_one (ps_fldaug (pv 0) pe_int in_add)))
    (pss_cons (ps_set (i := 2) scNum.nd rfl (Or.inl rfl) (pe_slice sl_str (pe_fld (pv 0) rfl) (po_some (pv 1)) (po_some (pe_fld (pv 0) rfl))))
    (pss_cons (ps_if (pt_cmpR op_eq (pv 2) pe_str (nomark _)) (pss_one (ps_raise def_cx (hr.hd (by decide)) rfl Y.mgN Y.xN PySem.F.excBase_ValueError (pa_cons pe_str pa_nil))) pss_nil)
    (pss_cons (ps_if (pt_cmpR op_gt (pe_callB call_len_str rfl T.len PySem.boot_len (pa_cons (pv 2) pa_nil)) (gint T.cFig rfl) (nomark _)) (pss_one (ps_raise def_cx (hr.hd (by decide)) rfl Y.mgN Y.xN PySem.F.excBase_ValueError (pa_cons pe_str pa_nil))) pss_nil)
    (pss_cons (ps_if (PW.pt (pw_and (pt_val (pe_bm PySem.F.plainAttrs_str PySem.F.slot_str_startswith PySem.F.type_str_startswith mt_startswith (pv 2) (pa_cons pe_str pa_nil))) (pw_and1 (pt_cmpR op_ne (pv 2) pe_str (nomark _))))) (pss_one (ps_raise def_cx (hr.hd (by decide)) rfl Y.mgN Y.xN PySem.F.excBase_ValueError (pa_cons pe_str pa_nil))) pss_nil)
    (pss_one (ps_ret (pe_callTy call_int_text rfl T.int PyProof.Rows.boot_int (pa_cons (pv 2) pa_nil))))))))), ?_⟩
  refine ⟨_, rfl, p, C, dx, _, _, rfl, hp, T.cl, T.nP, rf_place _ _, ?_⟩
  refine ⟨fun m σ H1 => ∃ j, m = ds.length - j ∧ j ≤ ds.length ∧ σ = [some (.ref p), some (.int (pre.length : Nat)), none] ∧ H1 p = some (.ins C dx (rf z ((pre.length + j : Nat) : Int))) ∧ But p H H1,
    ⟨ds.length, 0, rfl, Nat.zero_le _, rfl, hp, But.refl p H⟩, ?_⟩
  rintro m σ H1 ⟨j, rfl, hj, rfl, hp1, bt⟩
  refine num_test T ez hz d1 hpo hj rfl hp1 ?_
  by_cases hjd : j < ds.length
  · rw [decide_eq_true hjd]
    refine iteT ⟨_, fun σ' H' h => h, ?_⟩
    refine ⟨_, rfl, p, C, dx, _, _, rfl, hp1, T.cl, T.nP, rf_place _ _, _, _, rfl, rfl, dx, _, hp1, (by rw [rf_len]; decide), ?_⟩
    refine ⟨ds.length - (j + 1), by omega, j + 1, rfl, hjd, rfl, ?_, bt.upd _⟩
    rw [upd_same, rf_put]
    have e : (((pre.length + j : Nat)) : Int) + 1 = ((pre.length + (j + 1) : Nat) : Int) := by omega
    rw [e]
  · rw [decide_eq_false hjd]
    obtain rfl : j = ds.length := by omega
    refine iteF ?_
    refine ⟨_, rfl, p, C, dx, _, _, rfl, hp1, T.cl, T.nT, rf_text _ _, _, rfl, _, rfl, _, rfl, p, C, dx, _, _, rfl, hp1, T.cl, T.nP, rf_place _ _, _, rfl, z, rfl, by omega, ?_⟩
    rw [slice_mid ez rfl rfl]
    have dl : (({ cps := ds.toArray } : Str)).length = ds.length := by simp [Str.length]
    refine ⟨_, rfl, rfl, _, rfl, ?_⟩
    by_cases h0 : ds = []
    · have n1 : V.str ({ cps := ds.toArray } : Str) = V.str (Str.ofString "") := by rw [e_empty, h0]
      rw [decide_eq_true n1]
      exact iteT ⟨Nat.le_refl 1, fun ea => qx (no fun z => z.2.1 h0) ea H1 bt⟩
    have n1 : ¬ (V.str ({ cps := ds.toArray } : Str) = V.str (Str.ofString "")) := by
      intro e
      have e' : (({ cps := ds.toArray } : Str)) = Str.ofString "" := by injection e
      rw [e_empty] at e'
      have e2 := congrArg (fun s : Str => s.cps.toList) e'
      exact h0 (by simpa using e2)
    rw [decide_eq_false n1]
    refine iteF ?_
    refine ⟨_, rfl, _, rfl, by omega, _, _, rfl, rfl, _, rfl, ?_⟩
    by_cases h4 : 400 < ds.length
    · rw [decide_eq_true (show ((400 : Int) < ((({ cps := ds.toArray } : Str)).length : Nat)) by rw [dl]; omega)]
      exact iteT ⟨Nat.le_refl 1, fun ea => qx (no fun z => absurd z.2.2.1 (by omega)) ea H1 bt⟩
    rw [decide_eq_false (show ¬ ((400 : Int) < ((({ cps := ds.toArray } : Str)).length : Nat)) by rw [dl]; omega)]
    refine iteF ?_
    have it : PySem.intText? ({ cps := ds.toArray } : Str) = some ((digitsVal ds : Nat) : Int) := by
      have := intText_digits (x := ({ cps := ds.toArray } : Str)) (by simpa using d1) (by simpa using h0) (by rw [dl]; omega)
      simpa using this
    refine ⟨_, rfl, rfl, _, _, rfl, rfl, _, rfl, ?_⟩
    have hs : Txt.startswith ({ cps := ds.toArray } : Str) (Str.ofString "0") = decide (ds[0]? = some 48) := by
      rw [e_zero, starts0, starts_one]
    rw [hs]
    have good : (ds = [48] ∨ ∀ c r, ds = c :: r → c ≠ 48) → Q (.int ((digitsVal ds : Nat) : Int)) H1 := fun h4' => by
      refine q _ _ (yes ⟨d1, h0, by omega, h4'⟩) (pre ++ ds) H1 ez ?_ bt
      rw [hp1, List.length_append]
    by_cases h5 : ds[0]? = some 48
    · rw [decide_eq_true h5]
      refine iteT ⟨_, rfl, rfl, _, rfl, ?_⟩
      by_cases h6 : ds = [48]
      · subst h6
        have n3 : V.str ({ cps := ([48] : List Nat).toArray } : Str) = V.str (Str.ofString "0") := by rw [e_zero]
        rw [decide_eq_true n3]
        exact iteF ⟨_, rfl, _, _, rfl, it, by rw [dl]; omega, good (.inl rfl)⟩
      · have n3 : ¬ (V.str ({ cps := ds.toArray } : Str) = V.str (Str.ofString "0")) := by
          intro e
          have e' : (({ cps := ds.toArray } : Str)) = Str.ofString "0" := by injection e
          rw [e_zero] at e'
          have e2 := congrArg (fun s : Str => s.cps.toList) e'
          exact h6 (by simpa using e2)
        rw [decide_eq_false n3]
        refine iteT ⟨Nat.le_refl 1, fun ea => qx (no fun z => ?_) ea H1 bt⟩
        rcases z.2.2.2 with y | y
        · exact h6 y
        · cases ds with
          | nil => exact h0 rfl
          | cons c r' => exact y c r' rfl (by simpa using h5)
    · rw [decide_eq_false h5]
      refine iteF (iteF ⟨_, rfl, _, _, rfl, it, by rw [dl]; omega, good (.inr fun c r' e => ?_)⟩)
      intro z
      rw [e, z] at h5
      exact h5 rfl
def spSigns (C CN : Addr) : Sp := fun vs H Q E => ∃ p dx z pre r m, vs = [.ref p, .int ((m : Nat) : Int)] ∧ z.cps.toList = pre ++ r ∧ H p = some (.ins C dx (rf z ((pre : List Nat).length : Nat))) ∧ z.length ≤ 100000 ∧
  ((m ≤ 2000 ∧ m ≤ r.length) → ∀ pre' H', z.cps.toList = pre' ++ r.drop m → H' p = some (.ins C dx (rf z ((pre' : List Nat).length : Nat))) → But p H H' → Q (.str ⟨(r.take m).toArray⟩) H') ∧
  (¬ (m ≤ 2000 ∧ m ≤ r.length) → ∀ ea H', But p H H' → E (.ref ea) (some CN) H')
theorem scSigns : FnScope ["self", "many", "behind", "signs"] ["self", "many"] (defScope sSigns) := ⟨rfl, rfl, rfl, by decide +kernel, rfl, by decide +kernel, by decide +kernel⟩
theorem ok_signs (F : Fun K "read_signs" "Reader.read_signs" sSigns f fd) (T : Tx K mg C) (Y : Ty K mg CN) : FnOk P w K mg base (CXE P w) 21 f fd ["self", "many"] (spSigns C CN) := by
  refine F.okE scSigns (fun vs H Q E h => ?_) (fun cdv A outer s H vs Q E hr h => ?_)
  · obtain ⟨p, dx, z, pre, r, m, rfl, _⟩ := h
    rfl
  obtain ⟨p, dx, z, pre, r, m, rfl, ez, hp, hz, q, qx⟩ := h
  have hu := line_big
  have lz : z.length = pre.length + r.length := by rw [len_cps, ez]; simp
  refine ⟨_, pss_cons (ps_set (i := 2) scSigns.nd rfl (Or.inl rfl) (pe_op op_add (pe_fld (pv 0) rfl) (pv 1)))
    (pss_cons (ps_if (pt_cmpR op_gt (pv 1) (gint T.cSig rfl) (nomark _)) (pss_one (ps_raise def_cx (hr.hd (by decide)) rfl Y.mgN Y.xN PySem.F.excBase_ValueError (pa_cons pe_str pa_nil))) pss_nil)
    (pss_cons (ps_if (pt_cmpR op_gt (pv 2) (pe_callB call_len_str rfl T.len PySem.boot_len (pa_cons (pe_fld (pv 0) rfl) pa_nil)) (nomark _)) (pss_one (ps_raise def_cx (hr.hd (by decide)) rfl Y.mgN Y.xN PySem.F.excBase_ValueError (pa_cons pe_str pa_nil))) pss_nil)
    (pss_cons (ps_set (i := 3) scSigns.nd rfl (Or.inl rfl) (pe_slice sl_str (pe_fld (pv 0) rfl) (po_some (pe_fld (pv 0) rfl)) (po_some (pv 2))))
    (pss_cons (ps_fld (pv 0) (pv 2) rfl)
    (pss_one (ps_ret (pv 3))))))), ?_⟩
  refine ⟨_, rfl, p, C, dx, _, _, rfl, hp, T.cl, T.nP, rf_place _ _, _, rfl, _, _, rfl, rfl, ?_⟩
  refine ⟨_, rfl, _, _, rfl, rfl, _, rfl, ?_⟩
  by_cases h1 : 2000 < m
  · rw [decide_eq_true (show ((2000 : Int) < ((m : Nat) : Int)) by omega)]
    exact iteT ⟨Nat.le_refl 1, fun ea => qx (by omega) ea H (But.refl p H)⟩
  rw [decide_eq_false (show ¬ ((2000 : Int) < ((m : Nat) : Int)) by omega)]
  refine iteF ⟨_, rfl, _, rfl, p, C, dx, _, _, rfl, hp, T.cl, T.nT, rf_text _ _, z, rfl, by omega, _, _, rfl, rfl, _, rfl, ?_⟩
  by_cases h2 : r.length < m
  · rw [decide_eq_true (show (((z.length : Nat) : Int) < ((pre.length : Nat) : Int) + ((m : Nat) : Int)) by omega)]
    exact iteT ⟨Nat.le_refl 1, fun ea => qx (by omega) ea H (But.refl p H)⟩
  rw [decide_eq_false (show ¬ (((z.length : Nat) : Int) < ((pre.length : Nat) : Int) + ((m : Nat) : Int)) by omega)]
  have lm : (r.take m).length = m := by rw [List.length_take]; omega
  have ez2 : z.cps.toList = pre ++ r.take m ++ r.drop m := by rw [ez, List.append_assoc, List.take_append_drop]
  refine iteF ⟨_, rfl, p, C, dx, _, _, rfl, hp, T.cl, T.nT, rf_text _ _, _, rfl, p, C, dx, _, _, rfl, hp, T.cl, T.nP, rf_place _ _, _, rfl, _, rfl, _, rfl, z, rfl, by omega, ?_⟩
  rw [slice_mid ez2 rfl (by rw [lm]; omega)]
  refine ⟨_, rfl, _, rfl, p, C, dx, _, rfl, hp, T.cl, T.nP, (by rw [rf_len]; decide), _, rfl, ?_⟩
  refine q ⟨by omega, by omega⟩ (pre ++ r.take m) _ ez2 ?_ ((But.refl p H).upd _)
  have eb : ((pre.length : Nat) : Int) + ((m : Nat) : Int) = (((pre ++ r.take m).length : Nat) : Int) := by rw [List.length_append, lm]; omega
  rw [upd_same, ← eb]
  exact congrArg (fun l => some (HO.ins C dx l)) (rf_put z _ _)
def spBelow (C CN : Addr) : Sp := fun vs H Q E => ∃ p dx z pre r, vs = [.ref p] ∧ z.cps.toList = pre ++ r ∧ H p = some (.ins C dx (rf z ((pre : List Nat).length : Nat))) ∧ z.length ≤ 100000 ∧ (∀ c ∈ r, c < 128) ∧
  (∀ t r', pNeg r = some (t, r') → ∀ v pre' H', z.cps.toList = pre' ++ r' → H' p = some (.ins C dx (rf z ((pre' : List Nat).length : Nat))) → But p H H' → Rep H' t v → Q v H') ∧
  (pNeg r = none → ∀ ea H', But p H H' → E (.ref ea) (some CN) H')
theorem scBelow : FnScope ["self", "number"] ["self"] (defScope sBelow) := ⟨rfl, rfl, rfl, by decide +kernel, rfl, by decide +kernel, by decide +kernel⟩
theorem ok_below {fN : Addr} {dN : FuncData} (F : Fun K "read_below" "Reader.read_below" sBelow f fd) (T : Tx K mg C) (Y : Ty K mg CN) (GN : FnOk P w K mg base (CXE P w) 21 fN dN ["self"] (spNum C CN)) (bN : Binds K dN ["self"] []) (mN : Meth K C "read_number" fN) :
    FnOk P w K mg base (CXE P w) 22 f fd ["self"] (spBelow C CN) := by
  refine F.okE scBelow (fun vs H Q E h => ?_) (fun cdv A outer s H vs Q E hr h => ?_)
  · obtain ⟨p, dx, z, pre, r, rfl, _⟩ := h
    rfl
  obtain ⟨p, dx, z, pre, r, rfl, ez, hp, hz, hasc, q, qx⟩ := h
  refine ⟨_, pss_cons (ps_set (i := 1) scBelow.nd rfl (Or.inl rfl) (pe_meth0 (pv 0) T.cl mN GN hr bN .nil passX))
    (pss_cons (ps_if (pt_cmpR op_eq (pv 1) pe_int (nomark _)) (pss_one (ps_raise def_cx (hr.hd (by decide)) rfl Y.mgN Y.xN PySem.F.excBase_ValueError (pa_cons pe_str pa_nil))) pss_nil)
    (pss_one (ps_ret (pe_un un_neg (pv 1))))), ?_⟩
  refine ⟨_, rfl, p, dx, _, rfl, hp, rf_no _ _ (by decide +kernel) (by decide +kernel), p, dx, z, pre, r, rfl, ez, hp, hz, hasc, fun m r' em pre' H1 ez1 hp1 bt => ?_, fun en' ea H1 bt => qx (neg_none en') ea H1 bt⟩
  refine ⟨_, rfl, rfl, _, rfl, ?_⟩
  have e1 := neg_eq em
  by_cases hm : m = 0
  · subst hm
    rw [decide_eq_true (show V.int (((0 : Nat)) : Int) = V.int 0 from rfl)]
    exact iteT ⟨Nat.le_refl 1, fun ea => qx e1 ea H1 bt⟩
  have n1 : ¬ (V.int ((m : Nat) : Int) = V.int 0) := by intro e; injection e with e; omega
  rw [decide_eq_false n1]
  have e2 : pNeg r = some (.num (-(m : Int)), r') := by rw [e1]; exact if_neg hm
  exact iteF ⟨_, rfl, _, rfl, q _ _ e2 _ pre' H1 ez1 hp1 bt (by simp only [Rep])⟩
end
theorem any_45 {n : Nat} {r : List Nat} (h : r.head? = some 45) : pAny n r = pNeg r.tail := by
  have h' : ¬ r.head? = some 40 := by rw [h]; decide
  cases n with
  | zero => unfold pAny; rw [if_neg h', if_pos h]
  | succ n => unfold pAny; rw [if_neg h', if_pos h]
theorem any_plain {n : Nat} {r : List Nat} (h1 : ¬ r.head? = some 40) (h2 : ¬ r.head? = some 45) : pAny n r = pPlain r := by
  cases n with
  | zero => unfold pAny; rw [if_neg h1, if_neg h2]
  | succ n => unfold pAny; rw [if_neg h1, if_neg h2]
theorem tail_cut {z : Str} {pre r : List Nat} {c : Nat} (ez : z.cps.toList = pre ++ r) (h : r.head? = some c) : z.cps.toList = (pre ++ [c]) ++ r.tail := by
  rw [ez, head_of h]; simp
theorem mem_tail {r : List Nat} {c : Nat} (h : c ∈ r.tail) : c ∈ r := List.mem_of_mem_tail h
section
variable {P : Program} {w : World} {K : PySem.W.Frag} {mg : Str → Option Value} {base : Heap} {f C CN : Addr} {fd : FuncData}
def spR (C CN : Addr) (n : Nat) (g : List Nat → Option (Th × List Nat)) : Sp := fun vs H Q E => ∃ p dx z pre r, vs = [.ref p, .int ((n : Nat) : Int)] ∧ z.cps.toList = pre ++ r ∧ H p = some (.ins C dx (rf z ((pre : List Nat).length : Nat))) ∧ z.length ≤ 100000 ∧ (∀ c ∈ r, c < 128) ∧ (∀ c ∈ r, c ≠ 40) ∧
  (∀ t r', g r = some (t, r') → ∀ v pre' H', z.cps.toList = pre' ++ r' → H' p = some (.ins C dx (rf z ((pre' : List Nat).length : Nat))) → But p H H' → Rep H' t v → Q v H') ∧
  (g r = none → ∀ ea H', But p H H' → E (.ref ea) (some CN) H')
theorem scAny : FnScope ["self", "deep", "number"] ["self", "deep"] (defScope sAny) := ⟨rfl, rfl, rfl, by decide +kernel, rfl, by decide +kernel, by decide +kernel⟩
theorem ok_any {n : Nat} {fP fB fN fS : Addr} {dP dB dN dS : FuncData} (F : Fun K "read_any" "Reader.read_any" sAny f fd) (T : Tx K mg C)
    (GP : FnOk P w K mg base CX0 1 fP dP ["self", "sign"] (spPass C)) (bP : Binds K dP ["self", "sign"] []) (mP : Meth K C "passes" fP)
    (GB : FnOk P w K mg base (CXE P w) 22 fB dB ["self"] (spBelow C CN)) (bB : Binds K dB ["self"] []) (mB : Meth K C "read_below" fB)
    (GN : FnOk P w K mg base (CXE P w) 21 fN dN ["self"] (spNum C CN)) (bN : Binds K dN ["self"] []) (mN : Meth K C "read_number" fN)
    (GS : FnOk P w K mg base (CXE P w) 21 fS dS ["self", "many"] (spSigns C CN)) (bS : Binds K dS ["self", "many"] []) (mS : Meth K C "read_signs" fS) :
    FnOk P w K mg base (CXE P w) 23 f fd ["self", "deep"] (spR C CN n (pAny n)) := by
  refine F.okE scAny (fun vs H Q E h => ?_) (fun cdv A outer s H vs Q E hr h => ?_)
  · obtain ⟨p, dx, z, pre, r, rfl, _⟩ := h
    rfl
  obtain ⟨p, dx, z, pre, r, rfl, ez, hp, hz, hasc, h40n, q, qx⟩ := h
  have hr1 := hr.mono (show 1 ≤ 22 by decide)
  have hr3 := hr.mono (show 21 ≤ 22 by decide)
  have np : ∀ (k : Int), (rf z k).lookup ("passes" : Str) = none := fun k => rf_no _ _ (by decide +kernel) (by decide +kernel)
  have nn : ∀ (k : Int), (rf z k).lookup ("read_number" : Str) = none := fun k => rf_no _ _ (by decide +kernel) (by decide +kernel)
  have nb : ∀ (k : Int), (rf z k).lookup ("read_below" : Str) = none := fun k => rf_no _ _ (by decide +kernel) (by decide +kernel)
  have ns : ∀ (k : Int), (rf z k).lookup ("read_signs" : Str) = none := fun k => rf_no _ _ (by decide +kernel) (by decide +kernel)
  refine ⟨_, pss_cons (ps_if (pt_val (pe_meth (pv 0) T.cl mP GP hr1 bP .nil pass0 (pa_cons pe_str pa_nil))) pss_never pss_nil)
    (pss_cons (ps_if (pt_val (pe_meth (pv 0) T.cl mP GP hr1 bP .nil pass0 (pa_cons pe_str pa_nil))) (pss_one (ps_ret (pe_meth0 (pv 0) T.cl mB GB hr bB .nil passX))) pss_nil)
    (pss_cons (ps_set (i := 2) scAny.nd rfl (Or.inl rfl) (pe_meth0 (pv 0) T.cl mN GN hr3 bN .nil passX))
    (pss_cons (ps_if (pt_val (pe_meth (pv 0) T.cl mP GP hr1 bP .nil pass0 (pa_cons pe_str pa_nil))) (pss_one (ps_ret (pe_meth (pv 0) T.cl mS GS hr3 bS .nil passX (pa_cons (pv 2) pa_nil)))) pss_nil)
    (pss_one (ps_ret (pv 2)))))), ?_⟩
  have h0 := at_pre ez
  have one : ∀ c : Nat, (pre ++ [c]).length = pre.length + 1 := fun c => by simp
  have b1 : ∀ {H2 : Hp} {o : HO}, But p (upd H p o) H2 → But p H H2 := fun {H2 o} b => ((But.refl p H).upd o).trans b
  refine ⟨_, rfl, p, dx, _, rfl, hp, np _, p, dx, z, 40, pre.length, (by rw [e_open]; rfl), hp, ?_⟩
  by_cases h40 : r.head? = some 40
  · exact absurd rfl (h40n 40 (by rw [head_of h40]; exact List.mem_cons_self))
  rw [if_neg (by rw [h0]; exact h40)]
  refine ⟨_, rfl, iteF ?_⟩
  refine ⟨_, rfl, p, dx, _, rfl, hp, np _, p, dx, z, 45, pre.length, (by rw [e_minus]; rfl), hp, ?_⟩
  by_cases h45 : r.head? = some 45
  · rw [if_pos (by rw [h0]; exact h45)]
    rw [any_45 h45] at q qx
    refine ⟨_, rfl, iteT ?_⟩
    exact ⟨_, rfl, p, dx, _, rfl, upd_same, nb _, p, dx, z, pre ++ [45], r.tail, rfl, tail_cut ez h45, (by rw [upd_same, one]), hz, (fun c hc => hasc c (mem_tail hc)), (fun t r' et v pre' H2 e2 hp2 bt2 rp => q t r' et v pre' H2 e2 hp2 (b1 bt2) rp), fun en ea H2 bt2 => qx en ea H2 (b1 bt2)⟩
  rw [if_neg (by rw [h0]; exact h45)]
  rw [any_plain h40 h45] at q qx
  refine ⟨_, rfl, iteF ?_⟩
  refine ⟨_, rfl, p, dx, _, rfl, hp, nn _, p, dx, z, pre, r, rfl, ez, hp, hz, hasc, fun m r1 em pre1 H1 ez1 hp1 bt => ?_, fun en ea H1 bt => qx (plain_none en) ea H1 bt⟩
  rw [plain_eq em] at q qx
  have h1 := at_pre ez1
  refine ⟨_, rfl, p, dx, _, rfl, hp1, np _, p, dx, z, 58, pre1.length, (by rw [e_colon]; rfl), hp1, ?_⟩
  by_cases h58 : r1.head? = some 58
  · rw [if_pos (by rw [h1]; exact h58)]
    refine ⟨_, rfl, iteT ?_⟩
    have one1 : (pre1 ++ [58]).length = pre1.length + 1 := by simp
    refine ⟨_, rfl, p, dx, _, rfl, upd_same, ns _, _, rfl, p, dx, z, pre1 ++ [58], r1.tail, m, rfl, tail_cut ez1 h58, (by rw [upd_same, one1]), hz, fun hm pre2 H2 e2 hp2 bt2 => ?_, fun hm ea H2 bt2 => ?_⟩
    · exact q _ _ (by unfold pTail; rw [if_pos h58, if_pos hm]) _ pre2 H2 e2 hp2 ((bt.upd _).trans bt2) (by simp only [Rep])
    · exact qx (by unfold pTail; rw [if_pos h58, if_neg hm]) ea H2 ((bt.upd _).trans bt2)
  · rw [if_neg (by rw [h1]; exact h58)]
    exact ⟨_, rfl, iteF ⟨_, rfl, q _ _ (by unfold pTail; rw [if_neg h58]) _ pre1 H1 ez1 hp1 bt (by simp only [Rep])⟩⟩
end
section
variable {P : Program} {w : World} {K : PySem.W.Frag} {mg : Str → Option Value} {base : Heap} {f C CN : Addr} {fd : FuncData}
theorem rd_none {cs : List Nat} (h : cs.length ≤ 100000 ∧ cs.all okSign = true) (e : pAny 8 cs = none) : rdTh cs = none := by unfold rdTh; rw [if_pos h, e]
theorem rd_yes {cs : List Nat} {t : Th} (h : cs.length ≤ 100000 ∧ cs.all okSign = true) (e : pAny 8 cs = some (t, [])) : rdTh cs = some t := by unfold rdTh; rw [if_pos h, e]
theorem rd_more {cs r : List Nat} {c : Nat} {t : Th} (h : cs.length ≤ 100000 ∧ cs.all okSign = true) (e : pAny 8 cs = some (t, c :: r)) : rdTh cs = none := by unfold rdTh; rw [if_pos h, e]
def spRead (CN : Addr) : Sp := fun vs H Q E => ∃ z, vs = [.str z] ∧ z.length ≤ 200000 ∧ (∀ c ∈ z.cps.toList, c < 128) ∧ (∀ c ∈ z.cps.toList, c ≠ 40) ∧
  (∀ t, rdTh z.cps.toList = some t → ∀ v H', Same H H' → Rep H' t v → Q v H') ∧ (rdTh z.cps.toList = none → ∀ ea H', Same H H' → E (.ref ea) (some CN) H')
theorem scRead : FnScope ["text", "reader", "thing"] ["text"] (defScope sRead) := ⟨rfl, rfl, rfl, by decide +kernel, rfl, by decide +kernel, by decide +kernel⟩
def readComp : Scope := match defBody sRead with
  | _ :: .If (.UnaryOp _ (.Call _ [.ListComp _ _ sc _] _ _) _) _ _ _ :: _ => sc
  | _ => default
theorem scComp : BlkScope ["text", "reader", "thing"] (defScope sRead) readComp "sign" ["sign"] [] := ⟨by decide +kernel, rfl, by decide +kernel, rfl, by decide +kernel, by decide +kernel, rfl, rfl, fun j h => absurd h (Nat.not_lt_zero j)⟩
theorem ok_read {fG fI fA : Addr} {dG dI dA : FuncData} (F : Fun K "read_thing" "read_thing" sRead f fd) (T : Tx K mg C) (Y : Ty K mg CN) (M : Mk K C fI)
    (GG : FnOk P w K mg base CX0 1 fG dG ["sign"] spSign) (bG : Binds K dG ["sign"] []) (kG : PySem.W.keepIn K (.ref fG) = true) (mG : mg "is_sign" = some (.ref fG))
    (GI : FnOk P w K mg base CX0 1 fI dI ["self", "text"] (spInit C)) (bI : Binds K dI ["self", "text"] [])
    (GA : FnOk P w K mg base (CXE P w) 23 fA dA ["self", "deep"] (spR C CN 8 (pAny 8))) (bA : Binds K dA ["self", "deep"] []) (mA : Meth K C "read_any" fA) :
    FnOk P w K mg base (CXE P w) 24 f fd ["text"] (spRead CN) := by
  refine F.okE scRead (fun vs H Q E h => ?_) (fun cdv A outer s H vs Q E hr h => ?_)
  · obtain ⟨z, rfl, _⟩ := h
    rfl
  obtain ⟨z, rfl, hz, hasc, h40n, q, qx⟩ := h
  have hr1 := hr.mono (show 1 ≤ 23 by decide)
  have hr2 := hr.mono (show 2 ≤ 23 by decide)
  have hu := line_big
  have lz := len_cps z
  refine ⟨_, pss_cons (ps_if (pt_cmpR op_gt (pe_callB call_len_str rfl T.len PySem.boot_len (pa_cons (pv 0) pa_nil)) (gint T.cLong rfl) (nomark _)) (pss_one (ps_raise def_cx (hr.hd (by decide)) rfl Y.mgN Y.xN PySem.F.excBase_ValueError (pa_cons pe_str pa_nil))) pss_nil)
    (pss_cons (ps_if (pt_not (pt_val (pe_callB (call_all_bl (hr.hd (by decide))) rfl T.all PyProof.Rows.boot_all (pa_cons (pe_lc scComp rfl (pi_str (pv 0)) (fun _ _ _ _ => pts_nil) (fun _ _ _ _ => pe_call GG hr1 rfl mG kG bG .nil pass0 (pa_cons (pv 0) pa_nil))) pa_nil)))) (pss_one (ps_raise def_cx (hr.hd (by decide)) rfl Y.mgN Y.xN PySem.F.excBase_ValueError (pa_cons pe_str pa_nil))) pss_nil)
    (pss_cons (ps_set (i := 1) scRead.nd rfl (Or.inl rfl) (pe_make M GI hr2 rfl T.mgC bI .nil pass0 (pa_cons (pv 0) pa_nil)))
    (pss_cons (ps_set (i := 2) scRead.nd rfl (Or.inl rfl) (pe_meth (pv 1) T.cl mA GA hr bA .nil passX (pa_cons (gint T.cDeep rfl) pa_nil)))
    (pss_cons (ps_if (pt_cmpR op_ne (pe_fld (pv 1) rfl) (pe_callB call_len_str rfl T.len PySem.boot_len (pa_cons (pv 0) pa_nil)) (nomark _)) (pss_one (ps_raise def_cx (hr.hd (by decide)) rfl Y.mgN Y.xN PySem.F.excBase_ValueError (pa_cons pe_str pa_nil))) pss_nil)
    (pss_one (ps_ret (pv 2))))))), ?_⟩
  refine ⟨_, rfl, z, rfl, by omega, _, _, rfl, rfl, _, rfl, ?_⟩
  by_cases hlong : 100000 < z.length
  · rw [decide_eq_true (show ((100000 : Int) < ((z.length : Nat) : Int)) by omega)]
    refine iteT ⟨Nat.le_refl 1, fun ea => qx ?_ ea H (Same.refl H)⟩
    unfold rdTh
    rw [if_neg (fun h => absurd h.1 (by omega))]
  rw [decide_eq_false (show ¬ ((100000 : Int) < ((z.length : Nat) : Int)) by omega)]
  refine iteF ?_
  refine ⟨_, rfl, z, rfl, fun i ys H1 => i ≤ z.length ∧ ys = ((z.cps.toList.take i).map okSign).map V.bl ∧ H1 = H, z.length, ⟨Nat.zero_le _, rfl, rfl⟩, by omega, ?_⟩
  rintro i ys H1 ⟨hi, rfl, rfl⟩
  by_cases hlt : i < z.length
  · refine .inr ⟨hlt, hlt, ?_⟩
    rintro x H2 ⟨rfl, c, hc, rfl⟩
    refine ⟨_, rfl, c, rfl, hlt, ?_, rfl⟩
    rw [List.take_add_one, hc]
    simp
  refine .inl ⟨by show z.length ≤ i; omega, fun l hl => ?_⟩
  have et : z.cps.toList.take i = z.cps.toList := List.take_of_length_le (by omega)
  rw [et]
  refine ⟨l, z.cps.toList.map okSign, rfl, SqL.of upd_same, _, rfl, ?_⟩
  have e1 : (z.cps.toList.map okSign).all id = z.cps.toList.all okSign := by rw [List.all_map]; rfl
  rw [e1]
  have sl : Same H1 (upd H1 l (.lst ((z.cps.toList.map okSign).map V.bl))) := fun b o e => by rw [upd_ne (ne_of_none e hl)]; exact e
  cases hs : z.cps.toList.all okSign with
  | false =>
    refine iteT ⟨Nat.le_refl 1, fun ea => qx ?_ ea _ sl⟩
    unfold rdTh
    rw [if_neg (fun h => by rw [hs] at h; cases h.2)]
  | true =>
    refine iteF ?_
    have cnd : z.cps.toList.length ≤ 100000 ∧ z.cps.toList.all okSign = true := ⟨by omega, hs⟩
    refine ⟨_, rfl, fun x dx nx ndx nex => ⟨x, dx, z, rfl, upd_same, rfl, ?_⟩⟩
    have old : ∀ {G : Hp}, But x (upd (upd (upd (upd (upd H1 l (.lst ((z.cps.toList.map okSign).map V.bl))) dx (.own x)) x (.ins C dx [])) x (.ins C dx (putF "text" (.str z) []))) x (.ins C dx (rf z 0))) G → Same H1 G := fun {G} bt b o e => by
      have e3 := sl b o e
      have nb1 : b ≠ x := ne_of_none e3 nx
      have nb2 : b ≠ dx := ne_of_none e3 ndx
      refine bt b o ?_ nb1
      rw [upd_ne nb1, upd_ne nb1, upd_ne nb1, upd_ne nb2]
      exact e3
    refine ⟨_, rfl, x, dx, _, rfl, upd_same, rf_no _ _ (by decide +kernel) (by decide +kernel), x, dx, z, [], z.cps.toList, rfl, rfl, upd_same, by omega, hasc, h40n, fun t r' et' v pre' H3 ez3 hx3 bt3 rp3 => ?_, fun en ea H3 bt3 => qx (rd_none cnd en) ea H3 (old bt3)⟩
    refine ⟨_, rfl, x, C, dx, _, _, rfl, hx3, T.cl, T.nP, rf_place _ _, _, rfl, z, rfl, by omega, rfl, _, rfl, ?_⟩
    have l3 : z.length = pre'.length + r'.length := by rw [lz, ez3]; simp
    cases r' with
    | nil =>
      refine iteNS (by rw [l3]; simp) ⟨_, rfl, q t (rd_yes cnd et') v H3 (old bt3) rp3⟩
    | cons c r' =>
      have ne : ¬ (V.int ((pre'.length : Nat) : Int) = V.int ((z.length : Nat) : Int)) := by
        intro e
        injection e with e
        rw [l3, List.length_cons] at e
        omega
      rw [decide_eq_false ne]
      exact iteT ⟨Nat.le_refl 1, fun ea => qx (rd_more cnd et') ea H3 (old bt3)⟩
end
end K25T
set_option maxHeartbeats 4000000
namespace K25
open PySem L2 Lo St
section
variable {P : Program} {w : World} {K : PySem.W.Frag} {mg : Str → Option Value} {base : Heap} {f CL CP : Addr} {fd : FuncData} {C : Kd → Addr} {CW : Wd → Addr}
def good (z : Str) (b : Bool) (i : Int) : Prop := z = iS i ∧ inV i ∧ (b = true ∨ 0 ≤ i)
theorem iS_of {z : Str} {i : Int} (h : z.cps.toList = Km.numCs i) : z = iS i := K25T.str_ext (h.trans (iS_cs i).symm)
theorem strip_num (i : Int) : (Txt.lstripChars (iS i) (Str.ofString "-")).length = (Km.digs i.natAbs).length := by
  have e : (Str.ofString "-") = ⟨#[45]⟩ := by decide +kernel
  have hs : (iS i).cps.size = (Km.numCs i).length := by rw [← iS_cs]; simp
  have nd : ∀ m, (Km.digs m).takeWhile (fun c => (⟨#[45]⟩ : Str).cps.contains c) = [] := fun m => by
    cases h : Km.digs m with
    | nil => rfl
    | cons c r =>
      have := Km.digs_all m c (by rw [h]; exact List.mem_cons_self)
      rw [List.takeWhile_cons, if_neg]
      simp
      omega
  rw [e]
  unfold Txt.lstripChars
  rw [PyProof.Rows.stripBy_eq]
  show ((iS i).cps.extract ((iS i).cps.toList.takeWhile (fun c => (⟨#[45]⟩ : Str).cps.contains c)).length (iS i).length).size = _
  rw [Array.size_extract, iS_cs]
  have hl : (iS i).length = (Km.numCs i).length := hs
  rw [hs, hl]
  unfold Km.numCs
  by_cases hi : i < 0
  · rw [if_pos hi, List.takeWhile_cons, if_pos (by decide +kernel), nd]
    simp
  · rw [if_neg hi, nd]
    simp
theorem strip_le {i : Int} : (Txt.lstripChars (iS i) (Str.ofString "-")).length ≤ 40 ↔ inV i := by
  rw [strip_num]
  refine ⟨fun h => ?_, fun h => Km.digs_len (by decide) h⟩
  have := Km.digitsVal_lt (Km.digs i.natAbs) (Km.digs_all _)
  rw [Km.digs_val] at this
  exact Nat.lt_of_lt_of_le this (Nat.pow_le_pow_right (by decide) h)
theorem rd_iS {i : Int} (h : inV i) : Km.rdTh (iS i).cps.toList = some (.num i) := by
  rw [iS_cs]
  have hl := iS_len h
  have e : (iS i).length = (Km.numCs i).length := by rw [← iS_cs]; simp [Str.length]
  unfold Km.rdTh
  have z := Km.num_at (i := i) (post := []) (d := 8) (Nat.lt_trans h (by decide +kernel)) (fun c r e => nomatch e)
  rw [List.append_nil] at z
  have hs : (Km.numCs i).all Km.okSign = true := List.all_eq_true.mpr fun c hc => by
    rcases num_in hc with rfl | ⟨a1, a2⟩
    · decide
    · show (decide _ && decide _ && _) = true
      simp
      omega
  rw [if_pos ⟨by omega, hs⟩, z]
theorem rd_word {cs : List Nat} {t : Km.Th} (h40 : ∀ c ∈ cs, c ≠ 40) (h : Km.rdTh cs = some t) : cs = t.cs ∧ ((∃ i, t = .num i) ∨ ∃ c, t = .txt c) := by
  unfold Km.rdTh at h
  split at h
  · have n40 : ¬ cs.head? = some 40 := fun e => h40 40 (by rw [Km.head_of e]; exact List.mem_cons_self) rfl
    cases e : Km.pAny 8 cs with
    | none => rw [e] at h; cases h
    | some u =>
      obtain ⟨u, r⟩ := u
      rw [e] at h
      cases r with
      | cons x r => cases h
      | nil =>
        cases Option.some.inj h
        by_cases h45 : cs.head? = some 45
        · rw [K25T.any_45 h45] at e
          have e1 := (Km.neg_some (d := 0) e).1
          rw [← Km.head_of h45, List.append_nil] at e1
          refine ⟨e1, .inl ?_⟩
          unfold Km.pNeg at e
          split at e
          · cases e
          · split at e
            · cases e
            · cases e
              exact ⟨_, rfl⟩
        · rw [K25T.any_plain n40 h45] at e
          have e1 := (Km.plain_some (d := 0) e).1
          rw [List.append_nil] at e1
          refine ⟨e1, ?_⟩
          unfold Km.pPlain at e
          split at e
          · cases e
          · unfold Km.pTail at e
            split at e
            · split at e
              · injection e with e
                injection e with e2 e3
                exact .inr ⟨_, e2.symm⟩
              · cases e
            · cases e
              exact .inl ⟨_, rfl⟩
  · cases h
structure Ts (P : Program) (w : World) (K : PySem.W.Frag) (mg : Str → Option Value) (CN CT fI : Addr) (dI : FuncData) : Prop where
  mN : mg "NoThing" = some (.ref CN)
  xN : PySem.W.excIn K CN XA.bmX "ValueError.__new__" = true
  sN : PySem.W.mroIn K CN (.ref CN) = some true
  mT : mg "NoText" = some (.ref CT)
  M : XA.MkX K CT fI
  sT : PySem.W.mroIn K CT (.ref CT) = some true
  F : ∀ Bh, FnOk P w K mg Bh CX0 1 fI dI ["self", "at"] (XA.spXI CT)
  b : Binds K dI ["self", "at"] []
theorem room_mark {k : Nat} {A : Around} {ev : Value} (hr : Room k A) (hk : 2 ≤ k) : Room 2 (A.mark (some ev)) :=
  ⟨fun z => absurd z (by decide), (hr.mono hk).dp, (hr.mono hk).un⟩
def wholeV : V → Option Bool
  | .int _ => some true
  | .str _ => some false
  | _ => none
def spWh : Sp := fun vs H Q _ => ∃ x b, vs = [x] ∧ wholeV x = some b ∧ Q (.bl b) H
theorem ok_iswhole (F : Fun K "is_whole" "is_whole" s_is_whole f fd) (B : TxB mg) : FnOk P w K mg base CX0 1 f fd ["thing"] spWh := by
  refine F.ok sc_is_whole (fun vs H Q E h => ?_) (fun cdv A outer s H vs Q E hr h => ?_)
  · obtain ⟨i, b, rfl, _⟩ := h
    rfl
  obtain ⟨x, b, rfl, hb, q⟩ := h
  refine ⟨_, pss_one (ps_ret (pe_and (pe_callB call_isinst rfl B.isi PyProof.Rows.boot_isinstance (pa_cons (pv 0) (pa_cons (pe_bltn (v := .ty "int") rfl B.int PyProof.Rows.boot_int rfl) pa_nil)))
    (pe_one (pe_not (pe_callB call_isinst rfl B.isi PyProof.Rows.boot_isinstance (pa_cons (pv 0) (pa_cons (pe_bltn (v := .ty "bool") rfl B.bool PyProof.Rows.boot_bool rfl) pa_nil))))))), ?_⟩
  cases x with
  | int i =>
    cases (Option.some.inj hb)
    refine ⟨_, rfl, _, _, _, _, rfl, TyOf.int i, K25T.kit_ii, _, rfl, iteT ?_⟩
    exact ⟨_, rfl, _, _, _, _, rfl, TyOf.int i, K25T.kit_ib, _, rfl, q⟩
  | str z =>
    cases (Option.some.inj hb)
    exact ⟨_, rfl, _, _, _, _, rfl, TyOf.str z, K25T.kit_si, _, rfl, iteF q⟩
  | _ => cases hb
def Np (z : Str) : Prop := (∀ c ∈ z.cps.toList, c < 128) ∧ ∀ c ∈ z.cps.toList, c ≠ 40
def spRNu (CT : Addr) : Sp := fun vs H Q E => ∃ z c, vs = [.str z, .str ⟨#[c]⟩] ∧ Np z ∧ z.length ≤ 100000 ∧ (∀ i, good z (decide (c = 86)) i → ∀ H', Same H H' → Q (.int i) H') ∧ ((¬ ∃ i, good z (decide (c = 86)) i) → ∀ tk H', Same H H' → E (.int 0 tk) (some CT) H')
theorem ok_rnum {CN CT fI : Addr} {dI : FuncData} (F : Fun K "read_number" "read_number" s_read_number f fd) (B : TxB mg) (T : Ts P w K mg CN CT fI dI)
    (cF : ∃ t, mg "MOST_FIGURES_steps" = some (.int 40 t)) (GR : GF P w K mg base (CXE P w) 24 "read_thing" ["text"] (K25T.spRead CN)) (GW : GF P w K mg base CX0 1 "is_whole" ["thing"] spWh) : FnOk P w K mg base (XA.CXA 1 P w) 25 f fd ["word", "letter"] (spRNu CT) := by
  refine XA.okA F sc_read_number (fun vs H Q E h => ?_) (fun cdv A outer s H vs Q E hr h => ?_)
  · obtain ⟨z, c, rfl, _⟩ := h
    rfl
  obtain ⟨z, c, rfl, np, hz, q, qx⟩ := h
  have nd := sc_read_number.nd
  have hh := hr.hd (by decide)
  refine ⟨_, pss_cons (XA.ps_trySetF (j := 2) XA.def_cxA nd rfl (Or.inl rfl) (pex_call GR.ok hr rfl GR.mgx GR.kp GR.bd .nil (pa_cons (pv 0) pa_nil)) rfl T.mN T.M (fun Bh _ => T.F Bh) T.b (fun ev => room_mark hr (by decide)) rfl T.mT (fun ev => pa_cons pe_int pa_nil))
    (pss_cons (ps_if (PW.pt (pw_or (pt_not (pt_val (pc GW hr (pa_cons (pv 2) pa_nil)))) (pw_or1 (pt_cmpR op_gt (pe_callB call_len_str rfl B.len PySem.boot_len (pa_cons (pe_bm PySem.F.plainAttrs_str PySem.F.slot_str_lstrip PySem.F.type_str_lstrip mt_lstripC (pv 0) (pa_cons pe_str pa_nil)) pa_nil)) (gint cF rfl) (nomark _))))) (pss_one (XA.ps_raiseA XA.def_cxA rfl hh T.M (T.F _) T.b (hr.mono (by decide)) rfl T.mT (pa_cons pe_int pa_nil))) pss_nil)
    (pss_cons (ps_if (PW.pt (pw_and (pt_cmpR op_lt (pv 2) pe_int (nomark _)) (pw_and1 (pt_cmpR op_ne (pv 1) pe_str (nomark _))))) (pss_one (XA.ps_raiseA XA.def_cxA rfl hh T.M (T.F _) T.b (hr.mono (by decide)) rfl T.mT (pa_cons pe_int pa_nil))) pss_nil)
    (pss_one (ps_ret (pv 2))))), ?_⟩
  have h1 : (100000 : Nat) ≤ sizeLine := by decide
  refine ⟨_, rfl, z, rfl, by omega, np.1, np.2, fun t ht v H1 s1 rp => ?_, fun hn ea H1 s1 => ⟨CN, rfl, XA.match_in T.mN T.xN T.sN, 0, rfl, fun dd tk hdd => qx (fun ⟨i, e, hi, _⟩ => ?_) tk _ (s1.trans (same_new hdd))⟩⟩
  · obtain ⟨ec, ft⟩ := rd_word np.2 ht
    rcases ft with ⟨i, rfl⟩ | ⟨cs, rfl⟩
    · obtain rfl : z = iS i := iS_of (by rw [ec, Km.cs_num])
      have rp : v = .int i := by simpa only [Km.Rep] using rp
      subst rp
      refine ⟨_, rfl, _, _, rfl, rfl, _, rfl, iteF ?_⟩
      refine ⟨_, rfl, rfl, iS i, _, rfl, rfl, by omega, _, rfl, ?_, _, _, rfl, rfl, _, rfl, ite2 (fun c' => ?_) (fun c' => ?_)⟩
      · exact Nat.le_trans (Nat.le_trans (Nat.le_of_eq (strip_num i)) (by
          have e3 : (iS i).length = (Km.numCs i).length := by rw [← iS_cs]; simp [Str.length]
          have : (Km.digs i.natAbs).length ≤ (Km.numCs i).length := by
            unfold Km.numCs
            split
            · exact Nat.le_succ _
            · exact Nat.le_refl _
          omega)) h1
      · refine ⟨0, rfl, fun dd tk hdd => qx (fun ⟨j, e, hj, _⟩ => ?_) tk _ (s1.trans (same_new hdd))⟩
        have c' : (40 : Int) < (((Txt.lstripChars (iS i) (Str.ofString "-")).length : Nat) : Int) := of_decide_eq_true c'
        have := strip_le.mpr hj
        rw [← e] at this
        omega
      · have c' : ¬ (40 : Int) < (((Txt.lstripChars (iS i) (Str.ofString "-")).length : Nat) : Int) := fun z => c' (decide_eq_true z)
        have hi : inV i := strip_le.mp (by omega)
        have inj : ∀ j, iS i = iS j → inV j → i = j := fun j e hj => by
          have a1 := rd_iS hi
          have a2 := rd_iS hj
          rw [e, a2] at a1
          injection a1 with a1
          injection a1 with a1
          exact a1.symm
        refine ⟨_, rfl, _, _, rfl, rfl, _, rfl, ite2 (fun c1 => ?_) (fun c1 => ?_)⟩
        · have c1 : i < 0 := of_decide_eq_true c1
          refine ⟨_, rfl, rfl, _, rfl, ite2 (fun c2 => ?_) (fun c2 => ?_)⟩
          · refine ⟨0, rfl, fun dd tk hdd => qx (fun ⟨j, e, hj, hb⟩ => ?_) tk _ (s1.trans (same_new hdd))⟩
            obtain rfl := inj j e hj
            rcases hb with hb | hb
            · have hc : c = 86 := of_decide_eq_true hb
              subst hc
              exact absurd c2 (by decide +kernel)
            · omega
          · refine ⟨_, rfl, q i ⟨rfl, hi, .inl ?_⟩ H1 s1⟩
            by_cases hc : c = 86
            · exact decide_eq_true hc
            · exact absurd (show _ = true from by
                have e : (Str.ofString "V") = ⟨#[86]⟩ := by decide +kernel
                rw [e]
                simp
                exact hc) c2
        · have c1 : ¬ i < 0 := fun z => c1 (decide_eq_true z)
          exact ⟨_, rfl, q i ⟨rfl, hi, .inr (by omega)⟩ H1 s1⟩
    · have rp : v = .str ⟨cs.toArray⟩ := by simpa only [Km.Rep] using rp
      subst rp
      refine ⟨_, rfl, _, _, rfl, rfl, _, rfl, iteT ?_⟩
      refine ⟨0, rfl, fun dd tk hdd => qx (fun ⟨j, e, hj, _⟩ => ?_) tk _ (s1.trans (same_new hdd))⟩
      rw [e, rd_iS hj] at ht
      cases ht
  · rw [e, rd_iS hi] at hn
    cases hn
end
end K25
set_option maxHeartbeats 4000000
namespace K25
open PySem L2 Lo St
section
variable {P : Program} {w : World} {K : PySem.W.Frag} {mg : Str → Option Value} {base : Heap} {f CL CP : Addr} {fd : FuncData} {C : Kd → Addr} {CW : Wd → Addr}
def Ar0 : Wd → List Int → Prop
  | .sum, [h, a, b] => inN h ∧ inN a ∧ inN b
  | w, ns => Ar w ns
theorem ar0_s {ns : List Int} (h : Ar0 .sum ns) : ∃ x y z, ns = [x, y, z] ∧ inN x ∧ inN y ∧ inN z := by
  match ns, h with
  | [x, y, z], h => exact ⟨x, y, z, rfl, h⟩
  | [], h => exact h.elim
  | [_], h => exact h.elim
  | [_, _], h => exact h.elim
  | _ :: _ :: _ :: _ :: _, h => exact h.elim
def spMSumE (CW : Wd → Addr) (CT : Addr) : Sp := fun vs H Q E => ∃ x y z, vs = [.int x, .int y, .int z] ∧ inN x ∧ inN y ∧ inN z ∧ (y ≤ z → ∀ v H', Same H H' → StO CW H' .sum [x, y, z] v → Q v H') ∧ (¬ y ≤ z → ∀ tk H', Same H H' → E (.int 0 tk) (some CT) H')
def spMadeE (CW : Wd → Addr) (CT : Addr) : Sp := fun vs H Q E => ∃ wd q ns, vs = [.str (wS wd), .ref q] ∧ H q = some (.lst ((ns : List Int).map V.int)) ∧ Ar0 wd ns ∧ (Ar wd ns → ∀ v H', Same H H' → StO CW H' wd ns v → Q v H') ∧ (¬ Ar wd ns → ∀ tk H', Same H H' → E (.int 0 tk) (some CT) H')
theorem ok_msum {CN CT fI : Addr} {dI : FuncData} (F : Fun K "made_sum" "made_sum" s_made_sum f fd) (T : Ts P w K mg CN CT fI dI) (I : WI P w K mg base CW .sum) : FnOk P w K mg base (XA.CXA 1 P w) 22 f fd ["where", "low", "high"] (spMSumE CW CT) := by
  refine XA.okA F sc_made_sum (fun vs H Q E h => ?_) (fun cdv A outer s H vs Q E hr h => ?_)
  · obtain ⟨x, y, z, rfl, _⟩ := h
    rfl
  obtain ⟨x, y, z, rfl, a1, a2, a3, q, qx⟩ := h
  have hr1 : Room (2 + 1) _ := hr.mono (by decide)
  refine ⟨_, pss_cons (ps_if (pt_cmpR op_gt (pv 1) (pv 2) (nomark _)) (pss_one (XA.ps_raiseA XA.def_cxA rfl (hr.hd (by decide)) T.M (T.F _) T.b (hr.mono (by decide)) rfl T.mT (pa_cons pe_int pa_nil))) pss_nil) (pss_one (ps_ret (pe_make I.M I.ok hr1 rfl I.m I.b .nil pass0 (pa_cons (pv 0) (pa_cons (pv 1) (pa_cons (pv 2) pa_nil)))))), ?_⟩
  refine ⟨_, rfl, _, rfl, _, _, rfl, rfl, _, rfl, ite2 (fun c => ?_) (fun c => ?_)⟩
  · have c : z < y := of_decide_eq_true c
    exact ⟨0, rfl, fun dd tk hdd => qx (by omega) tk _ (same_new hdd)⟩
  · have hle : y ≤ z := by
      have c : ¬ z < y := fun h => c (decide_eq_true h)
      omega
    exact ⟨_, rfl, _, rfl, _, rfl, fun p dp np ndp nep => ⟨p, dp, [x, y, z], rfl, ⟨a1, a2, a3, hle⟩, upd_same, fun H' h1 h2 => ⟨rfl, q hle _ H' (mk_kp np ndp h2) ⟨p, dp, rfl, h1⟩⟩⟩⟩
theorem ok_mstep {CT : Addr} (F : Fun K "made_step" "made_step" s_made_step f fd) (I : ∀ wd, WI P w K mg base CW wd) (GS : GF P w K mg base (XA.CXA 1 P w) 22 "made_sum" ["where", "low", "high"] (spMSumE CW CT)) : FnOk P w K mg base (XA.CXA 1 P w) 23 f fd ["word", "numbers"] (spMadeE CW CT) := by
  refine XA.okA F sc_made_step (fun vs H Q E h => ?_) (fun cdv A outer s H vs Q E hr h => ?_)
  · obtain ⟨wd, b, ns, rfl, _⟩ := h
    rfl
  obtain ⟨wd, b, ns, rfl, hb, ar0, q0, qx⟩ := h
  have hr1 : Room (2 + 1) _ := hr.mono (by decide)
  refine ⟨_, (pss_cons (ps_if (pt_cmpR op_eq (pv 0) pe_str (nomark _)) (pss_one (ps_ret (pe_make (I .take).M (I .take).ok hr1 rfl (I .take).m (I .take).b .nil pass0 (pa_cons (pe_ix (r := rIxL K) ix_list (pv 1) pe_int (fun _ _ => rfl)) (pa_cons (pe_ix (r := rIxL K) ix_list (pv 1) pe_int (fun _ _ => rfl)) pa_nil))))) pss_nil)
    (pss_cons (ps_if (pt_cmpR op_eq (pv 0) pe_str (nomark _)) (pss_one (ps_ret (pe_make (I .mean).M (I .mean).ok hr1 rfl (I .mean).m (I .mean).b .nil pass0 (pa_cons (pe_ix (r := rIxL K) ix_list (pv 1) pe_int (fun _ _ => rfl)) (pa_cons (pe_ix (r := rIxL K) ix_list (pv 1) pe_int (fun _ _ => rfl)) pa_nil))))) pss_nil)
    (pss_cons (ps_if (pt_cmpR op_eq (pv 0) pe_str (nomark _)) (pss_one (ps_ret (pe_call GS.ok hr rfl GS.mgx GS.kp GS.bd .nil XA.passXA (pa_cons (pe_ix (r := rIxL K) ix_list (pv 1) pe_int (fun _ _ => rfl)) (pa_cons (pe_ix (r := rIxL K) ix_list (pv 1) pe_int (fun _ _ => rfl)) (pa_cons (pe_ix (r := rIxL K) ix_list (pv 1) pe_int (fun _ _ => rfl)) pa_nil)))))) pss_nil)
    (pss_cons (ps_if (pt_cmpR op_eq (pv 0) pe_str (nomark _)) (pss_one (ps_ret (pe_make (I .give).M (I .give).ok hr1 rfl (I .give).m (I .give).b .nil pass0 (pa_cons (pe_ix (r := rIxL K) ix_list (pv 1) pe_int (fun _ _ => rfl)) (pa_cons (pe_ix (r := rIxL K) ix_list (pv 1) pe_int (fun _ _ => rfl)) pa_nil))))) pss_nil)
    (pss_cons (ps_if (pt_cmpR op_eq (pv 0) pe_str (nomark _)) (pss_one (ps_ret (pe_make (I .add).M (I .add).ok hr1 rfl (I .add).m (I .add).b .nil pass0 (pa_cons (pe_ix (r := rIxL K) ix_list (pv 1) pe_int (fun _ _ => rfl)) (pa_cons (pe_ix (r := rIxL K) ix_list (pv 1) pe_int (fun _ _ => rfl)) (pa_cons (pe_ix (r := rIxL K) ix_list (pv 1) pe_int (fun _ _ => rfl)) pa_nil)))))) pss_nil)
    (pss_cons (ps_if (pt_cmpR op_eq (pv 0) pe_str (nomark _)) (pss_one (ps_ret (pe_make (I .plus).M (I .plus).ok hr1 rfl (I .plus).m (I .plus).b .nil pass0 (pa_cons (pe_ix (r := rIxL K) ix_list (pv 1) pe_int (fun _ _ => rfl)) pa_nil)))) pss_nil)
    (pss_one (ps_ret (pe_make (I .need).M (I .need).ok hr1 rfl (I .need).m (I .need).b .nil pass0 (pa_cons (pe_ix (r := rIxL K) ix_list (pv 1) pe_int (fun _ _ => rfl)) pa_nil)))))))))), ?_⟩
  refine ⟨_, rfl, rfl, _, rfl, ite2 (fun c => ?_) (fun c0 => ?_)⟩
  · obtain rfl : wd = .take := w_hit c
    have ar : Ar .take ns := ar0
    have q := q0 ar
    obtain ⟨x, y, rfl, _⟩ := ar.c rfl
    exact ⟨_, rfl, b, _, _, _, rfl, rfl, SqL.of hb, rfl, _, rfl, b, _, _, _, rfl, rfl, SqL.of hb, rfl, fun p dp np ndp nep => ⟨p, dp, [x, y], rfl, ar, upd_same, fun H' h1 h2 => ⟨rfl, q _ H' (mk_kp np ndp h2) ⟨p, dp, rfl, h1⟩⟩⟩⟩
  refine ⟨_, rfl, rfl, _, rfl, ite2 (fun c => ?_) (fun c1 => ?_)⟩
  · obtain rfl : wd = .mean := w_hit c
    have ar : Ar .mean ns := ar0
    have q := q0 ar
    obtain ⟨x, y, rfl, _⟩ := ar.c rfl
    exact ⟨_, rfl, b, _, _, _, rfl, rfl, SqL.of hb, rfl, _, rfl, b, _, _, _, rfl, rfl, SqL.of hb, rfl, fun p dp np ndp nep => ⟨p, dp, [x, y], rfl, ar, upd_same, fun H' h1 h2 => ⟨rfl, q _ H' (mk_kp np ndp h2) ⟨p, dp, rfl, h1⟩⟩⟩⟩
  refine ⟨_, rfl, rfl, _, rfl, ite2 (fun c => ?_) (fun c2 => ?_)⟩
  · obtain rfl : wd = .sum := w_hit c
    obtain ⟨x, y, z, rfl, a1, a2, a3⟩ := ar0_s ar0
    exact ⟨_, rfl, b, _, _, _, rfl, rfl, SqL.of hb, rfl, _, rfl, b, _, _, _, rfl, rfl, SqL.of hb, rfl, _, rfl, b, _, _, _, rfl, rfl, SqL.of hb, rfl, x, y, z, rfl, a1, a2, a3, fun h => q0 ⟨a1, a2, a3, h⟩, fun h => qx fun z => h z.2.2.2⟩
  refine ⟨_, rfl, rfl, _, rfl, ite2 (fun c => ?_) (fun c3 => ?_)⟩
  · obtain rfl : wd = .give := w_hit c
    have ar : Ar .give ns := ar0
    have q := q0 ar
    obtain ⟨x, y, rfl, _⟩ := ar.c rfl
    exact ⟨_, rfl, b, _, _, _, rfl, rfl, SqL.of hb, rfl, _, rfl, b, _, _, _, rfl, rfl, SqL.of hb, rfl, fun p dp np ndp nep => ⟨p, dp, [x, y], rfl, ar, upd_same, fun H' h1 h2 => ⟨rfl, q _ H' (mk_kp np ndp h2) ⟨p, dp, rfl, h1⟩⟩⟩⟩
  refine ⟨_, rfl, rfl, _, rfl, ite2 (fun c => ?_) (fun c4 => ?_)⟩
  · obtain rfl : wd = .add := w_hit c
    have ar : Ar .add ns := ar0
    have q := q0 ar
    obtain ⟨x, y, z, rfl, _⟩ := ar.a
    exact ⟨_, rfl, b, _, _, _, rfl, rfl, SqL.of hb, rfl, _, rfl, b, _, _, _, rfl, rfl, SqL.of hb, rfl, _, rfl, b, _, _, _, rfl, rfl, SqL.of hb, rfl, fun p dp np ndp nep => ⟨p, dp, [x, y, z], rfl, ar, upd_same, fun H' h1 h2 => ⟨rfl, q _ H' (mk_kp np ndp h2) ⟨p, dp, rfl, h1⟩⟩⟩⟩
  refine ⟨_, rfl, rfl, _, rfl, ite2 (fun c => ?_) (fun c5 => ?_)⟩
  · obtain rfl : wd = .plus := w_hit c
    have ar : Ar .plus ns := ar0
    have q := q0 ar
    obtain ⟨x, rfl, _⟩ := ar.p
    exact ⟨_, rfl, b, _, _, _, rfl, rfl, SqL.of hb, rfl, fun p dp np ndp nep => ⟨p, dp, [x], rfl, ar, upd_same, fun H' h1 h2 => ⟨rfl, q _ H' (mk_kp np ndp h2) ⟨p, dp, rfl, h1⟩⟩⟩⟩
  obtain rfl : wd = .need := w_need (w_miss (b := .take) c0) (w_miss (b := .mean) c1) (w_miss (b := .sum) c2) (w_miss (b := .give) c3) (w_miss (b := .add) c4) (w_miss (b := .plus) c5)
  have ar : Ar .need ns := ar0
  have q := q0 ar
  obtain ⟨x, rfl, _⟩ := ar.n
  exact ⟨_, rfl, b, _, _, _, rfl, rfl, SqL.of hb, rfl, fun p dp np ndp nep => ⟨p, dp, [x], rfl, ar, upd_same, fun H' h1 h2 => ⟨rfl, q _ H' (mk_kp np ndp h2) ⟨p, dp, rfl, h1⟩⟩⟩⟩
theorem each_o {h : Heap} {k : Str} {Pq : Value → Prop} {els : Prop} : ∀ {D : List (Str × PyProof.Rows.KTD.Dat)}, (match PyProof.Rows.KTD.datumAt k D with | some d => PyProof.Rows.KTD.Opened h Pq d | none => els) → PyProof.Rows.KTD.Each h k Pq els D
  | [], x => x
  | (y, d) :: D, x => by
    unfold PyProof.Rows.KTD.Each
    unfold PyProof.Rows.KTD.datumAt at x
    split
    · rename_i e
      rw [if_pos e] at x
      exact x
    · rename_i e
      rw [if_neg e] at x
      exact each_o x
theorem pe_tabO {X : Cx} {o e : Expr} {apos cpos : Pos} {ty : TE} {a : Addr} {D : List (Str × PyProof.Rows.KTD.Dat)} (ho : PE X o (tC (.ref a))) (he : PE X e ty) (mm : M1 X o "get" apos e cpos) (ht : TabK X.K a D) :
    PE X (.Call (.Attribute o "get" apos) [e] [] cpos) (fun σ H Q => ty σ H fun y H1 => ∃ k, y = .str k ∧ ((∃ z, PyProof.Rows.KTD.datumAt k D = some (.flat (.str z)) ∧ Q (.str z) H1) ∨ (PyProof.Rows.KTD.datumAt k D = none ∧ Q .non H1))) := by
  intro pins s σ H Q I h
  refine wpAny_Call_method mm.base mm.few mm.line PySem.F.plainAttrs_dict PySem.F.slot_dict_get PySem.F.type_dict_get (thn (ho pins s σ H (fun x H1 => x = .ref a ∧ ty σ H1 fun y H1 => ∃ k, y = .str k ∧ ((∃ z, PyProof.Rows.KTD.datumAt k D = some (.flat (.str z)) ∧ Q (.str z) H1) ∨ (PyProof.Rows.KTD.datumAt k D = none ∧ Q .non H1))) I ⟨rfl, h⟩) fun u s1 ⟨x, H1, I1, rx, ex, q1⟩ => ?_)
  subst ex
  obtain rfl : u = Value.ref a := rx
  have T1 : PyProof.Rows.KTD.Here s1.heap s1.heap a D := ⟨ht.at I1.kIn, fun _ _ e => e⟩
  refine ⟨T1.typeIs, T1.noDict, ?_⟩
  rw [mm.trees]
  refine Calls.callWith_builtin rfl (Calls.evalArgs_plain (Calls.spliced_cons (thn (he pins s1 σ H1 _ I1 q1) fun iv s2 ⟨y, H2, I2, ry, k, ek, q2⟩ => Calls.spliced_nil ?_)))
  subst ek
  obtain ⟨tk, rfl⟩ := ry
  refine PyProof.Rows.KTD.get1_text (h₀ := s2.heap) ⟨ht.at I2.kIn, fun _ _ e => e⟩ (each_o ?_)
  rcases q2 with ⟨z, hd, q2⟩ | ⟨hd, q2⟩
  · rw [hd]
    exact PyProof.Rows.KTD.opened_str fun t' => ⟨.str z, H2, I2.tok _, ⟨_, rfl⟩, q2⟩
  · rw [hd]
    exact ⟨.non, H2, I2.tok _, rfl, q2⟩
end
end K25
set_option maxHeartbeats 4000000
namespace K25
open PySem L2 Lo St
section
variable {P : Program} {w : World} {K : PySem.W.Frag} {mg : Str → Option Value} {base : Heap} {f CL CP : Addr} {fd : FuncData} {C : Kd → Addr} {CW : Wd → Addr}
def stepIs (z : Str) (wd : Wd) (ns : List Int) : Prop := z = txt wd ns ∧ Ar wd ns
theorem iS_inj {i j : Int} (hi : inV i) (hj : inV j) (e : iS i = iS j) : i = j := by
  have a1 := rd_iS hi
  rw [e, rd_iS hj] at a1
  injection a1 with a1
  injection a1 with a1
  exact a1.symm
theorem map_inj : ∀ {xs ys : List Int}, True → (∀ i ∈ xs, inV i) → (∀ i ∈ ys, inV i) → xs.map iS = ys.map iS → xs = ys
  | [], [], _, _, _, _ => rfl
  | x :: xs, y :: ys, _, h1, h2, e => by
    injection e with e1 e2
    rw [iS_inj (h1 x List.mem_cons_self) (h2 y List.mem_cons_self) e1, map_inj trivial (fun i hi => h1 i (List.mem_cons_of_mem _ hi)) (fun i hi => h2 i (List.mem_cons_of_mem _ hi)) e2]
  | [], _ :: _, _, _, _, e => by cases e
  | _ :: _, [], _, _, _, e => by cases e
theorem wS_inj {a b : Wd} (h : wS a = wS b) : a = b := by
  revert h
  cases a <;> cases b <;> first | exact fun _ => rfl | (intro h; exact absurd h (by decide +kernel))
theorem words_of {z : Str} {wd : Wd} {ns : List Int} : z = txt wd ns ↔ Txt.split z ⟨#[32]⟩ = wS wd :: ns.map iS := by
  refine ⟨fun h => by rw [h, split_txt], fun h => ?_⟩
  have e := StrLaws.join_split z ⟨#[32]⟩
  rw [h] at e
  rw [← e]
  unfold txt
  rw [sep_eq]
theorem ar0_of {wd : Wd} {ns : List Int} (hl : ns.length = (shp wd).length) (h : ∀ (k : Nat) (i : Int), ns[k]? = some i → ∃ c, (shp wd).cps.toList[k]? = some c ∧ inV i ∧ (c = 86 ∨ 0 ≤ i)) : Ar0 wd ns := by
  have h0 : ∀ {k : Nat} {i : Int} {c : Nat}, ns[k]? = some i → (shp wd).cps.toList[k]? = some c → inV i ∧ (c = 86 ∨ 0 ≤ i) := fun e1 e2 => by
    obtain ⟨c, a1, a2⟩ := h _ _ e1
    rw [e2] at a1
    cases a1
    exact a2
  have hN : ∀ {k : Nat} {i : Int} {c : Nat}, ns[k]? = some i → (shp wd).cps.toList[k]? = some c → c ≠ 86 → inN i := fun e1 e2 n => by
    obtain ⟨a1, a2⟩ := h0 e1 e2
    have a3 := a2.resolve_left n
    unfold St.inV at a1
    exact ⟨a3, by omega⟩
  cases wd
  · have len : ns.length = 2 := hl.trans (by decide +kernel)
    match ns, len with
    | [a, b], _ => exact ⟨hN (k := 0) (c := 72) rfl (by decide +kernel) (by decide), hN (k := 1) (c := 67) rfl (by decide +kernel) (by decide)⟩
  · have len : ns.length = 2 := hl.trans (by decide +kernel)
    match ns, len with
    | [a, b], _ => exact ⟨hN (k := 0) (c := 72) rfl (by decide +kernel) (by decide), hN (k := 1) (c := 67) rfl (by decide +kernel) (by decide)⟩
  · have len : ns.length = 3 := hl.trans (by decide +kernel)
    match ns, len with
    | [a, b, d], _ => exact ⟨hN (k := 0) (c := 72) rfl (by decide +kernel) (by decide), hN (k := 1) (c := 65) rfl (by decide +kernel) (by decide), hN (k := 2) (c := 66) rfl (by decide +kernel) (by decide)⟩
  · have len : ns.length = 2 := hl.trans (by decide +kernel)
    match ns, len with
    | [a, b], _ => exact ⟨hN (k := 0) (c := 72) rfl (by decide +kernel) (by decide), hN (k := 1) (c := 67) rfl (by decide +kernel) (by decide)⟩
  · have len : ns.length = 3 := hl.trans (by decide +kernel)
    match ns, len with
    | [a, b, d], _ => exact ⟨hN (k := 0) (c := 72) rfl (by decide +kernel) (by decide), hN (k := 1) (c := 67) rfl (by decide +kernel) (by decide), (h0 (k := 2) (c := 86) rfl (by decide +kernel)).1⟩
  · have len : ns.length = 1 := hl.trans (by decide +kernel)
    match ns, len with
    | [a], _ => exact (h0 (k := 0) (c := 86) rfl (by decide +kernel)).1
  · have len : ns.length = 1 := hl.trans (by decide +kernel)
    match ns, len with
    | [a], _ => exact (h0 (k := 0) (c := 86) rfl (by decide +kernel)).1
theorem shape_no {k : Str} (h : ∀ wd, k ≠ wS wd) : PyProof.Rows.KTD.datumAt k shapesD = none := by
  unfold shapesD
  repeat (unfold PyProof.Rows.KTD.datumAt; rw [if_neg (by simp only [decide_eq_true_eq]; first | exact h .take | exact h .mean | exact h .sum | exact h .give | exact h .add | exact h .plus | exact h .need)])
  rfl
theorem join_mem {c : Nat} : ∀ {ps : List (List Nat)} {p : List Nat}, p ∈ ps → (∀ x ∈ p, x ∈ Km.joinC c ps) ∧ p.length ≤ (Km.joinC c ps).length
  | [q], p, h => by
    cases List.mem_singleton.mp h
    exact ⟨fun x hx => hx, Nat.le_refl _⟩
  | q :: r :: ps, p, h => by
    rcases List.mem_cons.mp h with e | e
    · subst e
      exact ⟨fun x hx => List.mem_append_left _ hx, by show p.length ≤ (p ++ c :: Km.joinC c (r :: ps)).length; rw [List.length_append]; omega⟩
    · obtain ⟨h1, h2⟩ := join_mem (c := c) e
      exact ⟨fun x hx => List.mem_append_right _ (List.mem_cons_of_mem _ (h1 x hx)), by show p.length ≤ (q ++ c :: Km.joinC c (r :: ps)).length; rw [List.length_append, List.length_cons]; omega⟩
theorem word_np {z : Str} (np : Np z) {y : Str} (hy : y ∈ Txt.split z ⟨#[32]⟩) : Np y ∧ y.length ≤ z.length := by
  have e := Km.join_one_cs 32 (Txt.split z ⟨#[32]⟩)
  rw [StrLaws.join_split] at e
  obtain ⟨h1, h2⟩ := join_mem (c := 32) (List.mem_map.mpr ⟨y, hy, rfl⟩)
  rw [← e] at h1 h2
  refine ⟨⟨fun c hc => np.1 c (h1 c hc), fun c hc => np.2 c (h1 c hc)⟩, ?_⟩
  simpa [Str.length] using h2
def spRSt (CW : Wd → Addr) (CT : Addr) : Sp := fun vs H Q E => ∃ z, vs = [.str z] ∧ Np z ∧ z.length ≤ 100000 ∧ (∀ wd ns, stepIs z wd ns → ∀ v H', Same H H' → StO CW H' wd ns v → Q v H') ∧ ((¬ ∃ wd ns, stepIs z wd ns) → ∀ tk H', Same H H' → E (.int 0 tk) (some CT) H')
theorem ok_rstep {CN CT fI aS : Addr} {dI : FuncData} (F : Fun K "read_step" "read_step" s_read_step f fd) (B : TxB mg) (T : Ts P w K mg CN CT fI dI) (mS : mg "SHAPES" = some (.ref aS)) (tS : TabK K aS shapesD) (GN : GF P w K mg base (XA.CXA 1 P w) 25 "read_number" ["word", "letter"] (spRNu CT))
    (GS : GF P w K mg base (XA.CXA 1 P w) 23 "made_step" ["word", "numbers"] (spMadeE CW CT)) : FnOk P w K mg base (XA.CXA 1 P w) 26 f fd ["text"] (spRSt CW CT) := by
  refine XA.okA F sc_read_step (fun vs H Q E h => ?_) (fun cdv A outer s H vs Q E hr h => ?_)
  · obtain ⟨z, rfl, _⟩ := h
    rfl
  obtain ⟨z, rfl, np, hz, q, qx⟩ := h
  have nd := sc_read_step.nd
  refine ⟨_, pss_cons (ps_set (i := 1) nd rfl (Or.inr rfl) (pe_bm PySem.F.plainAttrs_str PySem.F.slot_str_split PySem.F.type_str_split mt_split1 (pv 0) (pa_cons pe_str pa_nil)))
    (pss_cons (ps_set (i := 2) nd rfl (Or.inr rfl) (pe_tabO (D := shapesD) (pe_glob (v := .ref aS) rfl mS rfl) (pe_ix (r := rIxL K) ix_list (pv 1) pe_int (fun _ _ => rfl)) ⟨rfl, rfl, rfl, rfl⟩ tS))
    (pss_cons (ps_if (PW.pt (pw_or (pt_cmpR op_isN (pv 2) pe_non (nomark _)) (pw_or1 (pt_cmpR op_ne (pe_callB call_len_seq rfl B.len PySem.boot_len (pa_cons (pv 1) pa_nil)) (pe_op op_add (pe_callB call_len_str rfl B.len PySem.boot_len (pa_cons (pv 2) pa_nil)) pe_int) (nomark _))))) (pss_one (XA.ps_raiseA XA.def_cxA rfl (hr.hd (by decide)) T.M (T.F _) T.b (hr.mono (by decide)) rfl T.mT (pa_cons pe_int pa_nil))) pss_nil)
    (pss_one (ps_ret (pe_call GS.ok (hr.mono (by decide)) rfl GS.mgx GS.kp GS.bd .nil XA.passXA (pa_cons (pe_ix (r := rIxL K) ix_list (pv 1) pe_int (fun _ _ => rfl)) (pa_cons (XA.pe_lcE XA.def_cxA sb_read_step_0 rfl (pi_range1 rfl B.range (pa_cons (pe_callB call_len_str rfl B.len PySem.boot_len (pa_cons (pv 2) pa_nil)) pa_nil))
      (fun _ _ _ _ => pe_call GN.ok hr rfl GN.mgx GN.kp GN.bd .nil XA.passB (pa_cons (pe_ix (r := rIxL K) ix_list (pv 1) (pe_op op_add (pv 0) pe_int) (fun _ _ => rfl)) (pa_cons (pe_ix ix_str (pv 2) (pv 0) (fun _ _ => rfl)) pa_nil)))) pa_nil))))))), ?_⟩
  refine ⟨_, rfl, rfl, z, 32, rfl, congrArg (fun z => [V.str z]) sep_eq, by omega, fun p hp => ?_⟩
  have s1 : Same H _ := same_new (o := .lst ((Txt.split z ⟨#[32]⟩).map V.str)) hp
  have hp1 : (upd H p (.lst ((Txt.split z ⟨#[32]⟩).map V.str))) p = some (.lst ((Txt.split z ⟨#[32]⟩).map V.str)) := upd_same
  have wnp : ∀ y ∈ Txt.split z ⟨#[32]⟩, Np y ∧ y.length ≤ z.length := fun y hy => word_np np hy
  have hst : ∀ wd ns, stepIs z wd ns ↔ (Txt.split z ⟨#[32]⟩ = wS wd :: ns.map iS ∧ Ar wd ns) := fun wd ns => and_congr_left fun _ => words_of
  have hpos := PyProof.Rows.split_pos z ⟨#[32]⟩
  generalize Txt.split z ⟨#[32]⟩ = W at s1 hp1 wnp hst hpos ⊢
  generalize (upd H p _) = H1 at s1 hp1 ⊢
  obtain ⟨w0, ws, rfl⟩ : ∃ w0 ws, W = w0 :: ws := by
    cases W with
    | nil => exact absurd hpos (by decide)
    | cons a b => exact ⟨a, b, rfl⟩
  have bad : (¬ ∃ wd ns, stepIs z wd ns) → ∀ dd tk, H1 dd = none → E (.int 0 tk) (some CT) (upd H1 dd (XA.atX 0)) := fun n dd tk hd => qx n tk _ (s1.trans (same_new hd))
  refine ⟨_, rfl, p, _, _, _, rfl, rfl, SqL.of hp1, at0, w0, rfl, ?_⟩
  by_cases hw : ∃ wd, w0 = wS wd
  · obtain ⟨wd, rfl⟩ := hw
    refine .inl ⟨shp wd, shape_at wd, ?_⟩
    refine ⟨_, rfl, rfl, _, rfl, ite2 (fun c => absurd (of_decide_eq_true c) (by intro z; cases z)) (fun _ => ?_)⟩
    refine ⟨_, rfl, p, _, rfl, .inl (SqL.of hp1), _, rfl, _, rfl, shp_line wd, _, _, rfl, rfl, rfl, _, rfl, ite2 (fun c => ?_) (fun c => ?_)⟩
    · refine ⟨0, rfl, bad fun ⟨wd', ns, h⟩ => ?_⟩
      have e := (hst wd' ns).mp h
      injection e.1 with e1 e2
      obtain rfl := wS_inj e1
      have l := shp_len e.2
      have l2 : ws.length = ns.length := by rw [e2, List.length_map]
      exact absurd c (by simp [l, l2])
    · have hl : ws.length = (shp wd).length := by
        by_cases y : ws.length = (shp wd).length
        · exact y
        · exact absurd (by simp; omega) c
      refine ⟨_, rfl, p, _, _, _, rfl, rfl, SqL.of hp1, at0, ?_⟩
      have l3 : (shp wd).length ≤ 3 := by cases wd <;> decide +kernel
      refine ⟨_, rfl, _, rfl, shp_line wd, _, rfl, by omega, by omega, ?_⟩
      have e0 : (((shp wd).length : Nat) : Int).toNat = (shp wd).length := rfl
      rw [e0]
      refine lc_range (n := (shp wd).length) (fun i ys H' => Same H1 H' ∧ ∃ ns : List Int, ys = ns.map V.int ∧ ws.take i = ns.map iS ∧ ns.length = i ∧ ∀ (k : Nat) (j : Int), ns[k]? = some j → ∃ c, (shp wd).cps.toList[k]? = some c ∧ inV j ∧ (c = 86 ∨ 0 ≤ j)) ⟨Same.refl _, [], rfl, rfl, rfl, fun k j e => by cases e⟩ (Nat.le_trans l3 (by decide)) ?_ ?_
      · rintro i ys H2 hi ⟨s2, ns, rfl, et, ln, hg⟩
        have hi2 : i < ws.length := by omega
        have hn : ws[i]? = some ws[i] := List.getElem?_eq_getElem hi2
        obtain ⟨cc, hc⟩ : ∃ cc, (shp wd).cps.toList[i]? = some cc := ⟨_, List.getElem?_eq_getElem (by simpa [Str.length] using hi)⟩
        obtain ⟨n1, n2⟩ := wnp ws[i] (List.mem_cons_of_mem _ (List.getElem_mem hi2))
        refine tAllT ⟨_, rfl, _, rfl, _, _, rfl, rfl, p, _, _, _, rfl, rfl, SqL.of (s2 _ _ hp1), ?_, _, rfl, _, rfl, _, _, _, rfl, rfl, shp_line wd, atI_nat hc, ws[i], cc, rfl, n1, by omega, fun j hj H3 s3 => ⟨s2.trans s3, ns ++ [j], ?_, ?_, ?_, fun k j2 e2 => ?_⟩, fun hno tk H3 s3 => qx (fun ⟨wd', ns', h⟩ => ?_) tk H3 (s1.trans (s2.trans s3))⟩
        · have e1 : ((i : Nat) : Int) + 1 = ((i + 1 : Nat) : Int) := rfl
          rw [e1]
          refine atI_nat ?_
          rw [List.map_cons, List.getElem?_cons_succ, List.getElem?_map, hn]
          rfl
        · rw [List.map_append]
          rfl
        · rw [List.take_add_one, hn, et, List.map_append]
          show _ ++ [ws[i]] = _ ++ [iS j]
          rw [hj.1]
        · rw [List.length_append, ln]
          rfl
        · rcases Nat.lt_or_ge k ns.length with y | y
          · rw [List.getElem?_append_left y] at e2
            exact hg k j2 e2
          · rw [List.getElem?_append_right y] at e2
            have ek : k = i := by
              have := (List.getElem?_eq_some_iff.mp e2).1
              simp at this
              omega
            subst ek
            rw [ln, Nat.sub_self] at e2
            cases e2
            exact ⟨cc, hc, hj.2.1, hj.2.2.imp of_decide_eq_true id⟩
        · have e := (hst wd' ns').mp h
          injection e.1 with e1 e2
          obtain rfl := wS_inj e1
          have hi3 : i < ns'.length := by rw [← shp_len e.2]; exact hi
          have hn' : ns'[i]? = some ns'[i] := List.getElem?_eq_getElem hi3
          obtain ⟨c2, hc2, hneg⟩ := shp_at e.2 hn'
          rw [hc] at hc2
          cases hc2
          refine hno ⟨ns'[i], ?_, e.2.all _ (List.getElem_mem hi3), ?_⟩
          · have e4 : ws[i]? = some (iS ns'[i]) := by rw [e2, List.getElem?_map, hn']; rfl
            rw [hn] at e4
            exact Option.some.inj e4
          · rcases Int.lt_or_le ns'[i] 0 with y | y
            · exact .inl (decide_eq_true (hneg y))
            · exact .inr y
      · rintro ys H2 ⟨s2, ns, rfl, et, ln, hg⟩ p2 hp2
        rw [List.take_of_length_le (by omega)] at et
        have s3 := s1.trans (s2.trans (same_new (o := .lst (ns.map V.int)) hp2))
        refine ⟨wd, p2, ns, rfl, upd_same, ar0_of ln hg, fun ar v H3 s4 st => q wd ns ((hst wd ns).mpr ⟨by rw [et], ar⟩) v H3 (s3.trans s4) st, fun nar tk H3 s4 => qx (fun ⟨wd', ns', h⟩ => ?_) tk H3 (s3.trans s4)⟩
        have e := (hst wd' ns').mp h
        injection e.1 with e1 e2
        obtain rfl := wS_inj e1
        rw [et] at e2
        have : ns = ns' := by
          refine map_inj trivial (fun i hi => ?_) (e.2.all) e2
          obtain ⟨k, hk, rfl⟩ := List.getElem_of_mem hi
          obtain ⟨_, _, h1, _⟩ := hg k _ (List.getElem?_eq_getElem hk)
          exact h1
        subst this
        exact nar e.2
  · have hw : ∀ wd, w0 ≠ wS wd := fun wd e => hw ⟨wd, e⟩
    refine .inr ⟨shape_no hw, ?_⟩
    refine ⟨_, rfl, rfl, _, rfl, ite2 (fun _ => ?_) (fun c => absurd (decide_eq_true rfl) c)⟩
    refine ⟨0, rfl, bad fun ⟨wd', ns, h⟩ => ?_⟩
    have e := ((hst wd' ns).mp h).1
    injection e with e1 e2
    exact hw wd' e1
end
end K25
set_option maxHeartbeats 1000000
namespace St
open PySem PySem.Spec PyProof.Rows L2 Lo Km PySem.NumText
def tEx {ι : Type} (t : ι → TE) : TE := fun σ H Q => ∃ i, t i σ H Q
theorem pe_ex {X : Cx} {e : Expr} {ι : Type} {t : ι → TE} (h : ∀ i, PE X e (t i)) : PE X e (tEx t) := fun pins s σ H Q I q => by
  obtain ⟨i, q⟩ := q
  exact h i pins s σ H Q I q
abbrev Stp := Wd × List Int
def StsP (CW : Wd → Addr) (H : Hp) (xs : List Stp) (us : List V) : Prop := Paired (fun (x : Stp) v => StO CW H x.1 x.2 v) xs us
theorem StsP.keep {CW : Wd → Addr} {H H' : Hp} {xs : List Stp} {us : List V} (e : Same H H') (h : StsP CW H xs us) : StsP CW H' xs us := Paired.mapP h fun _ _ z => z.keep e
def ArS (xs : List Stp) : Prop := ∀ x ∈ xs, Ar x.1 x.2
def sx (x : Stp) : Str := txt x.1 x.2
def pf (m : Str) (sl tp : Addr) : List (Str × V) := putF "parts" (.ref tp) (putF "steps" (.ref sl) (putF "manner" (.str m) []))
theorem pf_p (m : Str) (sl tp : Addr) : (pf m sl tp).lookup ("parts" : Str) = some (.ref tp) := lk_hit
theorem pf_m (m : Str) (sl tp : Addr) : (pf m sl tp).lookup ("manner" : Str) = some (.str m) := by
  unfold pf
  rw [lk_miss (by decide +kernel), lk_miss (by decide +kernel), lk_hit]
theorem pf_no {m : Str} {sl tp : Addr} {f : Str} (h1 : ¬ f = "parts") (h2 : ¬ f = "steps") (h3 : ¬ f = "manner") : (pf m sl tp).lookup f = none := by
  unfold pf
  rw [lk_miss h1, lk_miss h2, lk_miss h3]
  rfl
structure PaU (CP : Addr) (CW : Wd → Addr) (H : Hp) (m : Str) (xs : List Stp) (a dx sl tp : Addr) (us : List V) : Prop where
  ins : H a = some (.ins CP dx (pf m sl tp))
  sl : H sl = some (.lst us)
  tp : H tp = some (.tup us)
  st : StsP CW H xs us
def PaO (CP : Addr) (CW : Wd → Addr) (H : Hp) (m : Str) (xs : List Stp) (v : V) : Prop := ∃ a dx sl tp us, v = .ref a ∧ PaU CP CW H m xs a dx sl tp us
structure TxP (K : PySem.W.Frag) (CP : Addr) : Prop where
  cl : Cls K CP
  nm : NoAttr K CP "manner"
  ns : NoAttr K CP "steps"
  np : NoAttr K CP "parts"
def ptx (m : Str) (xs : List Stp) : Str := m ++ Str.ofString " " ++ Str.join (Str.ofString "; ") (xs.map sx)
theorem txt_short {x : Stp} (h : Ar x.1 x.2) : (sx x).length ≤ 1000 := by
  obtain ⟨wd, ns⟩ := x
  have e2 : (txt wd ns).cps.toList = joinC 32 ((wS wd :: ns.map iS).map fun y => y.cps.toList) := by
    unfold txt
    rw [sep_eq]
    exact join_one_cs 32 _
  have e3 : (txt wd ns).length = (txt wd ns).cps.toList.length := by simp [Str.length]
  have h1 := joinC_len 32 ((wS wd :: ns.map iS).map fun y => y.cps.toList)
  have h2 := words_sum (w := wd) (ns := ns) h
  have e4 : ((wS wd :: ns.map iS).map fun y => y.cps.toList).map (·.length) = (wS wd :: ns.map iS).map (·.length) := by
    rw [List.map_map]
    refine List.map_congr_left fun y _ => ?_
    simp [Str.length]
  have e5 : (Str.ofString " ").length = 1 := by decide +kernel
  rw [e4, List.length_map] at h1
  rw [e5, Nat.mul_one] at h2
  show (txt wd ns).length ≤ 1000
  rw [e3, e2]
  omega
theorem join_len (y : Str) : ∀ ys : List Str, (Str.join y ys).length ≤ (ys.map (·.length)).sum + ys.length * y.length
  | [] => Nat.zero_le _
  | [x] => by simp [Str.join]
  | a :: u :: ys => by
    have ih := join_len y (u :: ys)
    rw [join_cons_cons]
    have e : (a ++ y ++ Str.join y (u :: ys)).length = a.length + y.length + (Str.join y (u :: ys)).length := by
      show ((a.cps ++ y.cps) ++ (Str.join y (u :: ys)).cps).size = _
      rw [Array.size_append, Array.size_append]
      rfl
    rw [e, List.map_cons, List.sum_cons, List.length_cons (a := a), Nat.succ_mul]
    omega
theorem sep2 : Str.ofString "; " = ⟨#[59, 32]⟩ := by decide +kernel
theorem sx_sum {xs : List Stp} (h : ArS xs) : ((xs.map sx).map (·.length)).sum ≤ xs.length * 1000 := by
  have := sum_le (ys := xs.map sx) (k := 1000) fun y hy => by
    obtain ⟨x, hx, rfl⟩ := List.mem_map.mp hy
    exact txt_short (h x hx)
  rw [List.length_map] at this
  exact this
theorem join_short {xs : List Stp} (h : ArS xs) (hl : xs.length ≤ 20) : (Str.join (Str.ofString "; ") (xs.map sx)).length ≤ 30000 := by
  have h1 := join_len (Str.ofString "; ") (xs.map sx)
  have h2 := sx_sum h
  have e : (Str.ofString "; ").length = 2 := by decide +kernel
  rw [e, List.length_map] at h1
  omega
def mS (b : Bool) : Str := if b then "walked" else "held"
theorem mS_len (b : Bool) : (mS b).length ≤ 6 := by cases b <;> decide +kernel
section
variable (CP : Addr) (CW : Wd → Addr)
def spPInit : Sp := fun vs H Q _ => ∃ l dx m q us, vs = [.ref l, .str m, .ref q] ∧ H l = some (.ins CP dx []) ∧ H q = some (.lst us) ∧ ∀ sl tp H', H' l = some (.ins CP dx (pf m sl tp)) → H' sl = some (.lst us) → H' tp = some (.tup us) → H sl = none → H tp = none → Kp l H H' → Q .non H'
def spPSp : Sp := fun vs H Q _ => ∃ v b xs, vs = [v] ∧ PaO CP CW H (mS b) xs v ∧ ArS xs ∧ xs.length ≤ 20 ∧ ∀ H', Same H H' → Q (.str (ptx (mS b) xs)) H'
end
end St
set_option maxHeartbeats 4000000
namespace K25
open PySem L2 Lo St
section
variable {P : Program} {w : World} {K : PySem.W.Frag} {mg : Str → Option Value} {base : Heap} {f CL CP : Addr} {fd : FuncData} {C : Kd → Addr} {CW : Wd → Addr}
def spShown : Sp := fun vs H Q _ => (∃ i, vs = [.int i] ∧ i.natAbs.log2 < 1920 ∧ Q (.str (Str.ofString (toString i))) H) ∨ False
theorem ok_shown (F : Fun K "shown" "shown" s_shown f fd) (B : TxB mg) (GW : GF P w K mg base CX0 1 "is_whole" ["thing"] spWh) : FnOk P w K mg base CX0 2 f fd ["thing"] spShown := by
  refine F.ok sc_shown (fun vs H Q E h => ?_) (fun cdv A outer s H vs Q E hr h => ?_)
  · rcases h with ⟨i, rfl, _⟩ | h
    · rfl
    · exact h.elim
  refine ⟨_, pss_cons (ps_if (pt_val (pc GW hr (pa_cons (pv 0) pa_nil))) (pss_one (ps_ret (pe_callTy call_str_int rfl B.str PyProof.Rows.boot_str (pa_cons (pv 0) pa_nil)))) pss_nil) pss_never, ?_⟩
  rcases h with ⟨i, rfl, hl, q⟩ | h
  · exact ⟨_, rfl, _, _, rfl, rfl, _, rfl, iteT ⟨_, rfl, _, rfl, hl, q⟩⟩
  · exact h.elim
theorem ok_spell (F : Fun K "spell" "spell" s_spell f fd) (GS : GF P w K mg base CX0 2 "shown" ["thing"] spShown) : FnOk P w K mg base CX0 3 f fd ["word", "numbers"] spSpell := by
  refine F.ok sc_spell (fun vs H Q E h => ?_) (fun cdv A outer s H vs Q E hr h => ?_)
  · obtain ⟨wd, b, ns, rfl, _⟩ := h
    rfl
  obtain ⟨wd, b, ns, rfl, hb, ar, q⟩ := h
  have hl3 := ar.len
  refine ⟨_, pss_one (ps_ret (pe_bm PySem.F.plainAttrs_str PySem.F.slot_str_join PySem.F.type_str_join mt_join pe_str (pa_cons (pe_op op_cat (pe_lst (pa_cons (pv 0) pa_nil)) (pe_lc sb_spell_0 rfl (pi_list (pv 1)) (fun _ _ _ _ => pts_nil) (fun _ _ _ _ => pc GS hr (pa_cons (pv 0) pa_nil)))) pa_nil))), ?_⟩
  refine ⟨rfl, _, rfl, (by show 1 ≤ sizeLine; decide), fun l hl => ?_⟩
  have s1 : Same H _ := same_new (o := .lst [.str (wS wd)]) hl
  refine ⟨_, rfl, b, rfl, ⟨_, SqL.of (s1 _ _ hb)⟩, ?_⟩
  refine lc_ints (g := fun i => V.str (iS i)) (ns := ns) (SqL.of (s1 _ _ hb)) (Nat.le_trans hl3.2 (by decide)) (fun i H1 Q hi s2 h => ?_) (fun H1 s2 p hp => ?_)
  · exact ⟨_, rfl, .inl ⟨i, rfl, log_v (ar.all i hi), h H1 (Same.refl _)⟩⟩
  · have el : H1 l = some (.lst [.str (wS wd)]) := s2 _ _ upd_same
    refine ⟨l, p, _, _, rfl, rfl, same_new hp _ _ el, upd_same, ?_, fun p2 hp2 => ?_⟩
    · have h5 : (ns.map fun i => V.str (iS i)).length = ns.length := List.length_map _
      have h6 : ([V.str (wS wd)] : List V).length = 1 := rfl
      have h7 : (4 : Nat) ≤ sizeLine := by decide
      omega
    · have e : ([V.str (wS wd)] ++ ns.map fun i => V.str (iS i)) = (wS wd :: ns.map iS).map V.str := by simp
      refine ⟨_, p2, wS wd :: ns.map iS, rfl, rfl, SqL.of (by rw [upd_same, e]), Nat.le_trans (words_sum ar) (by decide), ?_⟩
      exact q _ (s1.trans (s2.trans ((same_new hp).trans (same_new hp2))))
theorem ok_ptake (F : Fun K "spelled" "TakeStep.spelled" m_TakeStep_spelled f fd) (W : TxW K CW) (GP : GF P w K mg base CX0 3 "spell" ["word", "numbers"] spSpell) : FnOk P w K mg base CX0 4 f fd ["self"] (spSpelled CW .take) := by
  refine F.ok sc_TakeStep_spelled (fun vs H Q E h => ?_) (fun cdv A outer s H vs Q E hr h => ?_)
  · obtain ⟨v, ns, rfl, _⟩ := h
    rfl
  obtain ⟨v, ns, rfl, ar, ⟨a, dx, rfl, ha⟩, q⟩ := h
  obtain ⟨x, y, rfl, _, _, e⟩ := ar.c rfl
  rw [e] at ha
  refine ⟨_, pss_one (ps_ret (pc GP hr (pa_cons pe_str (pa_cons (pe_lst (pa_cons (pe_fld (pv 0) rfl) (pa_cons (pe_fld (pv 0) rfl) pa_nil))) pa_nil)))), ?_⟩
  refine ⟨_, rfl, a, _, dx, _, _, rfl, ha, W.cl _, W.nW _, (by show (putF "cell" _ (putF "where" _ [])).lookup _ = _; rw [lk_miss (by decide +kernel), lk_hit]), _, rfl, a, _, dx, _, _, rfl, ha, W.cl _, W.nC _, (by show (putF "cell" _ (putF "where" _ [])).lookup _ = _; rw [lk_hit]), (by show 2 ≤ sizeLine; decide), fun l hl => ?_⟩
  exact ⟨.take, l, _, rfl, upd_same, ar, fun H' s' => q H' ((same_new hl).trans s')⟩
theorem ok_pmean (F : Fun K "spelled" "MeanStep.spelled" m_MeanStep_spelled f fd) (W : TxW K CW) (GP : GF P w K mg base CX0 3 "spell" ["word", "numbers"] spSpell) : FnOk P w K mg base CX0 4 f fd ["self"] (spSpelled CW .mean) := by
  refine F.ok sc_MeanStep_spelled (fun vs H Q E h => ?_) (fun cdv A outer s H vs Q E hr h => ?_)
  · obtain ⟨v, ns, rfl, _⟩ := h
    rfl
  obtain ⟨v, ns, rfl, ar, ⟨a, dx, rfl, ha⟩, q⟩ := h
  obtain ⟨x, y, rfl, _, _, e⟩ := ar.c rfl
  rw [e] at ha
  refine ⟨_, pss_one (ps_ret (pc GP hr (pa_cons pe_str (pa_cons (pe_lst (pa_cons (pe_fld (pv 0) rfl) (pa_cons (pe_fld (pv 0) rfl) pa_nil))) pa_nil)))), ?_⟩
  refine ⟨_, rfl, a, _, dx, _, _, rfl, ha, W.cl _, W.nW _, (by show (putF "cell" _ (putF "where" _ [])).lookup _ = _; rw [lk_miss (by decide +kernel), lk_hit]), _, rfl, a, _, dx, _, _, rfl, ha, W.cl _, W.nC _, (by show (putF "cell" _ (putF "where" _ [])).lookup _ = _; rw [lk_hit]), (by show 2 ≤ sizeLine; decide), fun l hl => ?_⟩
  exact ⟨.mean, l, _, rfl, upd_same, ar, fun H' s' => q H' ((same_new hl).trans s')⟩
theorem ok_pgive (F : Fun K "spelled" "GiveStep.spelled" m_GiveStep_spelled f fd) (W : TxW K CW) (GP : GF P w K mg base CX0 3 "spell" ["word", "numbers"] spSpell) : FnOk P w K mg base CX0 4 f fd ["self"] (spSpelled CW .give) := by
  refine F.ok sc_GiveStep_spelled (fun vs H Q E h => ?_) (fun cdv A outer s H vs Q E hr h => ?_)
  · obtain ⟨v, ns, rfl, _⟩ := h
    rfl
  obtain ⟨v, ns, rfl, ar, ⟨a, dx, rfl, ha⟩, q⟩ := h
  obtain ⟨x, y, rfl, _, _, e⟩ := ar.c rfl
  rw [e] at ha
  refine ⟨_, pss_one (ps_ret (pc GP hr (pa_cons pe_str (pa_cons (pe_lst (pa_cons (pe_fld (pv 0) rfl) (pa_cons (pe_fld (pv 0) rfl) pa_nil))) pa_nil)))), ?_⟩
  refine ⟨_, rfl, a, _, dx, _, _, rfl, ha, W.cl _, W.nW _, (by show (putF "cell" _ (putF "where" _ [])).lookup _ = _; rw [lk_miss (by decide +kernel), lk_hit]), _, rfl, a, _, dx, _, _, rfl, ha, W.cl _, W.nC _, (by show (putF "cell" _ (putF "where" _ [])).lookup _ = _; rw [lk_hit]), (by show 2 ≤ sizeLine; decide), fun l hl => ?_⟩
  exact ⟨.give, l, _, rfl, upd_same, ar, fun H' s' => q H' ((same_new hl).trans s')⟩
theorem ok_psum (F : Fun K "spelled" "SumStep.spelled" m_SumStep_spelled f fd) (W : TxW K CW) (GP : GF P w K mg base CX0 3 "spell" ["word", "numbers"] spSpell) : FnOk P w K mg base CX0 4 f fd ["self"] (spSpelled CW .sum) := by
  refine F.ok sc_SumStep_spelled (fun vs H Q E h => ?_) (fun cdv A outer s H vs Q E hr h => ?_)
  · obtain ⟨v, ns, rfl, _⟩ := h
    rfl
  obtain ⟨v, ns, rfl, ar, ⟨a, dx, rfl, ha⟩, q⟩ := h
  obtain ⟨x, y, z0, rfl, _⟩ := ar.s
  refine ⟨_, pss_one (ps_ret (pc GP hr (pa_cons pe_str (pa_cons (pe_lst (pa_cons (pe_fld (pv 0) rfl) (pa_cons (pe_fld (pv 0) rfl) (pa_cons (pe_fld (pv 0) rfl) pa_nil)))) pa_nil)))), ?_⟩
  refine ⟨_, rfl, a, _, dx, _, _, rfl, ha, W.cl _, W.nW _, (by show (putF "high" _ (putF "low" _ (putF "where" _ []))).lookup _ = _; rw [lk_miss (by decide +kernel), lk_miss (by decide +kernel), lk_hit]), _, rfl, a, _, dx, _, _, rfl, ha, W.cl _, W.nL _, (by show (putF "high" _ (putF "low" _ (putF "where" _ []))).lookup _ = _; rw [lk_miss (by decide +kernel), lk_hit]), _, rfl, a, _, dx, _, _, rfl, ha, W.cl _, W.nH _, (by show (putF "high" _ (putF "low" _ (putF "where" _ []))).lookup _ = _; rw [lk_hit]), (by show 3 ≤ sizeLine; decide), fun l hl => ?_⟩
  exact ⟨.sum, l, _, rfl, upd_same, ar, fun H' s' => q H' ((same_new hl).trans s')⟩
theorem ok_padd (F : Fun K "spelled" "AddStep.spelled" m_AddStep_spelled f fd) (W : TxW K CW) (GP : GF P w K mg base CX0 3 "spell" ["word", "numbers"] spSpell) : FnOk P w K mg base CX0 4 f fd ["self"] (spSpelled CW .add) := by
  refine F.ok sc_AddStep_spelled (fun vs H Q E h => ?_) (fun cdv A outer s H vs Q E hr h => ?_)
  · obtain ⟨v, ns, rfl, _⟩ := h
    rfl
  obtain ⟨v, ns, rfl, ar, ⟨a, dx, rfl, ha⟩, q⟩ := h
  obtain ⟨x, y, z0, rfl, _⟩ := ar.a
  refine ⟨_, pss_one (ps_ret (pc GP hr (pa_cons pe_str (pa_cons (pe_lst (pa_cons (pe_fld (pv 0) rfl) (pa_cons (pe_fld (pv 0) rfl) (pa_cons (pe_fld (pv 0) rfl) pa_nil)))) pa_nil)))), ?_⟩
  refine ⟨_, rfl, a, _, dx, _, _, rfl, ha, W.cl _, W.nW _, (by show (putF "amount" _ (putF "cell" _ (putF "where" _ []))).lookup _ = _; rw [lk_miss (by decide +kernel), lk_miss (by decide +kernel), lk_hit]), _, rfl, a, _, dx, _, _, rfl, ha, W.cl _, W.nC _, (by show (putF "amount" _ (putF "cell" _ (putF "where" _ []))).lookup _ = _; rw [lk_miss (by decide +kernel), lk_hit]), _, rfl, a, _, dx, _, _, rfl, ha, W.cl _, W.nA _, (by show (putF "amount" _ (putF "cell" _ (putF "where" _ []))).lookup _ = _; rw [lk_hit]), (by show 3 ≤ sizeLine; decide), fun l hl => ?_⟩
  exact ⟨.add, l, _, rfl, upd_same, ar, fun H' s' => q H' ((same_new hl).trans s')⟩
theorem ok_pplus (F : Fun K "spelled" "PlusStep.spelled" m_PlusStep_spelled f fd) (W : TxW K CW) (GP : GF P w K mg base CX0 3 "spell" ["word", "numbers"] spSpell) : FnOk P w K mg base CX0 4 f fd ["self"] (spSpelled CW .plus) := by
  refine F.ok sc_PlusStep_spelled (fun vs H Q E h => ?_) (fun cdv A outer s H vs Q E hr h => ?_)
  · obtain ⟨v, ns, rfl, _⟩ := h
    rfl
  obtain ⟨v, ns, rfl, ar, ⟨a, dx, rfl, ha⟩, q⟩ := h
  obtain ⟨x, rfl, _⟩ := ar.p
  refine ⟨_, pss_one (ps_ret (pc GP hr (pa_cons pe_str (pa_cons (pe_lst (pa_cons (pe_fld (pv 0) rfl) pa_nil)) pa_nil)))), ?_⟩
  refine ⟨_, rfl, a, _, dx, _, _, rfl, ha, W.cl _, W.nA _, (by show (putF "amount" _ []).lookup _ = _; rw [lk_hit]), (by show 1 ≤ sizeLine; decide), fun l hl => ?_⟩
  exact ⟨.plus, l, _, rfl, upd_same, ar, fun H' s' => q H' ((same_new hl).trans s')⟩
theorem ok_pneed (F : Fun K "spelled" "NeedStep.spelled" m_NeedStep_spelled f fd) (W : TxW K CW) (GP : GF P w K mg base CX0 3 "spell" ["word", "numbers"] spSpell) : FnOk P w K mg base CX0 4 f fd ["self"] (spSpelled CW .need) := by
  refine F.ok sc_NeedStep_spelled (fun vs H Q E h => ?_) (fun cdv A outer s H vs Q E hr h => ?_)
  · obtain ⟨v, ns, rfl, _⟩ := h
    rfl
  obtain ⟨v, ns, rfl, ar, ⟨a, dx, rfl, ha⟩, q⟩ := h
  obtain ⟨x, rfl, _⟩ := ar.n
  refine ⟨_, pss_one (ps_ret (pc GP hr (pa_cons pe_str (pa_cons (pe_lst (pa_cons (pe_fld (pv 0) rfl) pa_nil)) pa_nil)))), ?_⟩
  refine ⟨_, rfl, a, _, dx, _, _, rfl, ha, W.cl _, W.nA _, (by show (putF "amount" _ []).lookup _ = _; rw [lk_hit]), (by show 1 ≤ sizeLine; decide), fun l hl => ?_⟩
  exact ⟨.need, l, _, rfl, upd_same, ar, fun H' s' => q H' ((same_new hl).trans s')⟩
theorem ok_painit (F : Fun K "__init__" "Pact.__init__" m_Pact_init f fd) (B : TxB mg) (T : TxP K CP) : FnOk P w K mg base CX0 1 f fd ["self", "manner", "steps"] (spPInit CP) := by
  refine F.ok sc_Pact_init (fun vs H Q E h => ?_) (fun cdv A outer s H vs Q E hr h => ?_)
  · obtain ⟨l, dx, m, q, us, rfl, _⟩ := h
    rfl
  obtain ⟨l, dx, m, q, us, rfl, hl, hq, qr⟩ := h
  refine ⟨_, pss_cons (ps_fld (pv 0) (pv 1) rfl) (pss_cons (ps_fld (pv 0) (pe_callTy call_list_of rfl B.list PyProof.Rows.boot_list (pa_cons (pv 2) pa_nil)) rfl)
    (pss_one (ps_fld (pv 0) (pe_callTy call_tuple_of rfl B.tuple PyProof.Rows.boot_tuple (pa_cons (pv 2) pa_nil)) rfl))), ?_⟩
  have nlq : q ≠ l := fun z => by rw [z, hl] at hq; cases hq
  refine ⟨_, rfl, _, rfl, l, CP, dx, [], rfl, hl, T.cl, T.nm, (by show 0 < 1000; decide), ?_⟩
  have k1 : Kp l H (upd H l (.ins CP dx (putF "manner" (.str m) []))) := kp_upd
  have hl1 : (upd H l (.ins CP dx (putF "manner" (.str m) []))) l = some (.ins CP dx (putF "manner" (.str m) [])) := upd_same
  have hq1 := k1 _ _ nlq hq
  generalize (upd H l (HO.ins CP dx (putF "manner" (.str m) []))) = H1 at k1 hl1 hq1 ⊢
  refine ⟨_, rfl, q, us, rfl, .inl (SqL.of hq1), fun sl hsl => ?_⟩
  have s2 := same_new (o := .lst us) hsl
  have nl : l ≠ sl := ne_of_none hl1 hsl
  refine ⟨_, rfl, l, CP, dx, _, rfl, s2 _ _ hl1, T.cl, T.ns, (by show 1 < 1000; decide), ?_⟩
  have k2 : Kp l H1 (upd (upd H1 sl (.lst us)) l (.ins CP dx (putF "steps" (.ref sl) (putF "manner" (.str m) [])))) := (Kp.of s2).trans kp_upd
  have hl2 : (upd (upd H1 sl (.lst us)) l (.ins CP dx (putF "steps" (.ref sl) (putF "manner" (.str m) [])))) l = some (.ins CP dx (putF "steps" (.ref sl) (putF "manner" (.str m) []))) := upd_same
  have hs2 : (upd (upd H1 sl (.lst us)) l (.ins CP dx (putF "steps" (.ref sl) (putF "manner" (.str m) [])))) sl = some (.lst us) := by rw [upd_ne (Ne.symm nl)]; exact upd_same
  have hq2 := k2 _ _ nlq hq1
  generalize (upd (upd H1 sl (.lst us)) l (HO.ins CP dx (putF "steps" (.ref sl) (putF "manner" (.str m) [])))) = H2 at k2 hl2 hs2 hq2 ⊢
  refine ⟨_, rfl, q, us, rfl, .inl ⟨SqL.of hq2, fun tp htp => ?_⟩⟩
  have s3 := same_new (o := .tup us) htp
  have nl3 : l ≠ tp := ne_of_none hl2 htp
  refine ⟨_, rfl, l, CP, dx, _, rfl, s3 _ _ hl2, T.cl, T.np, Nat.lt_of_le_of_lt (length_putF _ _ _) (by show 1 + 1 < 1000; decide), ?_⟩
  have k3 : Kp l H2 (upd (upd H2 tp (.tup us)) l (.ins CP dx (pf m sl tp))) := (Kp.of s3).trans kp_upd
  refine qr sl tp _ upd_same (k3 _ _ (Ne.symm nl) hs2) (by rw [upd_ne (Ne.symm nl3)]; exact upd_same) ?_ ?_ ((k1.trans k2).trans k3)
  · cases e : H sl with
    | none => rfl
    | some o => rw [k1 _ _ (Ne.symm nl) e] at hsl; cases hsl
  · cases e : H tp with
    | none => rfl
    | some o => rw [(k1.trans k2) _ _ (Ne.symm nl3) e] at htp; cases htp
theorem ok_pasp (F : Fun K "spelled" "Pact.spelled" m_Pact_spelled f fd) (B : TxB mg) (T : TxP K CP) (W : TxW K CW) (GP : ∀ wd, GM P w K mg base CX0 4 (CW wd) "spelled" ["self"] (spSpelled CW wd)) : FnOk P w K mg base CX0 5 f fd ["self"] (spPSp CP CW) := by
  refine F.ok sc_Pact_spelled (fun vs H Q E h => ?_) (fun cdv A outer s H vs Q E hr h => ?_)
  · obtain ⟨v, b, xs, rfl, _⟩ := h
    rfl
  obtain ⟨v, b, xs, rfl, ⟨a, dx, sl, tp, us, rfl, pa⟩, ar, hl, q⟩ := h
  refine ⟨_, pss_one (ps_ret (pe_op op_add_str (pe_op op_add_str (pe_fld (pv 0) rfl) pe_str) (pe_bm PySem.F.plainAttrs_str PySem.F.slot_str_join PySem.F.type_str_join mt_join pe_str (pa_cons (pe_lc sb_Pact_spelled_0 rfl (pi_tup (pe_fld (pv 0) rfl)) (fun _ _ _ _ => pts_nil) (fun _ _ _ _ => pe_ex fun wd => pm0 (GP wd) (pv 0) (W.cl wd) hr)) pa_nil)))), ?_⟩
  have ml := mS_len b
  have l1 : (Str.ofString " ").length = 1 := by decide +kernel
  have l2 : (Str.ofString "; ").length = 2 := by decide +kernel
  have hs : (100000 : Nat) ≤ sizeLine := by decide
  refine ⟨_, rfl, a, CP, dx, _, _, rfl, pa.ins, T.cl, T.nm, pf_m _ _ _, _, _, rfl, rfl, by rw [l1]; omega, ?_⟩
  refine ⟨rfl, _, rfl, a, CP, dx, _, _, rfl, pa.ins, T.cl, T.np, pf_p _ _ _, tp, rfl, ⟨_, SqT.of pa.tp⟩, ?_⟩
  have pl : xs.length = us.length := pa.st.len
  refine lc_tup (xs := us) (fun i ys H1 => Same H H1 ∧ ys = ((xs.take i).map sx).map V.str) ⟨Same.refl _, rfl⟩ (by omega) (fun i ys H1 _ z => SqT.of (z.1 _ _ pa.tp)) ?_ ?_
  · rintro i u ys H1 hu ⟨s1, rfl⟩
    obtain ⟨x, ex, sa, sdx, rfl, hsa⟩ := pa.st.get hu
    have hx := List.mem_of_getElem? ex
    have f1 := fs_no (m := "spelled") (by decide +kernel) (by decide +kernel) (by decide +kernel) (by decide +kernel) (by decide +kernel) x.1 x.2
    refine tAllT ⟨x.1, _, rfl, sa, sdx, _, rfl, s1 _ _ hsa, f1, _, x.2, rfl, ar x hx, ⟨sa, sdx, rfl, s1 _ _ hsa⟩, fun H2 s2 => ⟨s1.trans s2, ?_⟩⟩
    have et : xs.take (i + 1) = xs.take i ++ [x] := by rw [List.take_add_one, ex]; rfl
    rw [et, List.map_append, List.map_append]
    rfl
  · rintro ys H1 ⟨s1, rfl⟩ p hp
    rw [← pl, List.take_length]
    have sm := sx_sum ar
    refine ⟨_, p, xs.map sx, rfl, rfl, SqL.of upd_same, by rw [l2, List.length_map]; omega, ?_⟩
    have js := join_short ar hl
    refine ⟨_, _, rfl, rfl, ?_, q _ (s1.trans (same_new hp))⟩
    have : (mS b ++ Str.ofString " ").length = (mS b).length + (Str.ofString " ").length := by
      show ((mS b).cps ++ (Str.ofString " ").cps).size = _
      rw [Array.size_append]
      rfl
    rw [this, l1]
    omega
def spRPt (CW : Wd → Addr) (CT : Addr) : Sp := fun vs H Q E => ∃ z k, vs = [.str z, .int k] ∧ Np z ∧ z.length ≤ 100000 ∧ (∀ wd ns, stepIs z wd ns → ∀ v H', Same H H' → StO CW H' wd ns v → Q v H') ∧ ((¬ ∃ wd ns, stepIs z wd ns) → ∀ tk H', Same H H' → E (.int k tk) (some CT) H')
theorem ok_rpart {CN CT fI : Addr} {dI : FuncData} (F : Fun K "read_part" "read_part" s_read_part f fd) (T : Ts P w K mg CN CT fI dI) (GS : GF P w K mg base (XA.CXA 1 P w) 26 "read_step" ["text"] (spRSt CW CT)) : FnOk P w K mg base (XA.CXA 2 P w) 27 f fd ["text", "number"] (spRPt CW CT) := by
  refine XA.okA F sc_read_part (fun vs H Q E h => ?_) (fun cdv A outer s H vs Q E hr h => ?_)
  · obtain ⟨z, k, rfl, _⟩ := h
    rfl
  obtain ⟨z, k, rfl, np, hz, q, qx⟩ := h
  refine ⟨_, pss_one (XA.ps_tryRetF (d := 1) (by decide) XA.def_cxA (XA.pexA_call GS.ok hr rfl GS.mgx GS.kp GS.bd (pa_cons (pv 0) pa_nil)) rfl T.mT T.M (fun Bh _ => T.F Bh) T.b (fun ev => room_mark hr (by decide)) rfl T.mT (fun ev => pa_cons (pv 1) pa_nil)), ?_⟩
  exact ⟨_, rfl, z, rfl, np, hz, q, fun n tk H1 s1 => ⟨CT, rfl, XA.match_J T.M.own T.sT, _, rfl, k, rfl, fun dd tk2 hdd => qx n tk2 _ (s1.trans (same_new hdd))⟩⟩
end
end K25
set_option maxHeartbeats 4000000
namespace K25
open PySem L2 Lo St
section
variable {P : Program} {w : World} {K : PySem.W.Frag} {mg : Str → Option Value} {base : Heap} {f CL CP : Addr} {fd : FuncData} {C : Kd → Addr} {CW : Wd → Addr}
def isSt (z : Str) : Prop := ∃ wd ns, stepIs z wd ns
open Classical in
noncomputable def stB (z : Str) : Bool := decide (isSt z)
open Classical in
theorem stB_t {z : Str} : stB z = true ↔ isSt z := by
  unfold stB
  exact decide_eq_true_iff
noncomputable def badAt (ps : List Str) : Option Nat := ps.findIdx? fun y => !stB y
def parts (z : Str) : List Str := Txt.split (Txt.partition z ⟨#[32]⟩).2.2 ⟨#[59, 32]⟩
def noHead (z : Str) : Prop := (Txt.partition z ⟨#[32]⟩).2.1 = Str.ofString "" ∨ ((Txt.partition z ⟨#[32]⟩).1 ≠ Str.ofString "held" ∧ (Txt.partition z ⟨#[32]⟩).1 ≠ Str.ofString "walked") ∨ 12 < (parts z).length
open Classical in
noncomputable def dueO (z : Str) : Option Int := if noHead z then some (-1) else (badAt (parts z)).map fun k => (k : Int)
theorem due_head {z : Str} (h : noHead z) : dueO z = some (-1) := if_pos h
theorem due_bad {z : Str} {k : Nat} {y : Str} (h : ¬ noHead z) (hk : (parts z)[k]? = some y) (hb : ¬ isSt y) (ha : ∀ (j : Nat) (x : Str), j < k → (parts z)[j]? = some x → isSt x) : dueO z = some (k : Int) := by
  unfold dueO
  rw [if_neg h]
  have : badAt (parts z) = some k := by
    unfold badAt
    rw [List.findIdx?_eq_some_iff_getElem]
    obtain ⟨hl, e⟩ := List.getElem?_eq_some_iff.mp hk
    refine ⟨hl, ?_, fun j hj => ?_⟩
    · rw [e]
      simp only [Bool.not_eq_true']
      cases z : stB y with
      | false => rfl
      | true => exact absurd (stB_t.mp z) hb
    · have := stB_t.mpr (ha j _ hj (List.getElem?_eq_getElem (by omega)))
      simp [this]
  rw [this]
  rfl
theorem due_all {z : Str} (h : ¬ noHead z) (ha : ∀ y ∈ parts z, isSt y) : dueO z = none := by
  unfold dueO
  rw [if_neg h]
  have : badAt (parts z) = none := by
    unfold badAt
    rw [List.findIdx?_eq_none_iff]
    intro y hy
    simp [stB_t.mpr (ha y hy)]
  rw [this]
  rfl
theorem part_bl (z : Str) : (Txt.partition z ⟨#[32]⟩).2.1 = Str.ofString "" ∨ (Txt.partition z ⟨#[32]⟩).2.1 = ⟨#[32]⟩ := by
  unfold Txt.partition
  cases Builtin.Str.occurrences z ⟨#[32]⟩ 0 z.length 1 with
  | nil => exact .inl (show Str.empty = Str.ofString "" by decide +kernel)
  | cons i r => exact .inr rfl
theorem join_memS {sep : Str} : ∀ {ys : List Str} {y : Str}, y ∈ ys → (∀ c ∈ y.cps.toList, c ∈ (Str.join sep ys).cps.toList) ∧ y.length ≤ (Str.join sep ys).length
  | [q], y, h => by
    have e : Str.join sep [q] = q := by simp [Str.join]
    rw [List.mem_singleton.mp h, e]
    exact ⟨fun _ hc => hc, Nat.le_refl _⟩
  | q :: r :: ys, y, h => by
    rw [PyProof.Rows.join_cons_cons]
    have el : (q ++ sep ++ Str.join sep (r :: ys)).length = q.length + sep.length + (Str.join sep (r :: ys)).length := by
      show ((q.cps ++ sep.cps) ++ (Str.join sep (r :: ys)).cps).size = _
      rw [Array.size_append, Array.size_append]
      rfl
    have ec : (q ++ sep ++ Str.join sep (r :: ys)).cps.toList = q.cps.toList ++ sep.cps.toList ++ (Str.join sep (r :: ys)).cps.toList := by
      show ((q.cps ++ sep.cps) ++ (Str.join sep (r :: ys)).cps).toList = _
      rw [Array.toList_append, Array.toList_append]
    rw [el, ec]
    rcases List.mem_cons.mp h with e | e
    · subst e
      exact ⟨fun c hc => List.mem_append_left _ (List.mem_append_left _ hc), by omega⟩
    · obtain ⟨h1, h2⟩ := join_memS (sep := sep) e
      exact ⟨fun c hc => List.mem_append_right _ (h1 c hc), by omega⟩
theorem part_np {z : Str} (np : Np z) {y : Str} (hy : y ∈ parts z) : Np y ∧ y.length ≤ z.length := by
  have e := StrLaws.join_split (Txt.partition z ⟨#[32]⟩).2.2 ⟨#[59, 32]⟩
  obtain ⟨h1, h2⟩ := join_memS (sep := ⟨#[59, 32]⟩) hy
  have h1 : ∀ c ∈ y.cps.toList, c ∈ (Txt.partition z ⟨#[32]⟩).2.2.cps.toList := by rw [← e]; exact h1
  have h2 : y.length ≤ (Txt.partition z ⟨#[32]⟩).2.2.length := by rw [← e]; exact h2
  have es := StrLaws.partition_sum z ⟨#[32]⟩
  have ec : z.cps.toList = (Txt.partition z ⟨#[32]⟩).1.cps.toList ++ (Txt.partition z ⟨#[32]⟩).2.1.cps.toList ++ (Txt.partition z ⟨#[32]⟩).2.2.cps.toList := by
    conv => lhs; rw [← es]
    show (((Txt.partition z ⟨#[32]⟩).1.cps ++ (Txt.partition z ⟨#[32]⟩).2.1.cps) ++ (Txt.partition z ⟨#[32]⟩).2.2.cps).toList = _
    rw [Array.toList_append, Array.toList_append]
  have hm : ∀ c ∈ y.cps.toList, c ∈ z.cps.toList := fun c hc => by rw [ec]; exact List.mem_append_right _ (h1 c hc)
  exact ⟨⟨fun c hc => np.1 c (hm c hc), fun c hc => np.2 c (hm c hc)⟩, Nat.le_trans h2 (PyProof.Rows.fact_partition z ⟨#[32]⟩).2.2⟩
theorem ptx_of {z : Str} {b : Bool} {xs : List Stp} (h1 : (Txt.partition z ⟨#[32]⟩).1 = mS b) (h2 : (Txt.partition z ⟨#[32]⟩).2.1 = ⟨#[32]⟩) (h3 : parts z = xs.map sx) : z = ptx (mS b) xs := by
  have e := StrLaws.join_split (Txt.partition z ⟨#[32]⟩).2.2 ⟨#[59, 32]⟩
  have e2 : Str.join ⟨#[59, 32]⟩ (parts z) = (Txt.partition z ⟨#[32]⟩).2.2 := e
  have es := StrLaws.partition_sum z ⟨#[32]⟩
  rw [← es, h1, h2, ← e2, h3]
  unfold ptx
  rw [sep_eq, sep2]
def spRPa (CP : Addr) (CW : Wd → Addr) (CT : Addr) : Sp := fun vs H Q E => ∃ z, vs = [.str z] ∧ Np z ∧ z.length ≤ 90000 ∧ (∀ v b xs H', dueO z = none → Same H H' → PaO CP CW H' (mS b) xs v → z = ptx (mS b) xs → ArS xs → xs.length ≤ 12 → Q v H') ∧ (∀ n tk H', dueO z = some n → Same H H' → E (.int n tk) (some CT) H')
theorem ok_rpact {CN CT fT : Addr} {dT : FuncData} (F : Fun K "read_pact" "read_pact" s_read_pact f fd) (B : TxB mg) (T : Ts P w K mg CN CT fT dT) {aM : Addr} (mM : mg "MANNERS" = some (.ref aM)) (tM : ∀ H, SqT K H aM [.str "held", .str "walked"]) (cM : ∃ t, mg "MOST_STEPS" = some (.int 12 t)) {fI : Addr} {dI : FuncData} (MP : Mk K CP fI) (mgP : mg "Pact" = some (.ref CP))
    (GI : FnOk P w K mg base CX0 1 fI dI ["self", "manner", "steps"] (spPInit CP)) (bI : Binds K dI ["self", "manner", "steps"] []) (GR : GF P w K mg base (XA.CXA 2 P w) 27 "read_part" ["text", "number"] (spRPt CW CT)) : FnOk P w K mg base (XA.CXA 2 P w) 28 f fd ["text"] (spRPa CP CW CT) := by
  refine XA.okA F sc_read_pact (fun vs H Q E h => ?_) (fun cdv A outer s H vs Q E hr h => ?_)
  · obtain ⟨z, rfl, _⟩ := h
    rfl
  obtain ⟨z, rfl, np, hz, q, qx⟩ := h
  obtain ⟨tM0, cM⟩ := cM
  have nd := sc_read_pact.nd
  have hr1 : Room (1 + 1) _ := hr.mono (by decide)
  refine ⟨_, pss_cons (ps_set (i := 1) nd rfl (Or.inl rfl) (pe_bm PySem.F.plainAttrs_str PySem.F.slot_str_partition PySem.F.type_str_partition mt_part (pv 0) (pa_cons pe_str pa_nil)))
    (pss_cons (ps_if (PW.pt (pw_or (pt_cmpR (op_notinC cStr (hun hr)) (pe_ix (r := rIxT K) ix_tup (pv 1) pe_int (fun _ _ => rfl)) (pe_glob (v := .ref aM) rfl mM rfl) rfl) (pw_or1 (pt_cmpR op_eq (pe_ix (r := rIxT K) ix_tup (pv 1) pe_int (fun _ _ => rfl)) pe_str (nomark _))))) (pss_one (XA.ps_raiseA XA.def_cxA rfl (hr.hd (by decide)) T.M (T.F _) T.b (hr.mono (by decide)) rfl T.mT (pa_cons (pe_un un_neg pe_int) pa_nil))) pss_nil)
    (pss_cons (ps_set (i := 2) nd rfl (Or.inr rfl) (pe_bm PySem.F.plainAttrs_str PySem.F.slot_str_split PySem.F.type_str_split mt_splitS (pe_ix (r := rIxT K) ix_tup (pv 1) pe_int (fun _ _ => rfl)) (pa_cons pe_str pa_nil)))
    (pss_cons (ps_if (pt_cmpR op_gt (pe_callB call_len_seq rfl B.len PySem.boot_len (pa_cons (pv 2) pa_nil)) (pe_glob (v := .int 12) rfl cM ⟨_, rfl⟩) (nomark _)) (pss_one (XA.ps_raiseA XA.def_cxA rfl (hr.hd (by decide)) T.M (T.F _) T.b (hr.mono (by decide)) rfl T.mT (pa_cons (pe_un un_neg pe_int) pa_nil))) pss_nil)
    (pss_one (ps_ret (pe_make MP GI hr1 rfl mgP bI .nil pass0 (pa_cons (pe_ix (r := rIxT K) ix_tup (pv 1) pe_int (fun _ _ => rfl)) (pa_cons (XA.pe_lcE XA.def_cxA sb_read_pact_0 rfl (pi_range1 rfl B.range (pa_cons (pe_callB call_len_seq rfl B.len PySem.boot_len (pa_cons (pv 2) pa_nil)) pa_nil))
      (fun _ _ _ _ => pe_call GR.ok hr rfl GR.mgx GR.kp GR.bd .nil XA.passB (pa_cons (pe_ix (r := rIxL K) ix_list (pv 1) (pv 0) (fun _ _ => rfl)) (pa_cons (pv 0) pa_nil)))) pa_nil)))))))), ?_⟩
  have hs : (100000 : Nat) ≤ sizeLine := by decide
  refine ⟨_, rfl, rfl, z, ⟨#[32]⟩, rfl, congrArg (fun y => [V.str y]) sep_eq, (by decide +kernel), (by omega), fun p hp => ?_⟩
  have s1 := same_new (o := .tup [.str (Txt.partition z ⟨#[32]⟩).1, .str (Txt.partition z ⟨#[32]⟩).2.1, .str (Txt.partition z ⟨#[32]⟩).2.2]) hp
  have hp1 : (upd H p (.tup [.str (Txt.partition z ⟨#[32]⟩).1, .str (Txt.partition z ⟨#[32]⟩).2.1, .str (Txt.partition z ⟨#[32]⟩).2.2])) p = some (.tup [.str (Txt.partition z ⟨#[32]⟩).1, .str (Txt.partition z ⟨#[32]⟩).2.1, .str (Txt.partition z ⟨#[32]⟩).2.2]) := upd_same
  generalize (upd H p (.tup [.str (Txt.partition z ⟨#[32]⟩).1, .str (Txt.partition z ⟨#[32]⟩).2.1, .str (Txt.partition z ⟨#[32]⟩).2.2])) = H1 at s1 hp1 ⊢
  refine ⟨_, rfl, p, _, _, _, rfl, rfl, SqT.of hp1, St.at0, (Txt.partition z ⟨#[32]⟩).1, aM, _, ["held", "walked"], rfl, rfl, .inr (tM H1), .cons rfl (.cons rfl .nil), _, rfl, ite2 (fun c => ?_) (fun c => ?_)⟩
  · refine ⟨1, rfl, -1, rfl, fun dd tk hdd => qx (-1) tk _ (due_head (.inr (.inl ?_))) (s1.trans (same_new hdd))⟩
    have c : ¬ (Txt.partition z ⟨#[32]⟩).1 ∈ (["held", "walked"] : List Str) := of_decide_eq_false (by simpa using c)
    exact ⟨fun e => c (by rw [e]; exact List.mem_cons_self), fun e => c (by rw [e]; exact List.mem_cons_of_mem _ List.mem_cons_self)⟩
  refine ⟨_, rfl, p, _, _, _, rfl, rfl, SqT.of hp1, St.at1, rfl, _, rfl, ite2 (fun c1 => ?_) (fun c1 => ?_)⟩
  · exact ⟨1, rfl, -1, rfl, fun dd tk hdd => qx (-1) tk _ (due_head (.inl (V.str.inj (of_decide_eq_true c1)))) (s1.trans (same_new hdd))⟩
  obtain ⟨b, hm⟩ : ∃ b, (Txt.partition z ⟨#[32]⟩).1 = mS b := by
    have c : (Txt.partition z ⟨#[32]⟩).1 ∈ (["held", "walked"] : List Str) := by
      by_cases y : (Txt.partition z ⟨#[32]⟩).1 ∈ (["held", "walked"] : List Str)
      · exact y
      · exact absurd (by simpa using y) c
    rcases List.mem_cons.mp c with e | e
    · exact ⟨false, e⟩
    · exact ⟨true, List.mem_singleton.mp e⟩
  have hbl : (Txt.partition z ⟨#[32]⟩).2.1 = ⟨#[32]⟩ := (part_bl z).resolve_left fun e => c1 (decide_eq_true (congrArg V.str e))
  refine ⟨_, rfl, p, _, _, _, rfl, rfl, SqT.of hp1, St.at2, rfl, (Txt.partition z ⟨#[32]⟩).2.2, ⟨#[59, 32]⟩, rfl, congrArg (fun y => [V.str y]) sep2, (by decide), (by have := (PyProof.Rows.fact_partition z ⟨#[32]⟩).2.2; omega), fun tl htl => ?_⟩
  have s2 := same_new (o := .lst ((parts z).map V.str)) htl
  have ht2 : (upd H1 tl (.lst ((parts z).map V.str))) tl = some (.lst ((parts z).map V.str)) := upd_same
  have hp2 := s2 _ _ hp1
  show (_ : Prop)
  have e9 : (Txt.split (Txt.partition z ⟨#[32]⟩).2.2 ⟨#[59, 32]⟩) = parts z := rfl
  rw [e9]
  generalize (upd H1 tl (HO.lst ((parts z).map V.str))) = H2 at s2 ht2 hp2 ⊢
  have s02 := s1.trans s2
  have ll : ((parts z).map V.str).length = (parts z).length := List.length_map _
  refine ⟨_, rfl, tl, _, rfl, .inl (SqL.of ht2), _, _, rfl, rfl, _, rfl, ite2 (fun c2 => ?_) (fun c2 => ?_)⟩
  · have c2 : (12 : Int) < ((((parts z).map V.str).length : Nat) : Int) := of_decide_eq_true c2
    exact ⟨1, rfl, -1, rfl, fun dd tk hdd => qx (-1) tk _ (due_head (.inr (.inr (by omega)))) (s02.trans (same_new hdd))⟩
  have hl12 : (parts z).length ≤ 12 := by
    have c2 : ¬ (12 : Int) < ((((parts z).map V.str).length : Nat) : Int) := fun y => c2 (decide_eq_true y)
    omega
  have nh : ¬ noHead z := fun y => by
    rcases y with y | ⟨y1, y2⟩ | y
    · rw [hbl] at y
      exact absurd y (by decide +kernel)
    · cases b
      · exact y1 hm
      · exact y2 hm
    · omega
  refine ⟨_, rfl, p, _, _, _, rfl, rfl, SqT.of hp2, St.at0, ?_⟩
  refine ⟨_, rfl, tl, _, rfl, .inl (SqL.of ht2), _, rfl, by omega, by omega, ?_⟩
  have e0 : ((((parts z).map V.str).length : Nat) : Int).toNat = (parts z).length := by rw [ll]; rfl
  rw [e0]
  refine lc_range (n := (parts z).length) (fun i ys H' => Same H2 H' ∧ ∃ xs : List Stp, (parts z).take i = xs.map sx ∧ ArS xs ∧ StsP CW H' xs ys ∧ xs.length = i) ⟨Same.refl _, [], rfl, (fun x hx => by cases hx), .nil, rfl⟩ (by omega) ?_ ?_
  · rintro i ys H3 hi ⟨s3, xs, et, ar, ps, ln⟩
    have hx : (parts z)[i]? = some (parts z)[i] := List.getElem?_eq_getElem hi
    obtain ⟨n1, n2⟩ := part_np np (List.getElem_mem hi)
    refine tAllT ⟨_, rfl, _, rfl, tl, _, _, _, rfl, rfl, SqL.of (s3 _ _ ht2), atI_nat (by rw [List.getElem?_map, hx]; rfl), _, rfl, (parts z)[i], _, rfl, n1, by omega, fun wd ns hst v H4 s4 sv => ⟨s3.trans s4, xs ++ [(wd, ns)], ?_, ?_, (ps.keep s4).app (.cons sv .nil), ?_⟩, fun hno tk H4 s4 => qx _ tk H4 (due_bad nh hx hno fun j x hj ex => ?_) (s02.trans (s3.trans s4))⟩
    · rw [List.take_add_one, hx, et, List.map_append]
      show _ ++ [(parts z)[i]] = _ ++ [sx (wd, ns)]
      rw [hst.1]
      rfl
    · intro x hm
      rcases List.mem_append.mp hm with y | y
      · exact ar x y
      · cases List.mem_singleton.mp y
        exact hst.2
    · rw [List.length_append, ln]
      rfl
    · have e3 : ((parts z).take i)[j]? = some x := by rw [List.getElem?_take_of_lt hj]; exact ex
      rw [et, List.getElem?_map] at e3
      obtain ⟨u, hu, rfl⟩ := Option.map_eq_some_iff.mp e3
      exact ⟨u.1, u.2, rfl, ar u (List.mem_of_getElem? hu)⟩
  · rintro ys H3 ⟨s3, xs, et, ar, ps, ln⟩ l hl3
    rw [List.take_length] at et
    have s4 := same_new (o := .lst ys) hl3
    have h4 : (upd H3 l (.lst ys)) l = some (.lst ys) := upd_same
    have ps4 := ps.keep s4
    generalize (upd H3 l (HO.lst ys)) = H4 at s4 h4 ps4 ⊢
    intro x dx nx ndx nex
    refine ⟨x, dx, _, l, ys, rfl, upd_same, (by rw [upd_ne (ne_of_none h4 nx), upd_ne (ne_of_none h4 ndx)]; exact h4), fun sl tp H5 e1 e2 e3 n1 n2 k => ⟨rfl, ?_⟩⟩
    have s5 := mk_kp nx ndx k
    rw [hm] at e1
    refine q _ b xs H5 (due_all nh fun y hy => ?_) (s02.trans (s3.trans (s4.trans s5))) ⟨x, dx, sl, tp, ys, rfl, e1, e2, e3, ps4.keep s5⟩ (ptx_of hm hbl et) ar (by omega)
    rw [et] at hy
    obtain ⟨u, hu, rfl⟩ := List.mem_map.mp hy
    exact ⟨u.1, u.2, rfl, ar u hu⟩
end
end K25
set_option maxHeartbeats 4000000
namespace K25
open PySem L2 Lo St
section
variable {P : Program} {w : World} {K : PySem.W.Frag} {mg : Str → Option Value} {base : Heap} {f CL CP : Addr} {fd : FuncData} {C : Kd → Addr} {CW : Wd → Addr}
theorem for_str {z : Str} {g : TG} {tb : TS} {D : Ends} {σ : L2.St} {H : Hp} (Pv : Nat → L2.St → Hp → Prop) (h0 : Pv 0 σ H)
    (hs : ∀ (i c : Nat) σ H, z.cps.toList[i]? = some c → Pv i σ H → g (.str ⟨#[c]⟩) σ H fun σ2 H2 => tb { D with nx := Pv (i + 1), ct := Pv (i + 1), bk := D.nx } σ2 H2) (hd : ∀ σ H, Pv z.length σ H → D.nx σ H) :
    ∃ W : Nat → Nat → L2.St → Hp → Prop, (∃ m, W 0 m σ H) ∧ ∀ i m σ H, W i m σ H →
      ((Its z).stop i H ∧ D.nx σ H) ∨ ((Its z).go i H ∧ ∃ N : L2.St → Hp → Prop, (∀ σ' H', N σ' H' → ∃ m', m' < m ∧ W (i + 1) m' σ' H') ∧ ∀ x H', (Its z).yld i H x H' → g x σ H' fun σ2 H2 => tb { D with nx := N, ct := N, bk := D.nx } σ2 H2) := by
  refine ⟨fun i m σ H => m = z.length - i ∧ i ≤ z.length ∧ Pv i σ H, ⟨z.length, by simp, Nat.zero_le _, h0⟩, ?_⟩
  rintro i m σ H ⟨rfl, hi, p⟩
  by_cases hlt : i < z.length
  · refine .inr ⟨hlt, Pv (i + 1), fun σ' H' p' => ⟨z.length - (i + 1), by omega, rfl, hlt, p'⟩, fun x H' y => ?_⟩
    obtain ⟨e, c, hc, rfl⟩ := y
    subst e
    exact hs i c σ _ hc p
  · have e : i = z.length := by omega
    subst e
    exact .inl ⟨Nat.le_refl _, hd σ H p⟩
def figs (cs : List Nat) (b : Bool) : List Nat := if cs.head? = some 45 ∧ b = true then cs.tail else cs
def isN (cs : List Nat) (b : Bool) : Prop := figs cs b ≠ [] ∧ (figs cs b).length ≤ 40 ∧ NumText.AllDigits (figs cs b) ∧ (cs = [48] ∨ (figs cs b).head? ≠ some 48)
theorem isN_iff {z : Str} {b : Bool} : isN z.cps.toList b ↔ ∃ i, good z b i := by
  constructor
  · rintro ⟨h1, h2, h3, h4⟩
    have lt := Km.digitsVal_lt _ h3
    have lt40 := Nat.lt_of_lt_of_le lt (Nat.pow_le_pow_right (by decide) h2)
    unfold figs at h1 h2 h3 h4 lt lt40
    split at h1
    · rename_i hc
      rw [if_pos hc] at h2 h3 h4 lt lt40
      have ez := Km.head_of hc.1
      have h4 : z.cps.toList.tail.head? ≠ some 48 := h4.resolve_left fun e => by rw [e] at hc; exact absurd hc.1 (by decide)
      have nd : Km.NumDs z.cps.toList.tail := ⟨h3, h1, by omega, .inr fun c r e => fun e2 => h4 (by rw [e, e2]; rfl)⟩
      have dg := Km.digs_of nd
      have n0 : NumText.digitsVal z.cps.toList.tail ≠ 0 := fun e => by
        rw [e, Km.digs_zero] at dg
        exact h4 (by rw [← dg]; rfl)
      refine ⟨-((NumText.digitsVal z.cps.toList.tail : Nat) : Int), iS_of ?_, ?_, .inl hc.2⟩
      · unfold Km.numCs
        rw [if_pos (by omega)]
        have e : (-((NumText.digitsVal z.cps.toList.tail : Nat) : Int)).natAbs = NumText.digitsVal z.cps.toList.tail := by omega
        rw [e, dg]
        exact ez
      · show Int.natAbs _ < _
        have e : (-((NumText.digitsVal z.cps.toList.tail : Nat) : Int)).natAbs = NumText.digitsVal z.cps.toList.tail := by omega
        rw [e]
        exact lt40
    · rename_i hc
      rw [if_neg hc] at h2 h3 h4 lt lt40
      have nd : Km.NumDs z.cps.toList := ⟨h3, h1, by omega, h4.imp id fun h c r e e2 => h (by rw [e, e2]; rfl)⟩
      refine ⟨((NumText.digitsVal z.cps.toList : Nat) : Int), iS_of ?_, lt40, .inr (by omega)⟩
      unfold Km.numCs
      rw [if_neg (by omega)]
      exact (Km.digs_of nd).symm
  · rintro ⟨i, rfl, hv, hb⟩
    have dl := Km.digs_len (m := i.natAbs) (k := 40) (by decide) hv
    have da := Km.digs_all i.natAbs
    have dn : Km.digs i.natAbs ≠ [] := fun e => by
      have := Km.digs_val i.natAbs
      cases hz : i.natAbs with
      | zero => rw [hz, Km.digs_zero] at e; cases e
      | succ m =>
        rw [e] at this
        rw [hz] at this
        exact absurd this (by show (0 : Nat) ≠ m + 1; omega)
    rw [iS_cs]
    unfold isN figs Km.numCs
    by_cases hi : i < 0
    · rw [if_pos hi]
      have hb : b = true := hb.resolve_right (by omega)
      rw [if_pos ⟨rfl, hb⟩]
      refine ⟨dn, dl, da, .inr fun e => ?_⟩
      exact Km.digs_head i.natAbs (by omega) 48 _ (Km.head_of e) rfl
    · rw [if_neg hi]
      have nh : ¬ ((Km.digs i.natAbs).head? = some 45 ∧ b = true) := fun e => by
        have := da 45 (by rw [Km.head_of e.1]; exact List.mem_cons_self)
        omega
      rw [if_neg nh]
      refine ⟨dn, dl, da, ?_⟩
      by_cases h0 : i.natAbs = 0
      · rw [h0]
        exact .inl Km.digs_zero
      · exact .inr fun e => Km.digs_head i.natAbs h0 48 _ (Km.head_of e) rfl
theorem dig_in : ∀ c : Nat, c < 128 → (Builtin.Str.occurrences (Str.ofString "0123456789") ⟨#[c]⟩ 0 (Str.ofString "0123456789").length 1).isEmpty = !(decide (48 ≤ c) && decide (c ≤ 57)) := by decide +kernel
theorem slice_mem {x : Str} {lo hi : Option Int} {c : Nat} (h : c ∈ (Txt.slice x lo hi).cps.toList) : c ∈ x.cps.toList := by
  unfold Txt.slice at h
  split at h
  · exact h
  · rw [show ∀ l : List Nat, (Str.mk l.toArray).cps.toList = l from fun _ => rfl] at h
    obtain ⟨i, _, e⟩ := List.mem_filterMap.mp h
    exact Array.mem_toList_iff.mpr (Array.mem_of_getElem? e)
theorem cut_to {z : Str} {A B : List Nat} {i : Int} (e : z.cps.toList = A ++ B) (hi : i = ((A.length : Nat) : Int)) : Txt.slice z none (some i) = ⟨A.toArray⟩ := by
  subst hi
  have hl : z.cps.toList.length = A.length + B.length := by rw [e]; simp
  rw [eq_of_beq (PyProof.Rows.slice_closes_to (x := z) (j := ((A.length : Nat) : Int)) ⟨by omega, by omega⟩)]
  refine K25T.str_ext ?_
  have e1 : (((A.length : Nat) : Int) - 0).toNat = A.length := by omega
  have e2 : (0 : Int).toNat = 0 := rfl
  rw [e1, e2, List.drop_zero, e, List.take_left]
theorem cut_from {z : Str} {A B : List Nat} {i : Int} (e : z.cps.toList = A ++ B) (hi : i = ((A.length : Nat) : Int)) : Txt.slice z (some i) none = ⟨B.toArray⟩ := by
  subst hi
  have hl : z.cps.toList.length = A.length + B.length := by rw [e]; simp
  have hl2 := K25T.len_cps z
  rw [eq_of_beq (PyProof.Rows.slice_closes_fromL (x := z) (i := ((A.length : Nat) : Int)) (b := ((z.length : Nat) : Int)) (by omega) (by omega) rfl)]
  refine K25T.str_ext ?_
  have e1 : (((z.length : Nat) : Int) - ((A.length : Nat) : Int)).toNat = B.length := by omega
  have e2 : (((A.length : Nat) : Int)).toNat = A.length := by omega
  rw [e1, e2, e, List.drop_left, List.take_length]
theorem sl_one {z : Str} : Txt.slice z none (some 1) = Str.ofString "-" ↔ z.cps.toList.head? = some 45 := by
  have e : (Str.ofString "-") = ⟨#[45]⟩ := by decide +kernel
  rw [e]
  cases h : z.cps.toList with
  | nil =>
    refine ⟨fun q => ?_, fun q => by cases q⟩
    have := slice_mem (x := z) (lo := none) (hi := some 1) (c := 45) (by rw [q]; simp)
    rw [h] at this
    cases this
  | cons c r =>
    rw [cut_to (i := 1) (A := [c]) (B := r) h rfl]
    simp
theorem sl_rest {z : Str} : (Txt.slice z (some 1) none).cps.toList = z.cps.toList.tail := by
  cases h : z.cps.toList with
  | nil =>
    cases h2 : (Txt.slice z (some 1) none).cps.toList with
    | nil => rfl
    | cons c r =>
      have := slice_mem (x := z) (lo := some 1) (hi := none) (c := c) (by rw [h2]; exact List.mem_cons_self)
      rw [h] at this
      cases this
  | cons c r => rw [cut_from (i := 1) (A := [c]) (B := r) h rfl]; simp
open Classical in
noncomputable def numB (z : Str) (b : Bool) : Bool := decide (∃ i, good z b i)
open Classical in
theorem numB_t {z : Str} {b : Bool} : numB z b = true ↔ ∃ i, good z b i := by
  unfold numB
  exact decide_eq_true_iff
theorem numB_f {z : Str} {b : Bool} (h : ¬ ∃ i, good z b i) : numB z b = false := by
  cases e : numB z b with
  | false => rfl
  | true => exact absurd (numB_t.mp e) h
theorem ps_weak {X : Cx} {st : Stmt} {t t' : TS} (h : PS X st t) (hw : ∀ D σ H, t' D σ H → t D σ H) : PS X st t' := fun pins s σ H D I q => h pins s σ H D I (hw D σ H q)
def tFig : TS := fun D σ H => ∃ z b x3, σ = [some (.str z), some (.bl b), some (.str z), x3] ∧ z.length ≤ 100000 ∧ ∀ fz : Str, fz.cps.toList = figs z.cps.toList b → D.nx [some (.str z), some (.bl b), some (.str fz), x3] H
def spIsN : Sp := fun vs H Q _ => ∃ z b, vs = [.str z, .bl b] ∧ Np z ∧ z.length ≤ 100000 ∧ Q (.bl (numB z b)) H
theorem ok_isnum (F : Fun K "_law_is_number" "_law_is_number" s__law_is_number f fd) (B : TxB mg) : FnOk P w K mg base CX0 1 f fd ["_law_word", "_law_below"] spIsN := by
  refine F.ok sc__law_is_number (fun vs H Q E h => ?_) (fun cdv A outer s H vs Q E hr h => ?_)
  · obtain ⟨z, b, rfl, _⟩ := h
    rfl
  obtain ⟨z, b, rfl, np, hz, q⟩ := h
  have nd := sc__law_is_number.nd
  refine ⟨_, pss_cons (ps_set (i := 2) nd rfl (Or.inl rfl) (pv 0))
    (pss_cons (ps_weak (t' := tFig) (ps_if (PW.pt (pw_and (pt_cmpR op_eq (pe_slice sl_str (pv 0) po_none (po_some pe_int)) pe_str (nomark _)) (pw_and1 (pt_val (pv 1))))) (pss_one (ps_set (i := 2) nd rfl (Or.inl rfl) (pe_slice sl_str (pv 0) (po_some pe_int) po_none))) pss_nil) ?hw)
    (pss_cons (ps_if (PW.pt (pw_or (pt_cmpR op_eq (pv 2) pe_str (nomark _)) (pw_or1 (pt_cmpR op_gt (pe_callB call_len_str rfl B.len PySem.boot_len (pa_cons (pv 2) pa_nil)) pe_int (nomark _))))) (pss_one (ps_ret pe_bl)) pss_nil)
    (pss_cons (ps_for PassesOwn.never rfl (pi_str (pv 2)) (pg_name (i := 3) nd rfl (Or.inl rfl)) (pss_one (ps_if (pt_cmpR op_notin_str (pv 3) pe_str rfl) (pss_one (ps_ret pe_bl)) pss_nil)))
    (pss_one (ps_ret (pe_or (pe_cmpR op_eq (pv 0) pe_str (nomark _)) (pe_one (pe_cmpR op_ne (pe_ix ix_str (pv 2) pe_int (fun _ _ => rfl)) pe_str (nomark _))))))))), ?_⟩
  case hw =>
    rintro D σ H1 ⟨z, b, x3, rfl, hz, k⟩
    have hs : (100000 : Nat) ≤ sizeLine := by decide
    refine ⟨_, rfl, _, rfl, z, rfl, by omega, rfl, _, rfl, ite2 (fun c => ?_) (fun c => ?_)⟩
    · have c : z.cps.toList.head? = some 45 := sl_one.mp (V.str.inj (of_decide_eq_true c))
      refine ⟨_, rfl, _, rfl, ?_⟩
      cases b with
      | false => exact iteF (k z (by unfold figs; rw [if_neg (by simp)]))
      | true => exact iteT ⟨_, rfl, _, rfl, z, rfl, by omega, k _ (by unfold figs; rw [if_pos ⟨c, rfl⟩]; exact sl_rest)⟩
    · exact k z (by unfold figs; rw [if_neg fun h => c (decide_eq_true (congrArg V.str (sl_one.mpr h.1)))])
  have hs : (100000 : Nat) ≤ sizeLine := by decide
  refine ⟨_, rfl, z, b, none, rfl, hz, fun fz hf => ?_⟩
  have hlen : fz.length = (figs z.cps.toList b).length := by rw [← hf]; simp [Str.length]
  have hle : (figs z.cps.toList b).length ≤ z.length := by
    unfold figs
    split
    · rw [List.length_tail]
      simp [Str.length]
    · simp [Str.length]
  have no : ¬ isN z.cps.toList b → Q (.bl false) H := fun h => by
    rw [numB_f fun e => h (isN_iff.mpr e)] at q
    exact q
  refine ⟨_, rfl, rfl, _, rfl, ite2 (fun c => ?_) (fun c => ?_)⟩
  · have c : fz = Str.ofString "" := V.str.inj (of_decide_eq_true c)
    exact no fun h => h.1 (by rw [← hf, c]; decide +kernel)
  refine ⟨_, rfl, fz, rfl, by omega, _, _, rfl, rfl, _, rfl, ite2 (fun c1 => ?_) (fun c1 => ?_)⟩
  · have c1 : (40 : Int) < ((fz.length : Nat) : Int) := of_decide_eq_true c1
    exact no fun h => by
      have := h.2.1
      omega
  have c1 : ¬ (40 : Int) < ((fz.length : Nat) : Int) := fun y => c1 (decide_eq_true y)
  refine ⟨_, rfl, fz, rfl, ?_⟩
  refine for_str (z := fz) (fun i σ H' => H' = H ∧ (∀ c ∈ fz.cps.toList.take i, 48 ≤ c ∧ c ≤ 57) ∧ ∃ x3, σ = [some (.str z), some (.bl b), some (.str fz), x3]) ⟨rfl, (fun c hc => by cases hc), none, rfl⟩ ?_ ?_
  · rintro i c σ H1 hc ⟨rfl, hd, x3, rfl⟩
    have hm : c ∈ z.cps.toList := by
      have hm := List.mem_of_getElem? hc
      rw [hf] at hm
      unfold figs at hm
      split at hm
      · exact List.mem_of_mem_tail hm
      · exact hm
    have hdg := dig_in c (np.1 c hm)
    refine ⟨_, rfl, _, _, rfl, rfl, _, rfl, ite2 (fun c2 => ?_) (fun c2 => ?_)⟩
    · rw [hdg] at c2
      refine no fun h => ?_
      have := h.2.2.1 c (by rw [← hf]; exact List.mem_of_getElem? hc)
      simp [this.1, this.2] at c2
    · rw [hdg] at c2
      refine ⟨rfl, fun d hm2 => ?_, _, rfl⟩
      rw [List.take_add_one, hc] at hm2
      rcases List.mem_append.mp hm2 with y | y
      · exact hd d y
      · have e : d = c := by simpa using y
        subst e
        simpa using c2
  · rintro σ H1 ⟨rfl, hd, x3, rfl⟩
    rw [List.take_of_length_le (by simp [Str.length])] at hd
    have z0 : Str.ofString "0" = ⟨#[48]⟩ := by decide +kernel
    have yes : (z.cps.toList = [48] ∨ (figs z.cps.toList b).head? ≠ some 48) → numB z b = true := fun h => numB_t.mpr (isN_iff.mp ⟨fun e => c (decide_eq_true (congrArg V.str (K25T.str_ext (by rw [hf, e]; decide +kernel)))), by omega, by rw [← hf]; exact hd, h⟩)
    refine ⟨_, rfl, rfl, _, rfl, ite2 (fun c2 => ?_) (fun c2 => ?_)⟩
    · have c2 : z = Str.ofString "0" := V.str.inj (of_decide_eq_true c2)
      have e := yes (.inl (by rw [c2]; decide +kernel))
      rw [e] at q
      exact q
    · have c2 : ¬ z = Str.ofString "0" := fun y => c2 (decide_eq_true (congrArg V.str y))
      obtain ⟨d, r, hdr⟩ : ∃ d r, fz.cps.toList = d :: r := by
        cases y : fz.cps.toList with
        | nil => exact absurd (decide_eq_true (congrArg V.str (K25T.str_ext (by rw [y]; decide +kernel)))) c
        | cons d r => exact ⟨d, r, rfl⟩
      refine ⟨_, rfl, _, _, _, rfl, rfl, by omega, atI_nat (j := 0) (by rw [hdr]; rfl), rfl, ?_⟩
      by_cases h48 : d = 48
      · have e : numB z b = false := numB_f fun y => by
          have := (isN_iff.mpr y).2.2.2
          rcases this with y1 | y1
          · exact c2 (K25T.str_ext (by rw [y1]; decide +kernel))
          · exact y1 (by rw [← hf, hdr, h48]; rfl)
        rw [e] at q
        rw [decide_eq_true (show V.str ⟨#[d]⟩ = V.str (Str.ofString "0") by rw [z0, h48])]
        exact q
      · have e := yes (.inr (by rw [← hf, hdr]; intro y; exact h48 (Option.some.inj y)))
        rw [e] at q
        rw [decide_eq_false (show ¬ V.str ⟨#[d]⟩ = V.str (Str.ofString "0") by rw [z0]; intro y; injection y with y; injection y with y; simp at y; exact h48 y)]
        exact q
end
end K25
set_option maxHeartbeats 4000000
namespace K25
open PySem L2 Lo St
section
variable {P : Program} {w : World} {K : PySem.W.Frag} {mg : Str → Option Value} {base : Heap} {f CL CP : Addr} {fd : FuncData} {C : Kd → Addr} {CW : Wd → Addr}
def manyK : List (Key × V) := [(.inr "take", .int 3), (.inr "mean", .int 3), (.inr "give", .int 3), (.inr "sum", .int 4), (.inr "add", .int 4), (.inr "plus", .int 2), (.inr "need", .int 2)]
theorem many_at (wd : Wd) : valV (mergeK [] manyK) (.inr (wS wd)) = some (.int (((shp wd).length : Nat) + 1)) := by cases wd <;> kernel_rfl
theorem many_no {k : Str} (h : ∀ wd, k ≠ wS wd) : valV (mergeK [] manyK) (.inr k) = none := by
  have e : mergeK [] manyK = manyK := by kernel_rfl
  rw [e]
  have n : ∀ wd, ¬ ((Sum.inr (wS wd) : Key) = Sum.inr k) := fun wd y => h wd (Sum.inr.inj y).symm
  unfold manyK
  rw [valV_neg (n .take), valV_neg (n .mean), valV_neg (n .give), valV_neg (n .sum), valV_neg (n .add), valV_neg (n .plus), valV_neg (n .need)]
  rfl
theorem ar0_ne {wd : Wd} {ns : List Int} (h : Ar0 wd ns) (n : wd ≠ .sum) : Ar wd ns := by
  cases wd <;> first | exact absurd rfl n | exact h
theorem int_iS {i : Int} (h : inN i) : PySem.intText? (iS i) = some i := by
  have e : (iS i).cps.toList = Km.digs i.natAbs := by
    rw [iS_cs]
    unfold Km.numCs
    rw [if_neg (by have := h.1; omega)]
  have hl := iS_len h.v
  have dn : (iS i).cps.toList ≠ [] := by
    intro y
    have g := isN_iff.mpr ⟨i, (⟨rfl, h.v, .inr h.1⟩ : good (iS i) false i)⟩
    refine g.1 ?_
    rw [y]
    rfl
  have := PySem.intText_digits (x := iS i) (by rw [e]; exact Km.digs_all _) dn (by omega)
  rw [this, e, Km.digs_val]
  congr 1
  have := h.1
  omega
theorem lt1 {wd : Wd} {i cc : Nat} (h : (shp wd).length = 1) (hc : (shp wd).cps.toList[i]? = some cc) : cc = 86 := by
  revert h hc
  cases wd
  all_goals intro h hc
  all_goals first | exact absurd h (by decide +kernel) | skip
  all_goals
    rcases i with _ | i
    · exact (Option.some.inj hc).symm
    · cases hc
theorem lt2 {i cc : Nat} (hc : (shp .add).cps.toList[i]? = some cc) : cc = 86 ↔ i = 2 := by
  rcases i with _ | _ | _ | i
  · cases Option.some.inj hc
    decide
  · cases Option.some.inj hc
    decide
  · cases Option.some.inj hc
    decide
  · cases hc
theorem lt3 {wd : Wd} {i cc : Nat} (h : (shp wd).length ≠ 1) (ha : wd ≠ .add) (hc : (shp wd).cps.toList[i]? = some cc) : cc ≠ 86 := by
  revert h ha hc
  cases wd
  all_goals intro h ha hc
  all_goals first | exact absurd rfl ha | exact absurd (by decide +kernel) h | skip
  all_goals
    rcases i with _ | _ | _ | i
  all_goals first | (cases Option.some.inj hc; decide) | cases hc
structure PPb (X : Cx) (pos : Pos) (ks : List (Option Expr)) (vs : List Expr) (t : List (TE × TE)) : Prop where
  ps : PPs X pos ks vs t
structure PAb (X : Cx) (es : List Expr) (t : TA) : Prop where
  ps : PA X es t
structure PEb (X : Cx) (e : Expr) (t : TE) : Prop where
  ps : PE X e t
structure PSb (X : Cx) (st : Stmt) (t : TS) : Prop where
  ps : PS X st t
structure PSsb (X : Cx) (st : List Stmt) (t : TS) : Prop where
  ps : PSs X st t
section
variable {X : Cx}
theorem ppb_nil {pos} : PPb X pos [] [] [] := ⟨pps_nil⟩
theorem ppb_cons {pos ks vs t k a p n b q} (h : PPb X pos ks vs t) : PPb X pos (some (.Constant (.str k) a p) :: ks) (.Constant (.int n) b q :: vs) ((tC (.str k), tC (.int n)) :: t) := ⟨pps_cons pe_str pe_int h.ps⟩
theorem dispb {pos ks vs t} (h : PPb X pos ks vs t) (hall : ks.all (·.isSome) = true) (hl : ks.length = vs.length) (h0 : ks ≠ []) (h15 : ks.length ≤ 15) : PEb X (.Dict ks vs pos) (tDisp t) := ⟨pe_disp h.ps hall hl h0 h15⟩
theorem pab_nil : PAb X [] tNil := ⟨pa_nil⟩
theorem pab_s {k a p es t} (h : PAb X es t) (hs : starEach (.Constant (.str k) a p :: es) X.env = (false, eval (.Constant (.str k) a p) X.env) :: starEach es X.env := by rfl) : PAb X (.Constant (.str k) a p :: es) (tCons (tC (.str k)) t) := ⟨pa_cons pe_str h.ps hs⟩
theorem pab_e {e te es t} (he : PEb X e te) (h : PAb X es t) (hs : starEach (e :: es) X.env = (false, eval e X.env) :: starEach es X.env := by rfl) : PAb X (e :: es) (tCons te t) := ⟨pa_cons he.ps h.ps hs⟩
theorem lstb {es t pos} (h : PAb X es t) : PEb X (.List es pos) (tLst t) := ⟨pe_lst h.ps⟩
theorem setb {i : Nat} {x : Str} {px pos : Pos} {e te} (hN : X.N.Nodup) (hi : X.N[i]? = some x) (hx : Loc X.env.scope x) (h : PEb X e te) (hs : swapsWith e (some (.Name x px)) pos.line X.env = pure false := by rfl) (hf : X.fn x = true ∨ X.env.scope.names.lookup x = some .local := by first | exact .inl rfl | exact .inr rfl | assumption) : PSb X (.Assign [.Name x px] e pos) (tAsg te (gName i)) := ⟨ps_set hN hi hx h.ps hs hf⟩
theorem pss_b {st s2 : Stmt} {rest : List Stmt} {t t2 u : TS} (h1 : PS X st t) (h2 : PSb X s2 t2) (h3 : PSsb X rest u) : PSs X (st :: s2 :: rest) (tSeq t (tSeq t2 u)) := pss_cons h1 (pss_cons h2.ps h3.ps)
theorem pssb1 {s2 : Stmt} {rest : List Stmt} {t2 u : TS} (h2 : PSb X s2 t2) (h3 : PSsb X rest u) : PSsb X (s2 :: rest) (tSeq t2 u) := ⟨pss_cons h2.ps h3.ps⟩
theorem exb {body : List Stmt} {D : Ends} {σ : L2.St} {H : Hp} {t : TS} (h : PSsb X body t) (q : t D σ H) : ∃ t, PSs X body t ∧ t D σ H := ⟨t, h.ps, q⟩
end
def spIsS : Sp := fun vs H Q _ => ∃ z, vs = [.str z] ∧ Np z ∧ z.length ≤ 100000 ∧ ∀ H', Same H H' → Q (.bl (stB z)) H'
theorem ok_isstep (F : Fun K "_law_is_step" "_law_is_step" s__law_is_step f fd) (B : TxB mg) (GN : GF P w K mg base CX0 1 "_law_is_number" ["_law_word", "_law_below"] spIsN) : FnOk P w K mg base CX0 2 f fd ["_law_text_here"] spIsS := by
  refine F.ok sc__law_is_step (fun vs H Q E h => ?_) (fun cdv A outer s H vs Q E hr h => ?_)
  · obtain ⟨z, rfl, _⟩ := h
    rfl
  obtain ⟨z, rfl, np, hz, q⟩ := h
  have nd := sc__law_is_step.nd
  refine ⟨_, pss_b (ps_set (i := 1) nd rfl (Or.inl rfl) (pe_bm PySem.F.plainAttrs_str PySem.F.slot_str_split PySem.F.type_str_split mt_split1 (pv 0) (pa_cons pe_str pa_nil)))
    (setb (i := 2) nd rfl (Or.inl rfl) (dispb (ppb_cons (ppb_cons (ppb_cons (ppb_cons (ppb_cons (ppb_cons (ppb_cons ppb_nil))))))) rfl rfl (by intro h; cases h) (by decide)))
    ⟨pss_cons (ps_if (pt_cmpR op_ne (pe_dget2 (hun (c := 0) hr) (pv 2) (pe_ix (r := rIxL K) ix_list (pv 1) pe_int (fun _ _ => rfl)) pe_int ⟨rfl, rfl, rfl, rfl⟩) (pe_callB call_len_seq rfl B.len PySem.boot_len (pa_cons (pv 1) pa_nil)) (nomark _)) (pss_one (ps_ret pe_bl)) pss_nil)
    (pss_cons (ps_for PassesOwn.never rfl (pi_range2 rfl B.range (pa_cons pe_int (pa_cons (pe_callB call_len_seq rfl B.len PySem.boot_len (pa_cons (pv 1) pa_nil)) pa_nil))) (pg_name (i := 3) nd rfl (Or.inl rfl))
      (pss_one (ps_if (pt_not (pt_val (pc GN hr (pa_cons (pe_ix (r := rIxL K) ix_list (pv 1) (pv 3) (fun _ _ => rfl)) (pa_cons (pe_or (pe_cmpR op_eq (pe_callB call_len_seq rfl B.len PySem.boot_len (pa_cons (pv 1) pa_nil)) pe_int (nomark _)) (pe_one (pe_and (pe_cmpR op_eq (pe_ix (r := rIxL K) ix_list (pv 1) pe_int (fun _ _ => rfl)) pe_str (nomark _)) (pe_one (pe_cmpR op_eq (pv 3) pe_int (nomark _)))))) pa_nil))))) (pss_one (ps_ret pe_bl)) pss_nil)))
    (pss_one (ps_ret (pe_or (pe_cmpR op_ne (pe_ix (r := rIxL K) ix_list (pv 1) pe_int (fun _ _ => rfl)) pe_str (nomark _)) (pe_one (pe_cmpR op_le (pe_callTy call_int_text rfl B.int PyProof.Rows.boot_int (pa_cons (pe_ix (r := rIxL K) ix_list (pv 1) pe_int (fun _ _ => rfl)) pa_nil)) (pe_callTy call_int_text rfl B.int PyProof.Rows.boot_int (pa_cons (pe_ix (r := rIxL K) ix_list (pv 1) pe_int (fun _ _ => rfl)) pa_nil)) (nomark _)))))))⟩, ?_⟩
  refine ⟨_, rfl, rfl, z, 32, rfl, congrArg (fun z => [V.str z]) sep_eq, by omega, fun p hp => ?_⟩
  have s1 : Same H _ := same_new (o := .lst ((Txt.split z ⟨#[32]⟩).map V.str)) hp
  have hp1 : (upd H p (.lst ((Txt.split z ⟨#[32]⟩).map V.str))) p = some (.lst ((Txt.split z ⟨#[32]⟩).map V.str)) := upd_same
  have wnp : ∀ y ∈ Txt.split z ⟨#[32]⟩, Np y ∧ y.length ≤ z.length := fun y hy => word_np np hy
  have hst : ∀ wd ns, stepIs z wd ns ↔ (Txt.split z ⟨#[32]⟩ = wS wd :: ns.map iS ∧ Ar wd ns) := fun wd ns => and_congr_left fun _ => words_of
  have hpos := PyProof.Rows.split_pos z ⟨#[32]⟩
  generalize Txt.split z ⟨#[32]⟩ = W at s1 hp1 wnp hst hpos ⊢
  generalize (upd H p _) = H1 at s1 hp1 ⊢
  obtain ⟨w0, ws, rfl⟩ : ∃ w0 ws, W = w0 :: ws := by
    cases W with
    | nil => exact absurd hpos (by decide)
    | cons a b => exact ⟨a, b, rfl⟩
  refine fun pd hpd => ⟨upd_same, manyK, rfl, by decide, ?_⟩
  rw [upd_upd]
  have s2 := same_new (o := .dK (mergeK [] manyK)) hpd
  have hd2 : (upd H1 pd (.dK (mergeK [] manyK))) pd = some (.dK (mergeK [] manyK)) := upd_same
  have hp2 := s2 _ _ hp1
  generalize (upd H1 pd (HO.dK (mergeK [] manyK))) = H2 at s2 hd2 hp2 ⊢
  have s02 := s1.trans s2
  have no : (¬ isSt z) → ∀ H', Same H2 H' → Q (.bl false) H' := fun h H' s3 => by
    have e : stB z = false := by
      cases y : stB z with
      | false => rfl
      | true => exact absurd (stB_t.mp y) h
    have := q H' (s02.trans s3)
    rw [e] at this
    exact this
  refine ⟨_, rfl, pd, rfl, .inl ⟨_, .inl hd2⟩, _, rfl, p, _, _, _, rfl, rfl, SqL.of hp2, St.at0, _, DGet.k (k := .inr w0) hd2, ?_⟩
  by_cases hw : ∃ wd, w0 = wS wd
  · obtain ⟨wd, rfl⟩ := hw
    rw [many_at]
    refine ⟨_, rfl, p, _, rfl, .inl (SqL.of hp2), rfl, _, rfl, ite2 (fun c => ?_) (fun c => ?_)⟩
    · refine no (fun ⟨wd', ns, h⟩ => ?_) H2 (Same.refl _)
      have e := (hst wd' ns).mp h
      injection e.1 with e1 e2
      obtain rfl := wS_inj e1
      have l := shp_len e.2
      have l2 : ws.length = ns.length := by rw [e2, List.length_map]
      exact absurd c (by simp [l, l2])
    · have hl : ws.length = (shp wd).length := by
        by_cases y : ws.length = (shp wd).length
        · exact y
        · exact absurd (by simp; omega) c
      have l3 : (shp wd).length ≤ 3 := by cases wd <;> decide +kernel
      refine ⟨_, rfl, p, _, rfl, .inl (SqL.of hp2), 1, _, rfl, ⟨by decide, by decide, by omega, by simp; omega⟩, ?_⟩
      have e0 : (((((wS wd :: ws).map V.str).length : Nat) : Int) - 1).toNat = (shp wd).length := by
        rw [List.length_map, List.length_cons]
        omega
      rw [e0]
      refine for_range (lo := 1) (n := (shp wd).length) (fun i σ H' => H' = H2 ∧ (∃ ns : List Int, ws.take i = ns.map iS ∧ ns.length = i ∧ ∀ (k : Nat) (j : Int), ns[k]? = some j → ∃ c, (shp wd).cps.toList[k]? = some c ∧ inV j ∧ (c = 86 ∨ 0 ≤ j)) ∧ ∃ x3, σ = [some (.str z), some (.ref p), some (.ref pd), x3]) ⟨rfl, ⟨[], rfl, rfl, fun k j e => by cases e⟩, none, rfl⟩ ?_ ?_
      · rintro i σ H3 hi ⟨rfl, ⟨ns, et, ln, hg⟩, x3, rfl⟩
        have hi2 : i < ws.length := by omega
        have hn : ws[i]? = some ws[i] := List.getElem?_eq_getElem hi2
        obtain ⟨cc, hc⟩ : ∃ cc, (shp wd).cps.toList[i]? = some cc := ⟨_, List.getElem?_eq_getElem (by simpa [Str.length] using hi)⟩
        obtain ⟨n1, n2⟩ := wnp ws[i] (List.mem_cons_of_mem _ (List.getElem_mem hi2))
        have bad : ∀ wd' ns', stepIs z wd' ns' → ∃ v, good ws[i] (decide (cc = 86)) v := fun wd' ns' h => by
          have e := (hst wd' ns').mp h
          injection e.1 with e1 e2
          obtain rfl := wS_inj e1
          have hi3 : i < ns'.length := by rw [← shp_len e.2]; exact hi
          have hn' : ns'[i]? = some ns'[i] := List.getElem?_eq_getElem hi3
          obtain ⟨c2, hc2, hneg⟩ := shp_at e.2 hn'
          rw [hc] at hc2
          cases hc2
          refine ⟨ns'[i], ?_, e.2.all _ (List.getElem_mem hi3), ?_⟩
          · have e4 : ws[i]? = some (iS ns'[i]) := by rw [e2, List.getElem?_map, hn']; rfl
            rw [hn] at e4
            exact Option.some.inj e4
          · rcases Int.lt_or_le ns'[i] 0 with y | y
            · exact .inl (decide_eq_true (hneg y))
            · exact .inr y
        have nxt : ∀ v, good ws[i] (decide (cc = 86)) v → ∀ x3, H3 = H3 ∧ (∃ ns : List Int, ws.take (i + 1) = ns.map iS ∧ ns.length = i + 1 ∧ ∀ (k : Nat) (j : Int), ns[k]? = some j → ∃ c, (shp wd).cps.toList[k]? = some c ∧ inV j ∧ (c = 86 ∨ 0 ≤ j)) ∧ ∃ x4, [some (V.str z), some (V.ref p), some (V.ref pd), x3] = [some (.str z), some (.ref p), some (.ref pd), x4] := fun v hv x3 => by
          refine ⟨rfl, ⟨ns ++ [v], ?_, ?_, fun k j2 e2 => ?_⟩, x3, rfl⟩
          · rw [List.take_add_one, hn, et, List.map_append]
            show _ ++ [ws[i]] = _ ++ [iS v]
            rw [hv.1]
          · rw [List.length_append, ln]
            rfl
          · rcases Nat.lt_or_ge k ns.length with y | y
            · rw [List.getElem?_append_left y] at e2
              exact hg k j2 e2
            · rw [List.getElem?_append_right y] at e2
              have ek : k = i := by
                have := (List.getElem?_eq_some_iff.mp e2).1
                simp at this
                omega
              subst ek
              rw [ln, Nat.sub_self] at e2
              cases e2
              exact ⟨cc, hc, hv.2.1, hv.2.2.imp of_decide_eq_true id⟩
        have ea : atI ((wS wd :: ws).map V.str) (1 + (i : Int)) = some (.str ws[i]) := by
          rw [show (1 + (i : Int)) = ((i + 1 : Nat) : Int) by omega]
          refine atI_nat ?_
          rw [List.map_cons, List.getElem?_cons_succ, List.getElem?_map, hn]
          rfl
        refine ⟨_, rfl, _, rfl, p, _, _, .str ws[i], rfl, rfl, SqL.of hp2, ea, _, rfl, p, _, rfl, .inl (SqL.of hp2), rfl, _, rfl, ite2 (fun c1 => ?_) (fun c1 => ?_)⟩
        · have c1 : ((((wS wd :: ws).map V.str).length : Nat) : Int) = 2 := V.int.inj (of_decide_eq_true c1)
          have l1 : (shp wd).length = 1 := by
            rw [List.length_map, List.length_cons] at c1
            omega
          have eb : true = decide (cc = 86) := (decide_eq_true (lt1 l1 hc)).symm
          refine ⟨ws[i], true, rfl, n1, by omega, ?_⟩
          · cases hb : numB ws[i] true with
            | false =>
              refine ⟨_, rfl, iteT (no (fun ⟨wd', ns', h⟩ => ?_) _ (Same.refl _))⟩
              obtain ⟨v, hv⟩ := bad wd' ns' h
              have := numB_t.mpr ⟨v, hv⟩
              rw [← eb, hb] at this
              cases this
            | true =>
              refine ⟨_, rfl, iteF ?_⟩
              obtain ⟨v, hv⟩ := numB_t.mp hb
              rw [eb] at hv
              exact nxt v hv _
        · have l1 : (shp wd).length ≠ 1 := fun y => c1 (decide_eq_true (congrArg V.int (by rw [List.length_map, List.length_cons]; omega)))
          refine ⟨_, rfl, p, _, _, _, rfl, rfl, SqL.of hp2, St.at0, rfl, _, rfl, ite2 (fun c2 => ?_) (fun c2 => ?_)⟩
          · obtain rfl : wd = .add := w_hit c2
            have eb : decide (V.int (1 + (i : Int)) = V.int 3) = decide (cc = 86) := by
              by_cases y : i = 2
              · rw [decide_eq_true ((lt2 hc).mpr y), decide_eq_true (congrArg V.int (by omega))]
              · rw [decide_eq_false fun e => y ((lt2 hc).mp e), decide_eq_false fun e => y (by have := V.int.inj e; omega)]
            refine ⟨_, rfl, rfl, ws[i], _, rfl, n1, by omega, ?_⟩
            cases hb : numB ws[i] (decide (V.int (1 + (i : Int)) = V.int 3)) with
            | false =>
              refine ⟨_, rfl, iteT (no (fun ⟨wd', ns', h⟩ => ?_) _ (Same.refl _))⟩
              obtain ⟨v, hv⟩ := bad wd' ns' h
              have := numB_t.mpr ⟨v, hv⟩
              rw [← eb, hb] at this
              cases this
            | true =>
              refine ⟨_, rfl, iteF ?_⟩
              obtain ⟨v, hv⟩ := numB_t.mp hb
              rw [eb] at hv
              exact nxt v hv _
          · have na : wd ≠ .add := w_miss (b := .add) c2
            have eb : false = decide (cc = 86) := (decide_eq_false (lt3 l1 na hc)).symm
            refine ⟨ws[i], false, rfl, n1, by omega, ?_⟩
            cases hb : numB ws[i] false with
            | false =>
              refine ⟨_, rfl, iteT (no (fun ⟨wd', ns', h⟩ => ?_) _ (Same.refl _))⟩
              obtain ⟨v, hv⟩ := bad wd' ns' h
              have := numB_t.mpr ⟨v, hv⟩
              rw [← eb, hb] at this
              cases this
            | true =>
              refine ⟨_, rfl, iteF ?_⟩
              obtain ⟨v, hv⟩ := numB_t.mp hb
              rw [eb] at hv
              exact nxt v hv _
      · rintro σ H3 ⟨rfl, ⟨ns, et, ln, hg⟩, x3, rfl⟩
        rw [List.take_of_length_le (by omega)] at et
        have ar0 := ar0_of ln hg
        have hiff : isSt z ↔ Ar wd ns := by
          refine ⟨fun ⟨wd', ns', h⟩ => ?_, fun ar => ⟨wd, ns, (hst wd ns).mpr ⟨by rw [et], ar⟩⟩⟩
          have e := (hst wd' ns').mp h
          injection e.1 with e1 e2
          obtain rfl := wS_inj e1
          rw [et] at e2
          have : ns = ns' := by
            refine map_inj trivial (fun i hi => ?_) (e.2.all) e2
            obtain ⟨k, hk, rfl⟩ := List.getElem_of_mem hi
            obtain ⟨_, _, h1, _⟩ := hg k _ (List.getElem?_eq_getElem hk)
            exact h1
          subst this
          exact e.2
        have fin : ∀ bb : Bool, (bb = true ↔ Ar wd ns) → Q (.bl bb) H3 := fun bb h => by
          have e : stB z = bb := by
            cases y : stB z with
            | true => exact (h.mpr (hiff.mp (stB_t.mp y))).symm
            | false =>
              cases hb : bb with
              | false => rfl
              | true => exact absurd (stB_t.mpr (hiff.mpr (h.mp hb))) (by rw [y]; decide)
          have := q H3 s02
          rw [e] at this
          exact this
        refine ⟨_, rfl, p, _, _, _, rfl, rfl, SqL.of hp2, St.at0, rfl, _, rfl, ite2 (fun c1 => ?_) (fun c1 => ?_)⟩
        · have nw : wd ≠ .sum := fun e => by
            subst e
            exact absurd c1 (by decide +kernel)
          exact fin true ⟨fun _ => ar0_ne ar0 nw, fun _ => rfl⟩
        · obtain rfl : wd = .sum := by
            by_cases y : wd = .sum
            · exact y
            · exact absurd (by
                have : ¬ V.str (wS wd) = V.str (Str.ofString "sum") := fun e => y (wS_inj (V.str.inj e))
                simpa using this) c1
          obtain ⟨x, y, d, rfl, a1, a2, a3⟩ := ar0_s ar0
          have ew : ws = [iS x, iS y, iS d] := et
          subst ew
          have l2 := iS_len a2.v
          have l3' := iS_len a3.v
          refine ⟨_, rfl, p, _, _, _, rfl, rfl, SqL.of hp2, atI_nat (j := 2) rfl, iS y, y, rfl, int_iS a2, by omega, _, rfl, p, _, _, _, rfl, rfl, SqL.of hp2, atI_nat (j := 3) rfl, iS d, d, rfl, int_iS a3, by omega, _, _, rfl, rfl, ?_⟩
          exact fin _ ⟨fun e => ⟨a1, a2, a3, of_decide_eq_true e⟩, fun ar => decide_eq_true ar.2.2.2⟩
  · have hw : ∀ wd, w0 ≠ wS wd := fun wd e => hw ⟨wd, e⟩
    rw [many_no hw]
    refine ⟨_, rfl, p, _, rfl, .inl (SqL.of hp2), rfl, _, rfl, ite2 (fun c => ?_) (fun c => ?_)⟩
    · refine no (fun ⟨wd', ns, h⟩ => ?_) H2 (Same.refl _)
      have e := ((hst wd' ns).mp h).1
      injection e with e1 e2
      exact hw wd' e1
    · exact absurd (by simp; omega) c
end
end K25
set_option maxHeartbeats 4000000
namespace K25
open PySem L2 Lo St
section
variable {P : Program} {w : World} {K : PySem.W.Frag} {mg : Str → Option Value} {base : Heap} {f CL CP : Addr} {fd : FuncData} {C : Kd → Addr} {CW : Wd → Addr}
def dueV : Option Int → V
  | none => .non
  | some n => .int n
def hdBad (m b : Str) (n : Nat) : Prop := b = Str.ofString "" ∨ (m ≠ Str.ofString "held" ∧ m ≠ Str.ofString "walked") ∨ 12 < n
def tHead : TS := fun D σ H => ∃ z m b r tl x5 ys, σ = [some (.str z), some (.str m), some (.str b), some (.str r), some (.ref tl), x5] ∧ H tl = some (.lst ys) ∧ (hdBad m b ys.length → D.rt (.int (-1)) H) ∧ (¬ hdBad m b ys.length → D.nx σ H)
def spDue : Sp := fun vs H Q _ => ∃ z, vs = [.str z] ∧ Np z ∧ z.length ≤ 90000 ∧ ∀ H', Same H H' → Q (dueV (dueO z)) H'
theorem ok_due (F : Fun K "_law_due" "_law_due" s__law_due f fd) (B : TxB mg) (GS : GF P w K mg base CX0 2 "_law_is_step" ["_law_text_here"] spIsS) : FnOk P w K mg base CX0 22 f fd ["_law_text_here"] spDue := by
  refine F.ok sc__law_due (fun vs H Q E h => ?_) (fun cdv A outer s H vs Q E hr h => ?_)
  · obtain ⟨z, rfl, _⟩ := h
    rfl
  obtain ⟨z, rfl, np, hz, q⟩ := h
  have nd := sc__law_due.nd
  refine ⟨_, pss_cons (ps_asg (pe_bm PySem.F.plainAttrs_str PySem.F.slot_str_partition PySem.F.type_str_partition mt_part (pv 0) (pa_cons pe_str pa_nil)) (pg_tup (n := 3) (hr.hd (by decide)) (pgs_cons (pg_name (i := 1) nd rfl (Or.inl rfl)) (pgs_cons (pg_name (i := 2) nd rfl (Or.inl rfl)) (pgs_cons (pg_name (i := 3) nd rfl (Or.inl rfl)) pgs_nil)))))
    (pss_cons (ps_set (i := 4) nd rfl (Or.inl rfl) (pe_bm PySem.F.plainAttrs_str PySem.F.slot_str_split PySem.F.type_str_split mt_splitS (pv 3) (pa_cons pe_str pa_nil)))
    (pss_cons (ps_weak (t' := tHead) (ps_if (PW.pt (pw_or (pt_cmpR op_eq (pv 2) pe_str (nomark _)) (pw_or (PW.pt (pw_and (pt_cmpR op_ne (pv 1) pe_str (nomark _)) (pw_and1 (pt_cmpR op_ne (pv 1) pe_str (nomark _))))) (pw_or1 (pt_cmpR op_gt (pe_callB call_len_seq rfl B.len PySem.boot_len (pa_cons (pv 4) pa_nil)) pe_int (nomark _)))))) (pss_one (ps_ret (pe_un un_neg pe_int))) pss_nil) ?hw)
    (pss_cons (ps_for PassesOwn.never rfl (pi_range1 rfl B.range (pa_cons (pe_callB call_len_seq rfl B.len PySem.boot_len (pa_cons (pv 4) pa_nil)) pa_nil)) (pg_name (i := 5) nd rfl (Or.inl rfl))
      (pss_one (ps_if (pt_not (pt_val (pc GS hr (pa_cons (pe_ix (r := rIxL K) ix_list (pv 4) (pv 5) (fun _ _ => rfl)) pa_nil)))) (pss_one (ps_ret (pv 5))) pss_nil)))
    (pss_one (ps_ret pe_non))))), ?_⟩
  case hw =>
    rintro D σ H1 ⟨z, m, b, r, tl, x5, ys, rfl, htl, k1, k2⟩
    refine ⟨_, rfl, rfl, _, rfl, ite2 (fun c1 => ?_) (fun c1 => ?_)⟩
    · exact ⟨1, rfl, k1 (.inl (V.str.inj (of_decide_eq_true c1)))⟩
    have n1 : ¬ b = Str.ofString "" := fun e => c1 (decide_eq_true (congrArg V.str e))
    refine ⟨_, rfl, rfl, _, rfl, ite2 (fun c2 => ?_) (fun c2 => ?_)⟩
    · have c2 : m ≠ Str.ofString "held" := fun e => absurd c2 (by rw [e]; decide +kernel)
      refine ⟨_, rfl, rfl, _, rfl, ite2 (fun c3 => ?_) (fun c3 => ?_)⟩
      · have c3 : m ≠ Str.ofString "walked" := fun e => absurd c3 (by rw [e]; decide +kernel)
        exact iteT ⟨1, rfl, k1 (.inr (.inl ⟨c2, c3⟩))⟩
      · have c3 : ¬ m ≠ Str.ofString "walked" := fun y => c3 (by
          have : ¬ V.str m = V.str (Str.ofString "walked") := fun e => y (V.str.inj e)
          simpa using this)
        refine ⟨_, rfl, tl, _, rfl, .inl (SqL.of htl), _, _, rfl, rfl, _, rfl, ite2 (fun c4 => ?_) (fun c4 => ?_)⟩
        · have c4 : (12 : Int) < ((ys.length : Nat) : Int) := of_decide_eq_true c4
          exact ⟨1, rfl, k1 (.inr (.inr (by omega)))⟩
        · have c4 : ¬ (12 : Int) < ((ys.length : Nat) : Int) := fun y => c4 (decide_eq_true y)
          exact k2 fun y => y.elim n1 fun y => y.elim (fun y => c3 y.2) fun y => by omega
    · have c2 : ¬ m ≠ Str.ofString "held" := fun y => c2 (by
        have : ¬ V.str m = V.str (Str.ofString "held") := fun e => y (V.str.inj e)
        simpa using this)
      refine ⟨_, rfl, tl, _, rfl, .inl (SqL.of htl), _, _, rfl, rfl, _, rfl, ite2 (fun c4 => ?_) (fun c4 => ?_)⟩
      · have c4 : (12 : Int) < ((ys.length : Nat) : Int) := of_decide_eq_true c4
        exact ⟨1, rfl, k1 (.inr (.inr (by omega)))⟩
      · have c4 : ¬ (12 : Int) < ((ys.length : Nat) : Int) := fun y => c4 (decide_eq_true y)
        exact k2 fun y => y.elim n1 fun y => y.elim (fun y => c2 y.1) fun y => by omega
  have hs : (100000 : Nat) ≤ sizeLine := by decide
  refine ⟨_, rfl, rfl, z, ⟨#[32]⟩, rfl, congrArg (fun y => [V.str y]) sep_eq, (by decide +kernel), (by omega), fun p hp => ?_⟩
  have s1 := same_new (o := .tup [.str (Txt.partition z ⟨#[32]⟩).1, .str (Txt.partition z ⟨#[32]⟩).2.1, .str (Txt.partition z ⟨#[32]⟩).2.2]) hp
  have hp1 : (upd H p (.tup [.str (Txt.partition z ⟨#[32]⟩).1, .str (Txt.partition z ⟨#[32]⟩).2.1, .str (Txt.partition z ⟨#[32]⟩).2.2])) p = some (.tup [.str (Txt.partition z ⟨#[32]⟩).1, .str (Txt.partition z ⟨#[32]⟩).2.1, .str (Txt.partition z ⟨#[32]⟩).2.2]) := upd_same
  generalize (upd H p (.tup [.str (Txt.partition z ⟨#[32]⟩).1, .str (Txt.partition z ⟨#[32]⟩).2.1, .str (Txt.partition z ⟨#[32]⟩).2.2])) = H1 at s1 hp1 ⊢
  refine ⟨p, _, rfl, SqT.of hp1, rfl, _, _, rfl, _, _, rfl, _, _, rfl, rfl, ?_⟩
  refine ⟨_, rfl, rfl, (Txt.partition z ⟨#[32]⟩).2.2, ⟨#[59, 32]⟩, rfl, congrArg (fun y => [V.str y]) sep2, (by decide), (by have := (PyProof.Rows.fact_partition z ⟨#[32]⟩).2.2; omega), fun tl htl => ?_⟩
  have s2 := same_new (o := .lst ((parts z).map V.str)) htl
  have ht2 : (upd H1 tl (.lst ((parts z).map V.str))) tl = some (.lst ((parts z).map V.str)) := upd_same
  have e9 : (Txt.split (Txt.partition z ⟨#[32]⟩).2.2 ⟨#[59, 32]⟩) = parts z := rfl
  rw [e9]
  generalize (upd H1 tl (HO.lst ((parts z).map V.str))) = H2 at s2 ht2 ⊢
  have s02 := s1.trans s2
  have ll : ((parts z).map V.str).length = (parts z).length := List.length_map _
  have hd : ∀ H', Same H2 H' → noHead z → Q (.int (-1)) H' := fun H' s3 h => by
    have := q H' (s02.trans s3)
    rw [due_head h] at this
    exact this
  refine ⟨z, _, _, _, tl, none, _, rfl, ht2, fun h => hd H2 (Same.refl _) (by rw [ll] at h; exact h), fun h => ?_⟩
  have nh : ¬ noHead z := fun y => h (by rw [ll]; exact y)
  have l12 : (parts z).length ≤ 12 := by
    by_cases y : 12 < (parts z).length
    · exact absurd (.inr (.inr y)) nh
    · omega
  refine ⟨_, rfl, tl, _, rfl, .inl (SqL.of ht2), _, rfl, by omega, by omega, ?_⟩
  have e0 : ((((parts z).map V.str).length : Nat) : Int).toNat = (parts z).length := by rw [ll]; rfl
  rw [e0]
  refine for_range (lo := 0) (n := (parts z).length) (fun i σ H' => Same H2 H' ∧ (∀ (j : Nat) (x : Str), j < i → (parts z)[j]? = some x → isSt x) ∧ ∃ x1 x2 x3 x5, σ = [some (.str z), x1, x2, x3, some (.ref tl), x5]) ⟨Same.refl _, (fun j x hj => absurd hj (Nat.not_lt_zero j)), _, _, _, none, rfl⟩ ?_ ?_
  · rintro i σ H3 hi ⟨s3, ha, x1, x2, x3, x5, rfl⟩
    have hx : (parts z)[i]? = some (parts z)[i] := List.getElem?_eq_getElem hi
    obtain ⟨n1, n2⟩ := part_np np (List.getElem_mem hi)
    have ea : atI ((parts z).map V.str) (0 + (i : Int)) = some (.str (parts z)[i]) := by
      rw [Int.zero_add]
      exact atI_nat (by rw [List.getElem?_map, hx]; rfl)
    refine ⟨_, rfl, _, rfl, tl, _, _, .str (parts z)[i], rfl, rfl, SqL.of (s3 _ _ ht2), ea, (parts z)[i], rfl, n1, by omega, fun H4 s4 => ?_⟩
    cases hb : stB (parts z)[i] with
    | false =>
      refine ⟨_, rfl, iteT ⟨_, rfl, ?_⟩⟩
      have := q H4 (s02.trans (s3.trans s4))
      rw [due_bad nh hx (fun y => by rw [stB_t.mpr y] at hb; cases hb) ha] at this
      rw [Int.zero_add]
      exact this
    | true =>
      refine ⟨_, rfl, iteF ⟨s3.trans s4, fun j x hj ex => ?_, x1, x2, x3, _, rfl⟩⟩
      rcases Nat.lt_or_ge j i with y | y
      · exact ha j x y ex
      · have e : j = i := by omega
        subst e
        rw [hx] at ex
        cases ex
        exact stB_t.mp hb
  · rintro σ H3 ⟨s3, ha, _⟩
    have := q H3 (s02.trans s3)
    rw [due_all nh fun y hy => by
      obtain ⟨k, hk, rfl⟩ := List.getElem_of_mem hy
      exact ha k _ hk (List.getElem?_eq_getElem hk)] at this
    exact this
end
end K25
set_option maxHeartbeats 4000000
namespace K25
open PySem L2 Lo St
section
variable {P : Program} {w : World} {K : PySem.W.Frag} {mg : Str → Option Value} {base : Heap} {f CL CP : Addr} {fd : FuncData} {C : Kd → Addr} {CW : Wd → Addr}
open XA in
theorem ok_wholeH (F : Fun K "_law_whole" "_law_whole" s__law_whole f fd) (B : TxB mg) : FnH P w K mg base 1 f fd ["_law_found"] Lo.spWhole := by
  refine okH F sc__law_whole (fun vs H Q E h => ?_) (fun ev cdv A outer s H vs Q E hh hr h => ?_)
  · obtain ⟨i, rfl, _⟩ := h
    rfl
  obtain ⟨i, rfl, q⟩ := h
  refine ⟨_, pss_one (ps_ret (pe_and (pe_callB call_isinst rfl B.isi PyProof.Rows.boot_isinstance (pa_cons (pv 0) (pa_cons (pe_bltn (v := .ty "int") rfl B.int PyProof.Rows.boot_int rfl) pa_nil)))
    (pe_one (pe_not (pe_callB call_isinst rfl B.isi PyProof.Rows.boot_isinstance (pa_cons (pv 0) (pa_cons (pe_bltn (v := .ty "bool") rfl B.bool PyProof.Rows.boot_bool rfl) pa_nil))))))), ?_⟩
  refine ⟨_, rfl, _, _, _, _, rfl, TyOf.int i, K25T.kit_ii, _, rfl, iteT ?_⟩
  exact ⟨_, rfl, _, _, _, _, rfl, TyOf.int i, K25T.kit_ib, _, rfl, q⟩
structure Tq (K : PySem.W.Frag) (mg : Str → Option Value) (CN CT CA CE : Addr) : Prop where
  mA : mg "NoPlace" = some (.ref CA)
  kT : PySem.W.kitOne K (.ref CT) (.ref CT) = some true
  kA : PySem.W.kitOne K (.ref CT) (.ref CA) = some false
  kN : PySem.W.kitOne K (.ref CT) (.ref CN) = some false
  mE : mg "PactError" = some (.ref CE)
  xE : PySem.W.excIn K CE XA.bmX "ValueError.__new__" = true
  sE : PySem.W.mroIn K CT (.ref CE) = some true
open XA in
def spTold (CT : Addr) : Sp := fun vs H Q _ => ∃ ea dd n v, vs = [.ref ea, v] ∧ IsX H ea CT dd ∧ H dd = some (atX n) ∧ (v = .int n) ∧ Q (.bl true) H
open XA in
theorem ok_told {CN CT CA CE fI : Addr} {dI : FuncData} (F : Fun K "_law_told" "_law_told" s__law_told f fd) (B : TxB mg) (T : Ts P w K mg CN CT fI dI) (Y : Tq K mg CN CT CA CE) (GW : GH P w K mg base 1 "_law_whole" ["_law_found"] Lo.spWhole) : FnH P w K mg base 2 f fd ["_law_e", "_law_due_here"] (spTold CT) := by
  refine okH F sc__law_told (fun vs H Q E h => ?_) (fun ev cdv A outer s H vs Q E hh hr h => ?_)
  · obtain ⟨ea, dd, n, v, rfl, _⟩ := h
    rfl
  obtain ⟨ea, dd, n, v, rfl, ix, hd, rfl, q⟩ := h
  refine ⟨_, pss_cons (ps_if (PW.pt (pw_or (pt_not (pt_val (pe_callB (call_isX (K := K) rfl) rfl B.isi PyProof.Rows.boot_isinstance (pa_cons (pv 0) (pa_cons (pe_glob (v := .ref CT) rfl T.mT rfl) pa_nil))))) (pw_or (pt_val (pe_callB (call_isX (K := K) rfl) rfl B.isi PyProof.Rows.boot_isinstance (pa_cons (pv 0) (pa_cons (pe_glob (v := .ref CA) rfl Y.mA rfl) pa_nil)))) (pw_or1 (pt_val (pe_callB (call_isX (K := K) rfl) rfl B.isi PyProof.Rows.boot_isinstance (pa_cons (pv 0) (pa_cons (pe_glob (v := .ref CN) rfl T.mN rfl) pa_nil)))))))) pss_never pss_nil)
    (pss_one (ps_ret (pe_and (pcH GW hr hh rfl (pa_cons (pe_atX (K := K) (pv 0) rfl) pa_nil)) (pe_one (pe_cmpR op_eq (pe_atX (K := K) (pv 0) rfl) (pv 1) (nomark _)))))), ?_⟩
  refine ⟨_, rfl, ea, CT, dd, CT, true, .inl ⟨rfl, Y.kT⟩, ix, T.M.cx, _, rfl, iteF ?_⟩
  refine ⟨_, rfl, ea, CT, dd, CA, false, .inl ⟨rfl, Y.kA⟩, ix, T.M.cx, _, rfl, iteF ?_⟩
  refine ⟨_, rfl, ea, CT, dd, CN, false, .inl ⟨rfl, Y.kN⟩, ix, T.M.cx, _, rfl, iteF ?_⟩
  refine ⟨_, rfl, ea, CT, dd, n, rfl, ix, hd, T.M.cx, n, rfl, ?_⟩
  refine ⟨_, rfl, iteT ?_⟩
  refine ⟨_, rfl, ea, CT, dd, n, rfl, ix, hd, T.M.cx, _, rfl, rfl, ?_⟩
  rw [decide_eq_true rfl]
  exact q
end
end K25
set_option maxHeartbeats 4000000
namespace K25
open PySem L2 Lo St
section
variable {P : Program} {w : World} {K : PySem.W.Frag} {mg : Str → Option Value} {base : Heap} {f CL CP : Addr} {fd : FuncData} {C : Kd → Addr} {CW : Wd → Addr}
def spSR : Sp := fun vs H Q _ => ∃ z, vs = [.str z] ∧ Np z ∧ z.length ≤ 100000 ∧ ∀ H', Same H H' → Q (.bl true) H'
theorem ok_stepright {CN CT CA CE fI fi : Addr} {dI di : FuncData} (F : Fun K "_law_step_right" "_law_step_right" s__law_step_right f fd) (T : Ts P w K mg CN CT fI dI) (Y : Tq K mg CN CT CA CE) (W : TxW K CW) (GS : GF P w K mg base (XA.CXA 1 P w) 26 "read_step" ["text"] (spRSt CW CT))
    (HI : ∀ Bh, FnOk P w K mg Bh CX0 2 fi di ["_law_text_here"] spIsS) (bi : Binds K di ["_law_text_here"] []) (ki : PySem.W.keepIn K (.ref fi) = true) (mi : mg "_law_is_step" = some (.ref fi)) (GT : XA.GH P w K mg base 2 "_law_told" ["_law_e", "_law_due_here"] (spTold CT))
    (GP : ∀ wd, GM P w K mg base CX0 4 (CW wd) "spelled" ["self"] (spSpelled CW wd)) : FnOk P w K mg base CX0 29 f fd ["_law_text_here"] spSR := by
  refine F.ok sc__law_step_right (fun vs H Q E h => ?_) (fun cdv A outer s H vs Q E hr h => ?_)
  · obtain ⟨z, rfl, _⟩ := h
    rfl
  obtain ⟨z, rfl, np, hz, q⟩ := h
  have nd := sc__law_step_right.nd
  have hh := hr.hd (by decide)
  refine ⟨_, pss_cons (XA.ps_trySetAs (d := 1) (i := 2) (j := 1) (CB := CE) (by decide) rfl rfl rfl nd rfl (Or.inl rfl) rfl rfl (XA.pexA_call GS.ok (hr.mono (by decide)) rfl GS.mgx GS.kp GS.bd (pa_cons (pv 0) pa_nil)) rfl Y.mE
      (fun ea pp => pss_one (ps_ret (pe_and (pe_not (XA.pe_callD (ea := ea) (pp := pp) rfl (fun p hp => List.mem_append_left _ hp) (fun Bh _ => HI Bh) (room_mark hr (by decide)) rfl mi ki bi (pa_cons (pv 0) pa_nil))) (pe_one (XA.pcH GT hr hh rfl (pa_cons (pv 2) (pa_cons pe_int pa_nil))))))))
    (pss_one (ps_ret (pe_and (pe_call (HI _) (hr.mono (by decide)) rfl mi ki bi .nil pass0 (pa_cons (pv 0) pa_nil)) (pe_one (pe_cmpR op_eq (pe_ex fun wd => pm0 (GP wd) (pv 1) (W.cl wd) hr) (pv 0) (nomark _)))))), ?_⟩
  refine ⟨_, rfl, z, rfl, np, hz, fun wd ns hst v H1 s1 sv => ?_, fun hno tk H1 s1 => ⟨0, tk, CT, rfl, rfl, XA.match_in Y.mE Y.xE Y.sE, fun ea dd cx pp hea hdd cp => ?_⟩⟩
  · have e : stB z = true := stB_t.mpr ⟨wd, ns, hst⟩
    refine ⟨_, rfl, z, rfl, np, hz, fun H2 s2 => ?_⟩
    rw [e]
    refine ⟨_, rfl, iteT ?_⟩
    obtain ⟨a, dx, rfl, ha⟩ := sv
    have f1 := fs_no (m := "spelled") (by decide +kernel) (by decide +kernel) (by decide +kernel) (by decide +kernel) (by decide +kernel) wd ns
    refine ⟨wd, _, rfl, a, dx, _, rfl, s2 _ _ ha, f1, _, ns, rfl, hst.2, ⟨a, dx, rfl, s2 _ _ ha⟩, fun H3 s3 => ⟨_, rfl, rfl, ?_⟩⟩
    rw [decide_eq_true (congrArg V.str hst.1.symm)]
    exact q H3 (s1.trans (s2.trans s3))
  · have e : stB z = false := by
      cases y : stB z with
      | false => rfl
      | true => exact absurd (stB_t.mp y) hno
    refine ⟨_, rfl, CT, dd, cx, upd_same, cp, z, rfl, np, hz, fun H2 s2 hn => ?_⟩
    rw [XA.del_upd hea] at s2
    rw [e]
    refine ⟨_, rfl, _, rfl, iteT ?_⟩
    have s3 := same_new (o := XA.ExcA ea CT dd cx) hn
    refine ⟨_, rfl, ea, dd, 0, _, rfl, .inr ⟨cx, upd_same⟩, s3 _ _ (s2 _ _ hdd), rfl, q _ (s1.trans (s2.trans s3))⟩
end
end K25
set_option maxHeartbeats 4000000
namespace K25
open PySem L2 Lo St
section
variable {P : Program} {w : World} {K : PySem.W.Frag} {mg : Str → Option Value} {base : Heap} {f CL CP : Addr} {fd : FuncData} {C : Kd → Addr} {CW : Wd → Addr}
def spPR : Sp := fun vs H Q _ => ∃ z, vs = [.str z] ∧ Np z ∧ z.length ≤ 90000 ∧ ∀ H', Same H H' → Q (.bl true) H'
theorem ok_pactright {CN CT CA CE fI : Addr} {dI : FuncData} (F : Fun K "_law_pact_right" "_law_pact_right" s__law_pact_right f fd) (T : Ts P w K mg CN CT fI dI) (Y : Tq K mg CN CT CA CE) (TP : TxP K CP) (GD : GF P w K mg base CX0 22 "_law_due" ["_law_text_here"] spDue) (GR : GF P w K mg base (XA.CXA 2 P w) 28 "read_pact" ["text"] (spRPa CP CW CT))
    (GT : XA.GH P w K mg base 2 "_law_told" ["_law_e", "_law_due_here"] (spTold CT)) (GP : GM P w K mg base CX0 5 CP "spelled" ["self"] (spPSp CP CW)) : FnOk P w K mg base CX0 29 f fd ["_law_text_here"] spPR := by
  refine F.ok sc__law_pact_right (fun vs H Q E h => ?_) (fun cdv A outer s H vs Q E hr h => ?_)
  · obtain ⟨z, rfl, _⟩ := h
    rfl
  obtain ⟨z, rfl, np, hz, q⟩ := h
  have nd := sc__law_pact_right.nd
  have hh := hr.hd (by decide)
  refine ⟨_, pss_cons (ps_set (i := 1) nd rfl (Or.inl rfl) (pc GD hr (pa_cons (pv 0) pa_nil)))
    (pss_cons (XA.ps_trySetAs (d := 2) (i := 3) (j := 2) (CB := CE) (by decide) rfl rfl rfl nd rfl (Or.inl rfl) rfl rfl (XA.pexA_call GR.ok hr rfl GR.mgx GR.kp GR.bd (pa_cons (pv 0) pa_nil)) rfl Y.mE
      (fun ea pp => pss_one (ps_ret (pe_and (pe_cmpR op_notN (pv 1) pe_non (nomark _)) (pe_one (XA.pcH GT hr hh rfl (pa_cons (pv 3) (pa_cons (pv 1) pa_nil))))))))
    (pss_one (ps_ret (pe_and (pe_cmpR op_isN (pv 1) pe_non (nomark _)) (pe_one (pe_cmpR op_eq (pm0 GP (pv 2) TP.cl hr) (pv 0) (nomark _))))))), ?_⟩
  refine ⟨_, rfl, z, rfl, np, hz, fun H1 s1 => ?_⟩
  refine ⟨_, rfl, z, rfl, np, hz, fun v b xs H2 hdu s2 pa ez ar hl => ?_, fun n tk H2 hdu s2 => ⟨n, tk, CT, rfl, rfl, XA.match_in Y.mE Y.xE Y.sE, fun ea dd cx pp hea hdd cp => ?_⟩⟩
  · rw [hdu]
    obtain ⟨a, dx, sl, tp, us, rfl, pu⟩ := pa
    refine ⟨_, rfl, rfl, _, rfl, iteT ?_⟩
    refine ⟨_, rfl, a, dx, _, rfl, pu.ins, pf_no (by decide +kernel) (by decide +kernel) (by decide +kernel), _, b, xs, rfl, ⟨a, dx, sl, tp, us, rfl, pu⟩, ar, by omega, fun H3 s3 => ⟨_, rfl, rfl, ?_⟩⟩
    rw [decide_eq_true (congrArg V.str ez.symm)]
    exact q H3 (s1.trans (s2.trans s3))
  · rw [hdu]
    have s3 := same_new (o := XA.ExcA ea CT dd cx) hea
    refine ⟨_, rfl, rfl, _, rfl, iteT ?_⟩
    exact ⟨_, rfl, _, rfl, ea, dd, n, _, rfl, .inr ⟨cx, upd_same⟩, s3 _ _ hdd, rfl, q _ (s1.trans (s2.trans s3))⟩
end
end K25
set_option maxHeartbeats 4000000
namespace K25
open PySem L2 Lo St
section
variable {P : Program} {w : World} {K : PySem.W.Frag} {mg : Str → Option Value} {base : Heap} {f CL CP : Addr} {fd : FuncData} {C : Kd → Addr} {CW : Wd → Addr}
def oddA : List Str := ["", "take", "sum 0 2 1", "take -1 0", "Take 0 0", "add 0 1 2 ", " plus 1", "plus  1", "plus 1 2"]
def oddB : List Str := ["need", "take 0 00", "plus -0", "plus +1", "give 0 -1", Str.ofString "plus 1" ++ Txt.mul (Str.ofString "0") 40, "plus 1;"]
theorem odd_np : ∀ y ∈ oddA ++ oddB, ((∀ c ∈ y.cps.toList, c < 128) ∧ ∀ c ∈ y.cps.toList, c ≠ 40) ∧ y.length ≤ 60 := by decide +kernel
def spOdds : Sp := fun vs H Q _ => vs = [] ∧ ∀ l H', Same H H' → H' l = some (.lst ((oddA ++ oddB).map V.str)) → Q (.ref l) H'
theorem ok_odds (F : Fun K "_law_odds" "_law_odds" s__law_odds f fd) : FnOk P w K mg base CX0 1 f fd [] spOdds := by
  refine F.ok sc__law_odds (fun vs H Q E h => ?_) (fun cdv A outer s H vs Q E hr h => ?_)
  · obtain ⟨rfl, _⟩ := h
    rfl
  obtain ⟨rfl, q⟩ := h
  have nd := sc__law_odds.nd
  refine exb (pssb1 (setb (i := 0) nd rfl (Or.inl rfl) (lstb (pab_s (pab_s (pab_s (pab_s (pab_s (pab_s (pab_s (pab_s (pab_s pab_nil)))))))))))
    ⟨pss_cons (ps_set (i := 0) nd rfl (Or.inl rfl) (pe_op op_cat (pv 0) (lstb (pab_s (pab_s (pab_s (pab_s (pab_s (pab_e ⟨pe_op op_add_str pe_str (pe_op op_mul_str pe_str pe_int)⟩ (pab_s pab_nil)))))))).ps))
    (pss_one (ps_ret (pv 0)))⟩) ?_
  have z9 : 9 ≤ sizeLine := by decide
  have z7 : 7 ≤ sizeLine := by decide
  refine ⟨z9, fun l hl => ?_⟩
  have s1 := same_new (o := .lst (oddA.map V.str)) hl
  have h1 : (upd H l (.lst (oddA.map V.str))) l = some (.lst (oddA.map V.str)) := upd_same
  show (_ : Prop)
  refine ⟨_, rfl, Str.ofString "0", 40, rfl, rfl, by decide, by decide, by decide +kernel, Str.ofString "plus 1", _, rfl, rfl, by decide +kernel, z7, fun l2 hl2 => ?_⟩
  have s2 := same_new (o := .lst (oddB.map V.str)) hl2
  refine ⟨l, l2, oddA.map V.str, oddB.map V.str, rfl, rfl, s2 _ _ h1, upd_same, by decide, fun l3 hl3 => ?_⟩
  refine ⟨_, rfl, q l3 _ (s1.trans (s2.trans (same_new hl3))) ?_⟩
  rw [upd_same, List.map_append]
end
end K25
set_option maxHeartbeats 4000000
namespace K25
open PySem L2 Lo St
section
variable {P : Program} {w : World} {K : PySem.W.Frag} {mg : Str → Option Value} {base : Heap} {f CL CP : Addr} {fd : FuncData} {C : Kd → Addr} {CW : Wd → Addr}
def signT : Str := Str.ofString "0159- ;:;tagnexpu-0 \n"
theorem sign_np : (∀ c ∈ signT.cps.toList, c < 128 ∧ c ≠ 40) ∧ signT.length = 21 := by decide +kernel
theorem cat_np {x y : Str} (hx : Np x) (hy : Np y) : Np (x ++ y) := by
  have e : (x ++ y).cps.toList = x.cps.toList ++ y.cps.toList := by
    show (x.cps ++ y.cps).toList = _
    rw [Array.toList_append]
  refine ⟨fun c hc => ?_, fun c hc => ?_⟩
  · rw [e] at hc
    exact (List.mem_append.mp hc).elim (hx.1 c) (hy.1 c)
  · rw [e] at hc
    exact (List.mem_append.mp hc).elim (hx.2 c) (hy.2 c)
theorem sl_np {x : Str} {lo hi : Option Int} (h : Np x) : Np (Txt.slice x lo hi) := ⟨fun c hc => h.1 c (slice_mem hc), fun c hc => h.2 c (slice_mem hc)⟩
theorem sl_len {x : Str} {lo hi : Option Int} : (Txt.slice x lo hi).length ≤ x.length := by
  unfold Txt.slice
  split
  · exact Nat.le_refl _
  · show (List.toArray _).size ≤ _
    rw [List.size_toArray]
    exact Nat.le_trans (List.length_filterMap_le _ _) (PySem.sliceIndices_le _ _ _)
theorem cat_len {x y : Str} : (x ++ y).length = x.length + y.length := by
  show (x.cps ++ y.cps).size = _
  rw [Array.size_append]
  rfl
def spSpoil : Sp := fun vs H Q _ => ∃ z c, vs = [.str z, .int c] ∧ Np z ∧ z.length ≤ 20000 ∧ ∀ y H', Same H H' → Np y → y.length ≤ 2 * z.length + 60 → Q (.str y) H'
theorem ok_spoiled (F : Fun K "_law_spoiled" "_law_spoiled" s__law_spoiled f fd) (B : TxB mg) (GX : GF P w K mg base CX0 1 "_law_mixed" ["_law_cell_here", "_law_k"] spMixed) {fO : Addr} {dO : FuncData} (FO : FnOk P w K mg base CX0 1 fO dO [] spOdds) (bO : Binds K dO [] []) (kO : PySem.W.keepIn K (.ref fO) = true) (mO : mg "_law_odds" = some (.ref fO)) : FnOk P w K mg base CX0 2 f fd ["_law_text_here", "_law_cell_here"] spSpoil := by
  refine F.ok sc__law_spoiled (fun vs H Q E h => ?_) (fun cdv A outer s H vs Q E hr h => ?_)
  · obtain ⟨z, c, rfl, _⟩ := h
    rfl
  obtain ⟨z, c, rfl, np, hz, q⟩ := h
  have nd := sc__law_spoiled.nd
  refine ⟨_, pss_cons (ps_set (i := 2) nd rfl (Or.inl rfl) (pe_ix ix_str pe_str (pe_op op_mod (pe_op op_fdiv (pv 1) pe_int) pe_int) (fun _ _ => rfl)))
    (pss_cons (ps_set (i := 3) nd rfl (Or.inl rfl) (pe_op op_mod (pc GX hr (pa_cons (pv 1) (pa_cons pe_int pa_nil))) (pe_op op_add (pe_callB call_len_str rfl B.len PySem.boot_len (pa_cons (pv 0) pa_nil)) pe_int)))
    (pss_cons (ps_if (pt_cmpR op_eq (pe_op op_mod (pv 1) pe_int) pe_int (nomark _)) (pss_one (ps_ret (pe_op op_add_str (pe_op op_add_str (pe_slice sl_str (pv 0) po_none (po_some (pv 3))) (pv 2)) (pe_slice sl_str (pv 0) (po_some (pv 3)) po_none)))) pss_nil)
    (pss_cons (ps_if (pt_cmpR op_eq (pe_op op_mod (pv 1) pe_int) pe_int (nomark _)) (pss_one (ps_ret (pe_op op_add_str (pe_op op_add_str (pe_slice sl_str (pv 0) po_none (po_some (pv 3))) (pv 2)) (pe_slice sl_str (pv 0) (po_some (pe_op op_add (pv 3) pe_int)) po_none)))) pss_nil)
    (pss_cons (ps_if (pt_cmpR op_eq (pe_op op_mod (pv 1) pe_int) pe_int (nomark _)) (pss_one (ps_ret (pe_op op_add_str (pe_slice sl_str (pv 0) po_none (po_some (pv 3))) (pe_slice sl_str (pv 0) (po_some (pe_op op_add (pv 3) pe_int)) po_none)))) pss_nil)
    (pss_one (ps_ret (pe_ix (r := rIxL K) ix_list (pe_call0 FO hr rfl mO kO bO .nil pass0) (pe_op op_mod (pe_op op_fdiv (pv 1) pe_int) pe_int) (fun _ _ => rfl)))))))), ?_⟩
  have hs : (100000 : Nat) ≤ sizeLine := by decide
  have m0 := Int.emod_nonneg (c / 8) (show (21 : Int) ≠ 0 by decide)
  have m1 := Int.emod_lt_of_pos (c / 8) (show (0 : Int) < 21 by decide)
  obtain ⟨k, hk⟩ : ∃ k : Nat, c / 8 % 21 = (k : Int) := ⟨(c / 8 % 21).toNat, by omega⟩
  have hk2 : k < signT.cps.toList.length := by
    have := sign_np.2
    simp [Str.length] at this
    rw [Array.length_toList]
    omega
  have hc := List.getElem?_eq_getElem hk2
  obtain ⟨g1, g2⟩ := sign_np.1 _ (List.getElem_mem hk2)
  generalize signT.cps.toList[k] = d at hc g1 g2
  have npd : Np ⟨#[d]⟩ := ⟨fun x hx => by simp at hx; omega, fun x hx => by simp at hx; omega⟩
  have ld : (⟨#[d]⟩ : Str).length = 1 := rfl
  have ek : atI signT.cps.toList (c / 8 % 21) = some d := by
    rw [hk]
    exact atI_nat hc
  refine ⟨_, rfl, _, _, rfl, rfl, ⟨by decide, by decide⟩, _, _, rfl, rfl, (by show (0 : Int) < 21; decide), signT, _, d, rfl, rfl, (by rw [sign_np.2]; decide), ek, ?_⟩
  refine ⟨_, rfl, c, 3, rfl, fun r r0 r1 => ?_⟩
  refine ⟨_, rfl, z, rfl, by omega, _, _, rfl, rfl, _, _, rfl, rfl, (by show (0 : Int) < ((z.length : Nat) : Int) + 1; omega), ?_⟩
  have fin : ∀ y H', Same H H' → Np y → y.length ≤ 2 * z.length + 60 → Q (.str y) H' := q
  have lz : ∀ lo hi, (Txt.slice z lo hi).length ≤ z.length := fun _ _ => sl_len
  refine ⟨_, rfl, _, _, rfl, rfl, (by show (0 : Int) < 4; decide), rfl, _, rfl, ite2 (fun _ => ?_) (fun _ => ?_)⟩
  · have a1 := lz none (some (r % (((z.length : Nat) : Int) + 1)))
    have a2 := lz (some (r % (((z.length : Nat) : Int) + 1))) none
    refine ⟨_, rfl, _, rfl, _, rfl, z, rfl, by omega, _, rfl, _, _, rfl, rfl, by rw [ld]; omega, _, rfl, _, rfl, _, rfl, z, rfl, by omega, _, _, rfl, rfl, by rw [cat_len, ld]; omega, ?_⟩
    exact fin _ H (Same.refl _) (cat_np (cat_np (sl_np np) npd) (sl_np np)) (by rw [cat_len, cat_len, ld]; omega)
  refine ⟨_, rfl, _, _, rfl, rfl, (by show (0 : Int) < 4; decide), rfl, _, rfl, ite2 (fun _ => ?_) (fun _ => ?_)⟩
  · have a1 := lz none (some (r % (((z.length : Nat) : Int) + 1)))
    have a2 := lz (some ((r % (((z.length : Nat) : Int) + 1)) + 1)) none
    refine ⟨_, rfl, _, rfl, _, rfl, z, rfl, by omega, _, rfl, _, _, rfl, rfl, by rw [ld]; omega, _, rfl, _, rfl, _, _, rfl, rfl, _, rfl, z, rfl, by omega, _, _, rfl, rfl, by rw [cat_len, ld]; omega, ?_⟩
    exact fin _ H (Same.refl _) (cat_np (cat_np (sl_np np) npd) (sl_np np)) (by rw [cat_len, cat_len, ld]; omega)
  refine ⟨_, rfl, _, _, rfl, rfl, (by show (0 : Int) < 4; decide), rfl, _, rfl, ite2 (fun _ => ?_) (fun _ => ?_)⟩
  · have a1 := lz none (some (r % (((z.length : Nat) : Int) + 1)))
    have a2 := lz (some ((r % (((z.length : Nat) : Int) + 1)) + 1)) none
    refine ⟨_, rfl, _, rfl, _, rfl, z, rfl, by omega, _, rfl, _, rfl, _, _, rfl, rfl, _, rfl, z, rfl, by omega, _, _, rfl, rfl, by omega, ?_⟩
    exact fin _ H (Same.refl _) (cat_np (sl_np np) (sl_np np)) (by rw [cat_len]; omega)
  have n0 := Int.emod_nonneg (c / 4) (show (16 : Int) ≠ 0 by decide)
  have n1 := Int.emod_lt_of_pos (c / 4) (show (0 : Int) < 16 by decide)
  obtain ⟨k2, hk2'⟩ : ∃ k : Nat, c / 4 % 16 = (k : Int) := ⟨(c / 4 % 16).toNat, by omega⟩
  have l16 : (oddA ++ oddB).length = 16 := by decide
  have hk3 : k2 < (oddA ++ oddB).length := by omega
  have hx := List.getElem?_eq_getElem hk3
  obtain ⟨y1, y2⟩ := odd_np _ (List.getElem_mem hk3)
  refine ⟨rfl, fun l H1 s1 hl => ?_⟩
  refine ⟨_, rfl, _, _, rfl, rfl, ⟨by decide, by decide⟩, _, _, rfl, rfl, (by show (0 : Int) < 16; decide), l, _, _, .str (oddA ++ oddB)[k2], rfl, rfl, SqL.of hl, ?_, ?_⟩
  · rw [hk2']
    exact atI_nat (by rw [List.getElem?_map, hx]; rfl)
  · exact fin _ H1 s1 y1 (by omega)
end
end K25
set_option maxHeartbeats 4000000
namespace K25
open PySem L2 Lo St
section
variable {P : Program} {w : World} {K : PySem.W.Frag} {mg : Str → Option Value} {base : Heap} {f CL CP : Addr} {fd : FuncData} {C : Kd → Addr} {CW : Wd → Addr}
theorem ok_mixed (F : Fun K "_law_mixed" "_law_mixed" s__law_mixed f fd) : FnOk P w K mg base CX0 1 f fd ["_law_cell_here", "_law_k"] spMixed := by
  refine F.ok sc__law_mixed (fun vs H Q E h => ?_) (fun cdv A outer s H vs Q E hr h => ?_)
  · obtain ⟨c, k, rfl, _⟩ := h
    rfl
  obtain ⟨c, k, rfl, q⟩ := h
  have nd := sc__law_mixed.nd
  refine ⟨_, pss_cons (ps_set (i := 2) nd rfl (Or.inl rfl) (pe_op op_mod (pe_op op_mul (pe_op op_add (pe_op op_add (pv 0) (pe_op op_mul pe_int (pv 1))) pe_int) pe_int) pe_int))
    (pss_one (ps_ret (pe_op op_mod (pe_op op_mul (pv 2) (pe_op op_add (pe_op op_fdiv (pv 2) pe_int) pe_int)) pe_int))), ?_⟩
  refine ⟨_, rfl, _, rfl, _, _, rfl, rfl, .inl ⟨by decide +kernel, by decide +kernel⟩, _, _, rfl, rfl, _, _, rfl, rfl, _, _, rfl, rfl, .inr ⟨by decide +kernel, by decide +kernel⟩, _, _, rfl, rfl, (by show (0 : Int) < 2147483647; decide), ?_⟩
  have h0 : 0 ≤ (c + 7919 * k + 1) * 48271 % 2147483647 := Int.emod_nonneg _ (by decide)
  have h1 : (c + 7919 * k + 1) * 48271 % 2147483647 < 2147483647 := Int.emod_lt_of_pos _ (by decide)
  exact ⟨_, rfl, _, rfl, _, _, rfl, rfl, ⟨by decide, by decide⟩, _, _, rfl, rfl, _, _, rfl, rfl, .inl ⟨by omega, by omega⟩, _, _, rfl, rfl, (by show (0 : Int) < 2147483647; decide), q _ (Int.emod_nonneg _ (by decide)) (Int.emod_lt_of_pos _ (by decide))⟩
theorem ok_number (F : Fun K "_law_number" "_law_number" s__law_number f fd) (B : TxB mg) (GX : GF P w K mg base CX0 1 "_law_mixed" ["_law_cell_here", "_law_k"] spMixed) : FnOk P w K mg base CX0 2 f fd ["_law_cell_here", "_law_k"] spNumber := by
  refine F.ok sc__law_number (fun vs H Q E h => ?_) (fun cdv A outer s H vs Q E hr h => ?_)
  · obtain ⟨c, k, rfl, _⟩ := h
    rfl
  obtain ⟨c, k, rfl, q⟩ := h
  have nd := sc__law_number.nd
  refine ⟨_, pss_cons (ps_set (i := 2) nd rfl (Or.inl rfl) (pc GX hr (pa_cons (pv 0) (pa_cons (pv 1) pa_nil))))
    (pss_cons (ps_if (pt_cmpR op_eq (pe_op op_mod (pv 2) pe_int) pe_int (nomark _)) (pss_one (ps_ret (pe_op op_sub (pe_op op_pow pe_int pe_int) pe_int))) pss_nil)
    (pss_cons (ps_if (pt_cmpR op_eq (pe_op op_mod (pv 2) pe_int) pe_int (nomark _)) (pss_one (ps_ret (pe_op op_mod (pe_op op_fdiv (pv 2) pe_int) pe_int))) pss_nil)
    (pss_cons (ps_if (pt_cmpR op_eq (pe_op op_mod (pv 2) pe_int) pe_int (nomark _)) (pss_one (ps_ret (pe_op op_fdiv (pv 2) pe_int))) pss_nil)
    (pss_cons (ps_for PassesOwn.never rfl (pi_range1 rfl B.range (pa_cons pe_int pa_nil)) (pg_name (i := 3) nd rfl (Or.inl rfl))
      (pss_one (ps_set (i := 2) nd rfl (Or.inl rfl) (pe_op op_mul (pv 2) (pe_op op_add pe_int (pc GX hr (pa_cons (pv 0) (pa_cons (pe_op op_add (pv 1) (pe_op op_mul pe_int (pe_op op_add (pv 3) pe_int))) pa_nil))))))))
    (pss_one (ps_ret (pe_op op_mod (pv 2) (pe_op op_pow pe_int pe_int)))))))), ?_⟩
  refine ⟨_, rfl, _, rfl, _, _, rfl, fun r h0 h1 => ?_⟩
  have hbig : (2147483647 : Int) ≤ 10 ^ 40 := by decide +kernel
  refine ⟨_, rfl, _, _, rfl, rfl, (by show (0 : Int) < 23; decide), rfl, _, rfl, ite2 (fun _ => ?_) (fun _ => ?_)⟩
  · exact ⟨_, _, rfl, rfl, ⟨by decide, by decide, by decide⟩, _, _, rfl, rfl, q _ ⟨(by show (0 : Int) ≤ 10 ^ 40 - 1; decide +kernel), (by show (10 : Int) ^ 40 - 1 < 10 ^ 40; decide +kernel)⟩⟩
  refine ⟨_, rfl, _, _, rfl, rfl, (by show (0 : Int) < 3; decide), rfl, _, rfl, ite2 (fun _ => ?_) (fun _ => ?_)⟩
  · exact ⟨_, rfl, _, _, rfl, rfl, ⟨by decide, by decide⟩, _, _, rfl, rfl, (by show (0 : Int) < 9; decide), q _ ⟨Int.emod_nonneg _ (by decide), Int.lt_of_lt_of_le (Int.emod_lt_of_pos _ (by decide)) (by decide +kernel)⟩⟩
  refine ⟨_, rfl, _, _, rfl, rfl, (by show (0 : Int) < 3; decide), rfl, _, rfl, ite2 (fun _ => ?_) (fun _ => ?_)⟩
  · exact ⟨_, rfl, _, _, rfl, rfl, ⟨by decide, by decide⟩, q _ ⟨Int.ediv_nonneg h0 (by decide), Int.lt_of_lt_of_le (show r / 3 < 2147483647 by omega) hbig⟩⟩
  refine ⟨4, rfl, by decide, by decide, ?_⟩
  refine for_range (n := 4) (fun i σ H' => H' = H ∧ ∃ m x3, σ = [some (.int c), some (.int k), some (.int m), x3]) ⟨rfl, _, none, rfl⟩ ?_ ?_
  · rintro i σ H1 hi ⟨rfl, m, x3, rfl⟩
    exact ⟨_, rfl, _, rfl, _, rfl, _, rfl, _, _, rfl, rfl, _, _, rfl, rfl, .inl ⟨by decide +kernel, by decide +kernel⟩, _, _, rfl, rfl, _, _, rfl, fun r2 g0 g1 => ⟨_, _, rfl, rfl, _, _, rfl, rfl, .inr ⟨by omega, by omega⟩, rfl, _, _, rfl⟩⟩
  · rintro σ H1 ⟨rfl, m, x3, rfl⟩
    exact ⟨_, rfl, _, _, rfl, rfl, ⟨by decide, by decide, by decide⟩, _, _, rfl, rfl, (by show (0 : Int) < 10 ^ 40; decide +kernel), q _ ⟨Int.emod_nonneg _ (by show (10 : Int) ^ 40 ≠ 0; decide +kernel), Int.emod_lt_of_pos _ (by show (0 : Int) < 10 ^ 40; decide +kernel)⟩⟩
theorem ok_either (F : Fun K "_law_either" "_law_either" s__law_either f fd) (GX : GF P w K mg base CX0 1 "_law_mixed" ["_law_cell_here", "_law_k"] spMixed) (GN : GF P w K mg base CX0 2 "_law_number" ["_law_cell_here", "_law_k"] spNumber) : FnOk P w K mg base CX0 3 f fd ["_law_cell_here", "_law_k"] spEither := by
  refine F.ok sc__law_either (fun vs H Q E h => ?_) (fun cdv A outer s H vs Q E hr h => ?_)
  · obtain ⟨c, k, rfl, _⟩ := h
    rfl
  obtain ⟨c, k, rfl, q⟩ := h
  refine ⟨_, pss_cons (ps_if (pt_cmpR op_eq (pe_op op_mod (pc GX hr (pa_cons (pv 0) (pa_cons (pe_op op_add (pv 1) pe_int) pa_nil))) pe_int) pe_int (nomark _)) (pss_one (ps_ret (pe_op op_sub pe_int (pc GN hr (pa_cons (pv 0) (pa_cons (pv 1) pa_nil)))))) pss_nil)
    (pss_one (ps_ret (pc GN hr (pa_cons (pv 0) (pa_cons (pv 1) pa_nil))))), ?_⟩
  refine ⟨_, rfl, _, rfl, _, _, rfl, rfl, _, _, rfl, fun r h0 h1 => ⟨_, _, rfl, rfl, (by show (0 : Int) < 2; decide), rfl, _, rfl, ite2 (fun _ => ?_) (fun _ => ?_)⟩⟩
  · refine ⟨_, rfl, _, rfl, _, _, rfl, fun r hr => ⟨_, _, rfl, rfl, q _ ?_⟩⟩
    show (0 - r).natAbs < 10 ^ 40
    have := hr.v
    unfold St.inV at this
    omega
  · exact ⟨_, rfl, _, rfl, _, _, rfl, fun r hr => q _ hr.v⟩
theorem ok_lstep (F : Fun K "_law_step" "_law_step" s__law_step f fd) (B : TxB mg) (hmin : mg "min" = none) (GN : GF P w K mg base CX0 2 "_law_number" ["_law_cell_here", "_law_k"] spNumber) (GE : GF P w K mg base CX0 3 "_law_either" ["_law_cell_here", "_law_k"] spEither) : FnOk P w K mg base CX0 24 f fd ["_law_cell_here"] spLStep := by
  refine F.ok sc__law_step (fun vs H Q E h => ?_) (fun cdv A outer s H vs Q E hr h => ?_)
  · obtain ⟨c, rfl, _⟩ := h
    rfl
  obtain ⟨c, rfl, q⟩ := h
  have nd := sc__law_step.nd
  obtain ⟨wd, hw⟩ := w_of (c % 7) (Int.emod_nonneg _ (by decide)) (Int.emod_lt_of_pos _ (by decide))
  refine ⟨_, pss_cons (ps_set (i := 1) nd rfl (Or.inl rfl) (pe_ix (r := rIxL K) ix_list (lstb (pab_s (pab_s (pab_s (pab_s (pab_s (pab_s (pab_s pab_nil)))))))).ps (pe_op op_mod (pv 0) pe_int) (fun _ _ => rfl)))
    (pss_cons (ps_set (i := 2) nd rfl (Or.inl rfl) (pc GN hr (pa_cons (pv 0) (pa_cons pe_int pa_nil))))
    (pss_cons (ps_set (i := 3) nd rfl (Or.inl rfl) (pc GN hr (pa_cons (pv 0) (pa_cons pe_int pa_nil))))
    (pss_cons (ps_set (i := 4) nd rfl (Or.inl rfl) (pc GN hr (pa_cons (pv 0) (pa_cons pe_int pa_nil))))
    (pss_cons (ps_if (PW.pt (pw_or (pt_cmpR op_eq (pv 1) pe_str (nomark _)) (pw_or1 (pt_cmpR op_eq (pv 1) pe_str (nomark _))))) (pss_one (ps_ret (pe_tup (pa_cons (pv 1) (pa_cons (pc GE hr (pa_cons (pv 0) (pa_cons pe_int pa_nil))) pa_nil))))) pss_nil)
    (pss_cons (ps_if (pt_cmpR op_eq (pv 1) pe_str (nomark _)) (pss_one (ps_ret (pe_tup (pa_cons (pv 1) (pa_cons (pv 2) (pa_cons (pv 3) (pa_cons (pc GE hr (pa_cons (pv 0) (pa_cons pe_int pa_nil))) pa_nil))))))) pss_nil)
    (pss_cons (ps_if (pt_cmpR op_eq (pv 1) pe_str (nomark _)) (pss_one (ps_ret (pe_tup (pa_cons (pv 1) (pa_cons (pv 2) (pa_cons (pe_callB (call_min2 (hr.hd (by decide))) rfl hmin PyProof.Rows.boot_min (pa_cons (pv 3) (pa_cons (pv 4) pa_nil))) (pa_cons (pe_callB (call_max2 (hr.hd (by decide))) rfl B.max PyProof.Rows.boot_max (pa_cons (pv 3) (pa_cons (pv 4) pa_nil))) pa_nil))))))) pss_nil)
    (pss_one (ps_ret (pe_tup (pa_cons (pv 1) (pa_cons (pv 2) (pa_cons (pv 3) pa_nil))))))))))))  , ?_⟩
  refine ⟨(by show 7 ≤ sizeLine; decide), fun l hl => ?_⟩
  have s1 : Same H _ := same_new (o := .lst [.str "take", .str "mean", .str "sum", .str "give", .str "add", .str "plus", .str "need"]) hl
  refine ⟨_, rfl, _, _, rfl, rfl, (by show (0 : Int) < 7; decide), l, _, _, _, rfl, rfl, SqL.of upd_same, hw, ?_⟩
  generalize (upd H l _) = H1 at s1 ⊢
  refine ⟨_, rfl, _, _, rfl, fun x hx => ⟨_, rfl, _, _, rfl, fun y hy => ⟨_, rfl, _, _, rfl, fun z hz => ?_⟩⟩⟩
  have pn : ∀ (hw : wd = .plus ∨ wd = .need) (r : Int), inV r → Ar wd [r] := fun hw r hr => by rcases hw with rfl | rfl <;> exact hr
  refine ⟨_, rfl, rfl, _, rfl, ite2 (fun c => iteT ?_) (fun c1 => ⟨_, rfl, rfl, _, rfl, ite2 (fun c => ?_) (fun c2 => ?_)⟩)⟩
  · exact ⟨_, rfl, _, rfl, _, _, rfl, fun r hr => ⟨(by show 2 ≤ sizeLine; decide), fun t ht => q wd [r] _ _ (pn (.inl (w_hit c)) r hr) (s1.trans (same_new ht)) ⟨t, rfl, upd_same⟩⟩⟩
  · exact ⟨_, rfl, _, rfl, _, _, rfl, fun r hr => ⟨(by show 2 ≤ sizeLine; decide), fun t ht => q wd [r] _ _ (pn (.inr (w_hit c)) r hr) (s1.trans (same_new ht)) ⟨t, rfl, upd_same⟩⟩⟩
  refine ⟨_, rfl, rfl, _, rfl, ite2 (fun c => ?_) (fun c3 => ?_)⟩
  · obtain rfl : wd = .add := w_hit c
    exact ⟨_, rfl, _, rfl, _, rfl, _, rfl, _, _, rfl, fun r hr => ⟨(by show 4 ≤ sizeLine; decide), fun t ht => q .add [x, y, r] _ _ ⟨hx, hy, hr⟩ (s1.trans (same_new ht)) ⟨t, rfl, upd_same⟩⟩⟩
  refine ⟨_, rfl, rfl, _, rfl, ite2 (fun c => ?_) (fun c4 => ?_)⟩
  · obtain rfl : wd = .sum := w_hit c
    refine ⟨_, rfl, _, rfl, _, rfl, _, rfl, _, _, rfl, _, rfl, _, rfl, _, _, rfl, (by show 4 ≤ sizeLine; decide), fun t ht => q .sum [x, if z < y then z else y, if z > y then z else y] _ _ ⟨hx, ?_, ?_, ?_⟩ (s1.trans (same_new ht)) ⟨t, rfl, upd_same⟩⟩
    · split
      · exact hz
      · exact hy
    · split
      · exact hz
      · exact hy
    · split <;> split <;> omega
  · refine ⟨_, rfl, _, rfl, _, rfl, (by show 3 ≤ sizeLine; decide), fun t ht => q wd [x, y] _ _ ?_ (s1.trans (same_new ht)) ⟨t, rfl, upd_same⟩⟩
    have n1 := w_miss (b := .plus) c1
    have n2 := w_miss (b := .need) c2
    have n3 := w_miss (b := .add) c3
    have n4 := w_miss (b := .sum) c4
    cases wd <;> first | contradiction | exact ⟨hx, hy⟩
theorem ok_ltext (F : Fun K "_law_text" "_law_text" s__law_text f fd) (B : TxB mg) : FnOk P w K mg base CX0 1 f fd ["_law_step_here"] spLText := by
  refine F.ok sc__law_text (fun vs H Q E h => ?_) (fun cdv A outer s H vs Q E hr h => ?_)
  · obtain ⟨wd, ns, v, rfl, _⟩ := h
    rfl
  obtain ⟨wd, ns, v, rfl, ⟨b, rfl, hb⟩, ar, q⟩ := h
  have hl3 := ar.len
  refine ⟨_, pss_one (ps_ret (pe_bm PySem.F.plainAttrs_str PySem.F.slot_str_join PySem.F.type_str_join mt_join pe_str (pa_cons (pe_op op_cat (pe_lst (pa_cons (pe_ix (r := rIxT K) ix_tup (pv 0) pe_int (fun _ _ => rfl)) pa_nil)) (pe_lc sb__law_text_0 rfl (pi_tup (pe_slice sl_tup (pv 0) (po_some pe_int) po_none)) (fun _ _ _ _ => pts_nil) (fun _ _ _ _ => pe_callTy call_str_int rfl B.str PyProof.Rows.boot_str (pa_cons (pv 0) pa_nil)))) pa_nil))), ?_⟩
  refine ⟨rfl, _, rfl, b, _, _, _, rfl, rfl, SqT.of hb, St.at0, (by show 1 ≤ sizeLine; decide), fun l hl => ?_⟩
  have s1 : Same H _ := same_new (o := .lst [.str (wS wd)]) hl
  refine ⟨_, rfl, _, rfl, b, _, rfl, SqT.of (s1 _ _ hb), cut_one_no _ _, fun t ht => ?_⟩
  rw [cut_one]
  have s2 : Same H _ := s1.trans (same_new (o := .tup (ns.map V.int)) ht)
  have el0 : (upd (upd H l (.lst [.str (wS wd)])) t (.tup (ns.map V.int))) l = some (.lst [.str (wS wd)]) := same_new ht _ _ upd_same
  have et0 : (upd (upd H l (.lst [.str (wS wd)])) t (.tup (ns.map V.int))) t = some (.tup (ns.map V.int)) := upd_same
  generalize (upd (upd H l _) t _) = H0 at s2 el0 et0 ⊢
  refine ⟨t, rfl, ⟨_, SqT.of et0⟩, ?_⟩
  refine lc_intsT (g := fun i => V.str (iS i)) (ns := ns) et0 (Nat.le_trans hl3.2 (by decide)) (fun i H1 Q hi s3 h => ?_) (fun H1 s3 p hp => ?_)
  · exact ⟨_, rfl, i, rfl, log_v (ar.all i hi), h H1 (Same.refl _)⟩
  · refine ⟨l, p, _, _, rfl, rfl, same_new hp _ _ (s3 _ _ el0), upd_same, ?_, fun p2 hp2 => ?_⟩
    · have h5 : (ns.map fun i => V.str (iS i)).length = ns.length := List.length_map _
      have h6 : ([V.str (wS wd)] : List V).length = 1 := rfl
      have h7 : (4 : Nat) ≤ sizeLine := by decide
      omega
    · have e : ([V.str (wS wd)] ++ ns.map fun i => V.str (iS i)) = (wS wd :: ns.map iS).map V.str := by simp
      refine ⟨_, p2, wS wd :: ns.map iS, rfl, rfl, SqL.of (by rw [upd_same, e]), Nat.le_trans (words_sum ar) (by decide), ?_⟩
      exact q _ (s2.trans (s3.trans ((same_new hp).trans (same_new hp2))))
theorem ok_lcell (F : Fun K "_law_cell" "_law_cell" s__law_cell f fd) (B : TxB mg) : FnOk P w K mg base CX0 1 f fd ["_law_script", "_law_k"] (spCell K) := by
  refine F.ok sc__law_cell (fun vs H Q E h => ?_) (fun cdv A outer s H vs Q E hr h => ?_)
  · obtain ⟨a, ns, k, rfl, _⟩ := h
    rfl
  obtain ⟨a, ns, k, rfl, hS, q⟩ := h
  refine ⟨_, pss_cons (ps_if (pt_cmpR op_lt (pv 1) (pe_callB call_len_seq rfl B.len PySem.boot_len (pa_cons (pv 0) pa_nil)) (nomark _)) (pss_one (ps_ret (pe_ix ix_list (pv 0) (pv 1) (fun _ _ => rfl)))) pss_nil)
    (pss_one (ps_ret pe_int)), ?_⟩
  refine ⟨_, rfl, _, rfl, a, _, rfl, .inl hS, _, _, rfl, rfl, _, rfl, ?_⟩
  refine ite2 (fun c => ?_) (fun c => ?_)
  · have c' : (k : Int) < (((ns.map V.int).length : Nat) : Int) := of_decide_eq_true c
    rw [List.length_map] at c'
    have hk : k < ns.length := by omega
    have q1 : atI (ns.map V.int) ((k : Nat) : Int) = some (.int ns[k]) := atI_nat (by rw [List.getElem?_map, List.getElem?_eq_getElem hk] <;> rfl)
    have e : cellAt ns k = ns[k] := by unfold cellAt; rw [List.getElem?_eq_getElem hk]; rfl
    rw [e] at q
    exact ⟨_, rfl, _, rfl, a, _, _, _, rfl, rfl, hS, q1, q⟩
  · have c' : ¬ (k : Int) < (((ns.map V.int).length : Nat) : Int) := fun z => c (decide_eq_true z)
    rw [List.length_map] at c'
    have e : cellAt ns k = 0 := by unfold cellAt; rw [List.getElem?_eq_none (by omega)]; rfl
    rw [e] at q
    exact q
end
end K25
set_option maxHeartbeats 4000000
namespace K25
open PySem L2 Lo St
section
variable {P : Program} {w : World} {K : PySem.W.Frag} {mg : Str → Option Value} {base : Heap} {f CL CP : Addr} {fd : FuncData} {C : Kd → Addr} {CW : Wd → Addr}
theorem joinC_in {c : Nat} : ∀ {ps : List (List Nat)} {x : Nat}, x ∈ Km.joinC c ps → x = c ∨ ∃ p ∈ ps, x ∈ p
  | [], x, h => by cases h
  | [p], x, h => .inr ⟨p, List.mem_cons_self, h⟩
  | p :: r :: ps, x, h => by
    rcases List.mem_append.mp (show x ∈ p ++ c :: Km.joinC c (r :: ps) from h) with y | y
    · exact .inr ⟨p, List.mem_cons_self, y⟩
    · rcases List.mem_cons.mp y with y | y
      · exact .inl y
      · rcases joinC_in y with y | ⟨q, hq, hx⟩
        · exact .inl y
        · exact .inr ⟨q, List.mem_cons_of_mem _ hq, hx⟩
theorem wS_np (wd : Wd) : ∀ c ∈ (wS wd).cps.toList, c < 128 ∧ c ≠ 40 := by cases wd <;> decide +kernel
theorem txt_np (wd : Wd) (ns : List Int) : Np (txt wd ns) := by
  have h : ∀ c ∈ (txt wd ns).cps.toList, c < 128 ∧ c ≠ 40 := fun c hc => by
    have e := Km.join_one_cs 32 (wS wd :: ns.map iS)
    have e2 : (txt wd ns).cps.toList = Km.joinC 32 ((wS wd :: ns.map iS).map fun y => y.cps.toList) := by
      rw [← e]
      unfold txt
      rw [sep_eq]
    rw [e2] at hc
    rcases joinC_in hc with y | ⟨p, hp, hx⟩
    · omega
    · obtain ⟨y, hy, rfl⟩ := List.mem_map.mp hp
      rcases List.mem_cons.mp hy with e3 | e3
      · subst e3
        exact wS_np wd c hx
      · obtain ⟨i, _, rfl⟩ := List.mem_map.mp e3
        rw [iS_cs] at hx
        rcases num_in hx with z | z
        · omega
        · omega
  exact ⟨fun c hc => (h c hc).1, fun c hc => (h c hc).2⟩
theorem join_np {sep : Str} (hs : Np sep) : ∀ {ys : List Str}, (∀ y ∈ ys, Np y) → Np (Str.join sep ys)
  | [], _ => by
    have e : (Str.join sep []).cps.toList = [] := by simp [Str.join, Str.empty]
    exact ⟨fun c hc => absurd (e ▸ hc) List.not_mem_nil, fun c hc => absurd (e ▸ hc) List.not_mem_nil⟩
  | [q], h => by
    have e : Str.join sep [q] = q := by simp [Str.join]
    rw [e]
    exact h q List.mem_cons_self
  | q :: r :: ys, h => by
    rw [PyProof.Rows.join_cons_cons]
    exact cat_np (cat_np (h q List.mem_cons_self) hs) (join_np hs fun y hy => h y (List.mem_cons_of_mem _ hy))
theorem pairS {K : PySem.W.Frag} {H : Hp} : ∀ ts : List Str, Paired (cStr.rp K H) ts (ts.map V.str)
  | [] => .nil
  | _ :: ts => .cons rfl (pairS ts)
theorem at_mod {xs : List Str} {m n : Int} (hn : ((xs.length : Nat) : Int) = n) (h0 : 0 < n) : ∃ y, y ∈ xs ∧ atI (xs.map V.str) (m % n) = some (.str y) := by
  have e0 : 0 ≤ m % n := Int.emod_nonneg _ (by omega)
  have e1 : m % n < n := Int.emod_lt_of_pos _ h0
  obtain ⟨k, hk⟩ : ∃ k : Nat, m % n = (k : Int) := ⟨(m % n).toNat, by omega⟩
  have hk2 : k < xs.length := by omega
  refine ⟨xs[k], List.getElem_mem hk2, ?_⟩
  rw [hk]
  exact atI_nat (by rw [List.getElem?_map, List.getElem?_eq_getElem hk2]; rfl)
theorem cut_strs (ts : List Str) (lo hi : Option Int) : ∃ us : List Str, cutV (ts.map V.str) lo hi = us.map V.str ∧ us.length ≤ ts.length ∧ ∀ y ∈ us, y ∈ ts := by
  refine ⟨(ts.drop (HT.sIx (ts.map V.str).length 0 lo)).take (HT.sIx (ts.map V.str).length (ts.map V.str).length hi - HT.sIx (ts.map V.str).length 0 lo), ?_, ?_, fun y hy => List.mem_of_mem_drop (List.mem_of_mem_take hy)⟩
  · unfold cutV
    rw [List.map_take, List.map_drop]
  · rw [List.length_take, List.length_drop]
    omega
theorem cut319 (ns : List Int) : ∃ cs : List Int, cutV (ns.map V.int) (some 3) (some 19) = cs.map V.int ∧ cs.length ≤ 16 := by
  have e1 : HT.sIx (ns.map V.int).length 0 (some 3) = min 3 (ns.map V.int).length := HT.sIx_nat _ _ 3
  have e2 : HT.sIx (ns.map V.int).length (ns.map V.int).length (some 19) = min 19 (ns.map V.int).length := HT.sIx_nat _ _ 19
  refine ⟨(ns.drop (min 3 (ns.map V.int).length)).take (min 19 (ns.map V.int).length - min 3 (ns.map V.int).length), ?_, ?_⟩
  · unfold cutV
    rw [e1, e2, List.map_take, List.map_drop]
  · rw [List.length_take, List.length_drop]
    omega
def Prt (K : PySem.W.Frag) (a : Addr) (ns : List Int) (bd : Nat) (H : Hp) (p : Addr) (ts : List Str) : Prop :=
  ∃ H0, SqL K H0 a (ns.map V.int) ∧ Same H0 H ∧ H0 p = none ∧ H p = some (.lst (ts.map V.str)) ∧ ts.length ≤ 16 ∧ ∀ y ∈ ts, Np y ∧ y.length ≤ bd
section
variable {a p : Addr} {ns : List Int} {bd : Nat} {H H' : Hp} {ts : List Str}
theorem Prt.seq (h : Prt K a ns bd H p ts) : SqL K H a (ns.map V.int) := by
  obtain ⟨H0, h1, h2, _⟩ := h
  exact h2.seq h1
theorem Prt.lst (h : Prt K a ns bd H p ts) : H p = some (.lst (ts.map V.str)) := by
  obtain ⟨H0, _, _, _, h4, _⟩ := h
  exact h4
theorem Prt.len (h : Prt K a ns bd H p ts) : ts.length ≤ 16 := by
  obtain ⟨H0, _, _, _, _, h5, _⟩ := h
  exact h5
theorem Prt.all (h : Prt K a ns bd H p ts) : ∀ y ∈ ts, Np y ∧ y.length ≤ bd := by
  obtain ⟨H0, _, _, _, _, _, h6⟩ := h
  exact h6
theorem Prt.keep (h : Prt K a ns bd H p ts) (s : Same H H') : Prt K a ns bd H' p ts := by
  obtain ⟨H0, h1, h2, h3, h4, h5⟩ := h
  exact ⟨H0, h1, h2.trans s, h3, s _ _ h4, h5⟩
theorem Prt.more (h : Prt K a ns bd H p ts) {b2 : Nat} (hb : bd ≤ b2) : Prt K a ns b2 H p ts := by
  obtain ⟨H0, h1, h2, h3, h4, h5, h6⟩ := h
  exact ⟨H0, h1, h2, h3, h4, h5, fun y hy => ⟨(h6 y hy).1, Nat.le_trans (h6 y hy).2 hb⟩⟩
theorem Prt.set (h : Prt K a ns bd H p ts) {j : Nat} {y : Str} (np : Np y) (hy : y.length ≤ bd) : Prt K a ns bd (upd H p (.lst ((ts.map V.str).set j (.str y)))) p (ts.set j y) := by
  obtain ⟨H0, h1, h2, h3, h4, h5, h6⟩ := h
  refine ⟨H0, h1, fun b o e => ?_, h3, ?_, by rw [List.length_set]; exact h5, fun x hx => ?_⟩
  · rw [upd_ne (ne_of_none e h3)]
    exact h2 b o e
  · rw [upd_same, List.map_set]
  · rcases List.mem_or_eq_of_mem_set hx with z | z
    · exact h6 x z
    · rw [z]
      exact ⟨np, hy⟩
theorem prt_new (hS : SqL K H a (ns.map V.int)) (hp : H p = none) (hl : ts.length ≤ 16) (h : ∀ y ∈ ts, Np y ∧ y.length ≤ bd) : Prt K a ns bd (upd H p (.lst (ts.map V.str))) p ts :=
  ⟨H, hS, same_new hp, hp, upd_same, hl, h⟩
end
def bnd : Nat → Nat
  | 0 => 1000
  | n + 1 => 2 * bnd n + 60
def manA : List Str := ["held", "walked"]
def manB : List Str := ["Held", "walk", "heldwalked", "", " held", "walked ", "held;"]
theorem man_np : ∀ y ∈ manA ++ manB, ((∀ c ∈ y.cps.toList, c < 128) ∧ ∀ c ∈ y.cps.toList, c ≠ 40) ∧ y.length ≤ 20 := by decide +kernel
theorem pss_wk {X : Cx} {st : List Stmt} {t u : TS} (h : PSs X st t) (hw : ∀ D σ H, u D σ H → t D σ H) : PSs X st u := pss_weak u h hw
def u25a (K : PySem.W.Frag) : TS := fun D σ H => ∃ a ns p ts, σ = [some (.ref a), some (.ref p), none, none, none, none] ∧ Prt K a ns 1000 H p ts ∧ 0 < ts.length ∧ ∀ H', D.rt (.bl true) H'
def u25b (K : PySem.W.Frag) : TS := fun D σ H => ∃ a ns p ts x2 x3, σ = [some (.ref a), some (.ref p), x2, x3, none, none] ∧ Prt K a ns 5000 H p ts ∧ ∀ H', D.rt (.bl true) H'
def u25c (K : PySem.W.Frag) : TS := fun D σ H => ∃ a ns p ts x2 x3 m, σ = [some (.ref a), some (.ref p), x2, x3, some (.str m), none] ∧ Prt K a ns 5000 H p ts ∧ Np m ∧ m.length ≤ 20 ∧ ∀ H', D.rt (.bl true) H'
def spLawK (K : PySem.W.Frag) : Sp := fun vs H Q _ => ∃ a ns, vs = [.ref a] ∧ SqL K H a ((ns : List Int).map V.int) ∧ ns.length ≤ 63 ∧ ∀ H', Q (.bl true) H'
theorem ok_law {fO : Addr} {dO : FuncData} (F : Fun K "law" "law" s_law f fd) (B : TxB mg)
    (GA : GF P w K mg base CX0 1 "_law_cell" ["_law_script", "_law_k"] (spCell K)) (GX : GF P w K mg base CX0 24 "_law_step" ["_law_cell_here"] spLStep) (GT : GF P w K mg base CX0 2 "_law_text" ["_law_step_here"] spLText)
    (FO : FnOk P w K mg base CX0 1 fO dO [] spOdds) (bO : Binds K dO [] []) (kO : PySem.W.keepIn K (.ref fO) = true) (mO : mg "_law_odds" = some (.ref fO))
    (GP : GF P w K mg base CX0 2 "_law_spoiled" ["_law_text_here", "_law_cell_here"] spSpoil) (GS : GF P w K mg base CX0 29 "_law_step_right" ["_law_text_here"] spSR) (GR : GF P w K mg base CX0 29 "_law_pact_right" ["_law_text_here"] spPR) : FnOk P w K mg base CX0 30 f fd ["_law_script"] (spLawK K) := by
  refine F.ok sc_law (fun vs H Q E h => ?_) (fun cdv A outer s H vs Q E hr h => ?_)
  · obtain ⟨a, ns, rfl, _⟩ := h
    rfl
  obtain ⟨a, ns, rfl, hS, hl, q⟩ := h
  have nd := sc_law.nd
  have hr1 : Room 1 _ := hr.mono (by decide)
  refine ⟨_, pss_cons (ps_setLC (j := 1) nd rfl (Or.inl rfl) sb_law_0 rfl (pi_list (pe_slice sl_list (pv 0) (po_some pe_int) (po_some pe_int))) (fun _ _ _ _ => pts_nil) (fun _ _ _ _ => pc GT hr (pa_cons (pc GX hr (pa_cons (pv 0) pa_nil)) pa_nil)))
    (pss_cons (ps_if (pt_cmpR (op_eqL cStr (hun hr)) (pv 1) (pe_lst pa_nil) (nomark _)) (pss_one (ps_set (i := 1) nd rfl (Or.inl rfl) (pe_lst (pa_cons (pe_ix (r := rIxL K) ix_list (pe_call0 FO hr1 rfl mO kO bO .nil pass0) (pe_op op_mod (pc GA hr (pa_cons (pv 0) (pa_cons pe_int pa_nil))) pe_int) (fun _ _ => rfl)) pa_nil)))) pss_nil)
    (pss_wk (u := u25a K) (pss_cons (ps_for PassesOwn.never rfl (pi_range1 rfl B.range (pa_cons (pe_op op_mod (pc GA hr (pa_cons (pv 0) (pa_cons pe_int pa_nil))) pe_int) pa_nil)) (pg_name (i := 2) nd rfl (Or.inl rfl))
      (pss_cons (ps_set (i := 3) nd rfl (Or.inl rfl) (pe_op op_mod (pc GA hr (pa_cons (pv 0) (pa_cons (pe_op op_add pe_int (pv 2)) pa_nil))) (pe_callB call_len_seq rfl B.len PySem.boot_len (pa_cons (pv 1) pa_nil))))
      (pss_one (ps_asg (pc GP hr (pa_cons (pe_ix (r := rIxL K) ix_list (pv 1) (pv 3) (fun _ _ => rfl)) (pa_cons (pe_op op_fdiv (pc GA hr (pa_cons (pv 0) (pa_cons (pe_op op_add pe_int (pv 2)) pa_nil))) pe_int) pa_nil))) (pg_sub (pv 1) (pv 3) set_list)))))
    (pss_wk (u := u25b K) (pss_cons (ps_if (pt_cmpR op_gt (pe_op op_mod (pe_op op_fdiv (pc GA hr (pa_cons (pv 0) (pa_cons pe_int pa_nil))) pe_int) pe_int) pe_int (nomark _)) (pss_one (ps_set (i := 1) nd rfl (Or.inl rfl) (pe_slice sl_list (pv 1) po_none (po_some (pe_op op_add pe_int (pe_op op_mod (pc GA hr (pa_cons (pv 0) (pa_cons pe_int pa_nil))) pe_int)))))) pss_nil)
    (pss_wk (u := u25b K) (pss_cons (ps_set (i := 4) nd rfl (Or.inl rfl) (pe_ix (r := rIxL K) ix_list (lstb (pab_s (pab_s pab_nil))).ps (pe_op op_mod (pe_op op_fdiv (pc GA hr (pa_cons (pv 0) (pa_cons pe_int pa_nil))) pe_int) pe_int) (fun _ _ => rfl)))
    (pss_cons (ps_if (pt_cmpR op_eq (pe_op op_mod (pe_op op_fdiv (pc GA hr (pa_cons (pv 0) (pa_cons pe_int pa_nil))) pe_int) pe_int) pe_int (nomark _)) (pss_one (ps_set (i := 4) nd rfl (Or.inl rfl) (pe_ix (r := rIxL K) ix_list (lstb (pab_s (pab_s (pab_s (pab_s (pab_s (pab_s (pab_s pab_nil)))))))).ps (pe_op op_mod (pc GA hr (pa_cons (pv 0) (pa_cons pe_int pa_nil))) pe_int) (fun _ _ => rfl)))) pss_nil)
    (pss_wk (u := u25c K) (pss_cons (ps_for PassesOwn.never rfl (pi_list (pe_op op_cat (pe_slice sl_list (pv 1) po_none (po_some pe_int)) (pe_call0 FO hr1 rfl mO kO bO .nil pass0))) (pg_name (i := 5) nd rfl (Or.inl rfl)) (pss_one (ps_if (pt_not (pt_val (pc GS hr (pa_cons (pv 5) pa_nil)))) pss_never pss_nil)))
    (pss_cons (ps_if (pt_not (pt_val (pc GR hr (pa_cons (pe_op op_add_str (pe_op op_add_str (pv 4) pe_str) (pe_bm PySem.F.plainAttrs_str PySem.F.slot_str_join PySem.F.type_str_join mt_join pe_str (pa_cons (pv 1) pa_nil))) pa_nil)))) pss_never pss_nil)
    (pss_one (ps_ret (pc GR hr (pa_cons (pv 4) pa_nil)))))) ?c))) ?m)) ?b)) ?f)), ?_⟩
  case c =>
    rintro D σ H ⟨a, ns, p, ts, x2, x3, m, rfl, pt, mp, ml, q⟩
    have hs : (100000 : Nat) ≤ sizeLine := by decide
    have l1 : (Str.ofString " ").length = 1 := by decide +kernel
    have l2 : (Str.ofString "; ").length = 2 := by decide +kernel
    obtain ⟨us, eu, lu, mu⟩ := cut_strs ts none (some 4)
    have lt := pt.len
    refine ⟨_, rfl, _, rfl, p, _, rfl, SqL.of pt.lst, fun l hl => ?_⟩
    rw [eu]
    refine ⟨rfl, fun lb H2 s2 h2 => ?_⟩
    have s1 := (same_new (o := .lst (us.map V.str)) hl).trans s2
    have h1 : H2 l = some (.lst (us.map V.str)) := s2 _ _ upd_same
    refine ⟨l, lb, _, _, rfl, rfl, h1, h2, ?_, fun l3 hl3 => ?_⟩
    · rw [List.length_map, List.length_map]
      have : (oddA ++ oddB).length = 16 := by decide
      omega
    rw [← List.map_append]
    have s3 := s1.trans (same_new (o := .lst ((us ++ (oddA ++ oddB)).map V.str)) hl3)
    have h3 : (upd H2 l3 (.lst ((us ++ (oddA ++ oddB)).map V.str))) l3 = some (.lst ((us ++ (oddA ++ oddB)).map V.str)) := upd_same
    generalize (upd H2 l3 (HO.lst ((us ++ (oddA ++ oddB)).map V.str))) = H3 at s3 h3 ⊢
    refine ⟨l3, rfl, ⟨_, SqL.of h3⟩, ?_⟩
    refine for_list (xs := (us ++ (oddA ++ oddB)).map V.str) (fun i σ H' => Same H3 H' ∧ ∃ x5, σ = [some (.ref a), some (.ref p), x2, x3, some (.str m), x5]) ⟨Same.refl _, none, rfl⟩ (fun i σ H' _ z => SqL.of (z.1 _ _ h3)) ?_ ?_
    · rintro i x σ H4 hx ⟨s4, x5, rfl⟩
      obtain ⟨y, hy, rfl⟩ := List.mem_map.mp (List.mem_of_getElem? hx)
      have ny : Np y ∧ y.length ≤ 5000 := by
        rcases List.mem_append.mp hy with z | z
        · exact pt.all y (mu y z)
        · obtain ⟨g1, g2⟩ := odd_np y z
          exact ⟨g1, by omega⟩
      exact ⟨_, rfl, y, rfl, ny.1, by omega, fun H5 s5 => ⟨_, rfl, iteF ⟨s4.trans s5, _, rfl⟩⟩⟩
    · rintro σ H4 ⟨s4, x5, rfl⟩
      have pt4 := pt.keep (s3.trans s4)
      have sm := sum_le (ys := ts) (k := 5000) fun y hy => (pt.all y hy).2
      have jl := join_len (Str.ofString "; ") ts
      have jn : Np (Str.join (Str.ofString "; ") ts) := join_np ⟨by decide +kernel, by decide +kernel⟩ fun y hy => (pt.all y hy).1
      have l1n : Np (Str.ofString " ") := ⟨by decide +kernel, by decide +kernel⟩
      rw [l2] at jl
      refine ⟨_, rfl, _, _, rfl, rfl, by rw [l1]; omega, rfl, _, rfl, _, p, ts, rfl, rfl, SqL.of pt4.lst, by rw [l2]; omega, _, _, rfl, rfl, by rw [cat_len, l1]; omega, ?_⟩
      refine ⟨_, rfl, cat_np (cat_np mp l1n) jn, by rw [cat_len, cat_len, l1]; omega, fun H5 s5 => ⟨_, rfl, iteF ?_⟩⟩
      exact ⟨_, rfl, m, rfl, mp, by omega, fun H6 s6 => q H6⟩
  case m =>
    rintro D σ H ⟨a, ns, p, ts, x2, x3, rfl, pt, q⟩
    obtain ⟨y, hy, ey⟩ := at_mod (xs := manA) (m := cellAt ns 0 / 12) (n := 2) (by decide) (by decide)
    refine ⟨(by show 2 ≤ sizeLine; decide), fun l hl => ?_⟩
    have pt1 := pt.keep (same_new (o := .lst (manA.map V.str)) hl)
    refine ⟨_, rfl, a, ns, 0, rfl, pt1.seq, _, _, rfl, rfl, ⟨by decide, by decide⟩, _, _, rfl, rfl, (by show (0 : Int) < 2; decide), l, _, _, _, rfl, rfl, SqL.of upd_same, ey, ?_⟩
    obtain ⟨g1, g2⟩ := man_np y (List.mem_append_left _ hy)
    refine ⟨_, rfl, a, ns, 0, rfl, pt1.seq, _, _, rfl, rfl, ⟨by decide, by decide⟩, _, _, rfl, rfl, (by show (0 : Int) < 8; decide), rfl, _, rfl, ite2 (fun _ => ?_) (fun _ => ?_)⟩
    · obtain ⟨y, hy, ey⟩ := at_mod (xs := manB) (m := cellAt ns 1) (n := 7) (by decide) (by decide)
      refine ⟨(by show 7 ≤ sizeLine; decide), fun l hl => ?_⟩
      have pt2 := pt1.keep (same_new (o := .lst (manB.map V.str)) hl)
      refine ⟨_, rfl, a, ns, 1, rfl, pt2.seq, _, _, rfl, rfl, (by show (0 : Int) < 7; decide), l, _, _, _, rfl, rfl, SqL.of upd_same, ey, ?_⟩
      obtain ⟨g1, g2⟩ := man_np y (List.mem_append_right _ hy)
      exact ⟨a, ns, p, ts, _, _, y, rfl, pt2, g1, g2, q⟩
    · exact ⟨a, ns, p, ts, _, _, y, rfl, pt1, g1, g2, q⟩
  case b =>
    rintro D σ H ⟨a, ns, p, ts, x2, x3, rfl, pt, q⟩
    refine ⟨_, rfl, a, ns, 0, rfl, pt.seq, _, _, rfl, rfl, ⟨by decide, by decide⟩, _, _, rfl, rfl, (by show (0 : Int) < 4; decide), _, _, rfl, rfl, _, rfl, ite2 (fun _ => ?_) (fun _ => ?_)⟩
    · refine ⟨_, rfl, _, rfl, a, ns, 2, rfl, pt.seq, _, _, rfl, rfl, (by show (0 : Int) < 12; decide), _, _, rfl, rfl, _, rfl, p, _, rfl, SqL.of pt.lst, fun l hl => ?_⟩
      obtain ⟨us, eu, lu, mu⟩ := cut_strs ts none (some (1 + cellAt ns 2 % 12))
      have lt := pt.len
      rw [eu]
      exact ⟨a, ns, l, us, _, _, rfl, prt_new pt.seq hl (by omega) fun y hy => pt.all y (mu y hy), q⟩
    · exact ⟨a, ns, p, ts, _, _, rfl, pt, q⟩
  case f =>
    rintro D σ H ⟨a, ns, p, ts, rfl, pt, t0, q⟩
    have e0 : 0 ≤ cellAt ns 0 % 3 := Int.emod_nonneg _ (by decide)
    have e1 : cellAt ns 0 % 3 < 3 := Int.emod_lt_of_pos _ (by decide)
    obtain ⟨n, hn⟩ : ∃ n : Nat, cellAt ns 0 % 3 = (n : Int) := ⟨(cellAt ns 0 % 3).toNat, by omega⟩
    have n2 : n ≤ 2 := by omega
    refine ⟨_, rfl, a, ns, 0, rfl, pt.seq, _, _, rfl, rfl, (by show (0 : Int) < 3; decide), _, rfl, by rw [hn]; omega, by rw [hn]; omega, ?_⟩
    rw [hn]
    have en : ((n : Nat) : Int).toNat = n := by omega
    rw [en]
    have b0 : bnd 0 = 1000 := rfl
    have b1 : bnd 1 = 2060 := rfl
    have b2 : bnd 2 = 4180 := rfl
    refine for_range (n := n) (fun i σ H' => ∃ ts x2 x3, σ = [some (.ref a), some (.ref p), x2, x3, none, none] ∧ Prt K a ns (bnd i) H' p ts ∧ 0 < ts.length) ⟨ts, none, none, rfl, pt, t0⟩ ?_ ?_
    · rintro i σ H1 hi ⟨ts, x2, x3, rfl, pt, t0⟩
      have bi : bnd i ≤ 2060 := by
        rcases (by omega : i = 0 ∨ i = 1) with z | z
        · rw [z]; omega
        · rw [z]; omega
      have eA : [V.ref a, V.int ((1 : Int) + (0 + (i : Nat)))] = [V.ref a, V.int ((1 + i : Nat) : Int)] := by
        have ei : (1 : Int) + (0 + (i : Nat)) = ((1 + i : Nat) : Int) := by omega
        rw [ei]
      have m0 : 0 ≤ cellAt ns (1 + i) % ((ts.length : Nat) : Int) := Int.emod_nonneg _ (by omega)
      have m1 : cellAt ns (1 + i) % ((ts.length : Nat) : Int) < ((ts.length : Nat) : Int) := Int.emod_lt_of_pos _ (by omega)
      obtain ⟨k, hk⟩ : ∃ k : Nat, cellAt ns (1 + i) % ((ts.length : Nat) : Int) = (k : Int) := ⟨(cellAt ns (1 + i) % ((ts.length : Nat) : Int)).toNat, by omega⟩
      have hk2 : k < ts.length := by omega
      refine ⟨_, rfl, _, rfl, _, _, rfl, rfl, a, ns, 1 + i, eA, pt.seq, _, rfl, p, _, rfl, .inl (SqL.of pt.lst), _, _, rfl, rfl, ?_, ?_⟩
      · rw [List.length_map]
        omega
      have hm : cellAt ns (1 + i) % (((ts.map V.str).length : Nat) : Int) = (k : Int) := by rw [List.length_map]; exact hk
      obtain ⟨np, ly⟩ := pt.all _ (List.getElem_mem hk2)
      refine ⟨_, rfl, _, rfl, p, _, _, .str ts[k], rfl, rfl, SqL.of pt.lst, (by show atI (ts.map V.str) (cellAt ns (1 + i) % (((ts.map V.str).length : Nat) : Int)) = _; rw [hm]; exact atI_nat (by rw [List.getElem?_map, List.getElem?_eq_getElem hk2]; rfl)), ?_⟩
      refine ⟨_, rfl, _, rfl, _, _, rfl, rfl, a, ns, 1 + i, eA, pt.seq, _, _, rfl, rfl, ⟨by decide, by decide⟩, ts[k], _, rfl, np, by omega, fun y H2 s2 npy ly2 => ?_⟩
      have pt2 := (pt.keep s2).more (show bnd i ≤ bnd (i + 1) by show bnd i ≤ 2 * bnd i + 60; omega)
      refine ⟨_, rfl, _, rfl, p, _, _, k, rfl, rfl, pt2.lst, ?_, ts.set k y, _, _, rfl, pt2.set npy ?_, by rw [List.length_set]; exact t0⟩
      · show ixN (ts.map V.str).length (cellAt ns (1 + i) % (((ts.map V.str).length : Nat) : Int)) = _
        rw [hm]
        unfold ixN
        rw [if_pos (by omega), if_pos (by rw [List.length_map]; omega)]
        rfl
      · show y.length ≤ 2 * bnd i + 60
        omega
    · rintro σ H1 ⟨ts, x2, x3, rfl, pt, t0⟩
      refine ⟨a, ns, p, ts, x2, x3, rfl, pt.more ?_, q⟩
      rcases (by omega : n = 0 ∨ n = 1 ∨ n = 2) with z | z | z
      · rw [z]; omega
      · rw [z]; omega
      · rw [z]; omega
  have hs : (100000 : Nat) ≤ sizeLine := by decide
  obtain ⟨cs, ecs, lcs⟩ := cut319 ns
  refine ⟨_, rfl, _, rfl, _, rfl, a, _, rfl, hS, fun l hl0 => ?_⟩
  rw [ecs]
  have sA := same_new (o := .lst (cs.map V.int)) hl0
  have hSa := sA.seq hS
  have hla : (upd H l (.lst (cs.map V.int))) l = some (.lst (cs.map V.int)) := upd_same
  generalize (upd H l (.lst (cs.map V.int))) = Ha at sA hSa hla ⊢
  refine ⟨l, rfl, ⟨_, SqL.of hla⟩, ?_⟩
  refine lc_list (xs := cs.map V.int) (fun i ys H' => Same Ha H' ∧ ∃ ts : List Str, ys = ts.map V.str ∧ ts.length = i ∧ ∀ y ∈ ts, Np y ∧ y.length ≤ 1000) ⟨Same.refl _, [], rfl, rfl, fun y hy => by cases hy⟩ (by rw [List.length_map]; omega) (fun i ys H' _ z => SqL.of (z.1 _ _ hla)) ?_ ?_
  · rintro i u ys H1 hu ⟨s1, ts, rfl, ln, ht⟩
    obtain ⟨c, _, rfl⟩ := List.mem_map.mp (List.mem_of_getElem? hu)
    refine tAllT ⟨_, rfl, c, rfl, fun wd ns1 v H2 ar s2 st => ⟨wd, ns1, v, rfl, st, ar, fun H3 s3 => ⟨s1.trans (s2.trans s3), ts ++ [txt wd ns1], ?_, ?_, fun y hy => ?_⟩⟩⟩
    · rw [List.map_append]
      rfl
    · rw [List.length_append, ln]
      rfl
    · rcases List.mem_append.mp hy with z | z
      · exact ht y z
      · rw [List.mem_singleton.mp z]
        exact ⟨txt_np wd ns1, txt_short (x := (wd, ns1)) ar⟩
  rintro ys H1 ⟨s1, ts, rfl, ln, ht⟩ p hp
  rw [List.length_map] at ln
  have pt := prt_new (s1.seq hSa) hp (by omega) ht
  generalize (upd H1 p _) = H2 at pt ⊢
  refine ⟨_, rfl, (by show 0 ≤ sizeLine; decide), fun l2 hl2 => ?_⟩
  have pt2 := pt.keep (same_new (o := .lst []) hl2)
  refine ⟨ts, [], ⟨p, _, rfl, SqL.of pt2.lst, pairS ts⟩, ⟨l2, [], rfl, SqL.of upd_same, .nil⟩, _, rfl, ite2 (fun _ => ?_) (fun c => ?_)⟩
  · generalize (upd H2 l2 _) = H3 at pt2 ⊢
    refine ⟨rfl, fun l3 H4 s4 h4 => ?_⟩
    obtain ⟨y, hy, ey⟩ := at_mod (xs := oddA ++ oddB) (m := cellAt ns 1) (n := 16) (by decide) (by decide)
    obtain ⟨g1, g2⟩ := odd_np y hy
    refine ⟨_, rfl, a, ns, 1, rfl, (pt2.keep s4).seq, _, _, rfl, rfl, (by show (0 : Int) < 16; decide), l3, _, _, _, rfl, rfl, SqL.of h4, ey, (by show 1 ≤ sizeLine; decide), fun l5 hl5 => ?_⟩
    exact ⟨a, ns, l5, [y], rfl, prt_new (ts := [y]) (pt2.keep s4).seq hl5 (Nat.le_of_ble_eq_true rfl) (fun x hx => by rw [List.mem_singleton.mp hx]; exact ⟨g1, by omega⟩), Nat.zero_lt_one, q⟩
  · refine ⟨a, ns, p, ts, rfl, pt2, List.length_pos_iff.mpr fun z => c ?_, q⟩
    rw [z]
    rfl
end
end K25
set_option maxHeartbeats 4000000
namespace K25
open PySem L2 Lo St
section
variable {P : Program} {w : World} {K : PySem.W.Frag} {mg : Str → Option Value} {base : Heap} {f CL CP : Addr} {fd : FuncData} {C : Kd → Addr} {CW : Wd → Addr}
theorem kp2 {a : Addr} {H : Hp} {o1 o2 : HO} : Kp a H (upd (upd H a o1) a o2) := fun b o n e => by rw [upd_ne n, upd_ne n]; exact e
theorem ok_cinit (F : Fun K "__init__" "CellStep.__init__" m_CellStep_init f fd) (T : TxW K CW) : FnOk P w K mg base CX0 1 f fd ["self", "where", "cell"] (spCInit CW) := by
  refine F.ok sc_CellStep_init (fun vs H Q E h => ?_) (fun cdv A outer s H vs Q E hr h => ?_)
  · obtain ⟨a, dx, wd, x, y, rfl, _⟩ := h
    rfl
  obtain ⟨a, dx, wd, x, y, rfl, ha, q⟩ := h
  refine ⟨_, pss_cons (ps_fld (pv 0) (pv 1) rfl) (pss_one (ps_fld (pv 0) (pv 2) rfl)), ?_⟩
  exact ⟨_, rfl, _, rfl, a, CW wd, dx, [], rfl, ha, T.cl wd, T.nW wd, (by show 0 < 1000; decide), _, rfl, _, rfl, a, CW wd, dx, _, rfl, upd_same, T.cl wd, T.nC wd, (by show 1 < 1000; decide), q _ upd_same kp2⟩
theorem cinit_w {wd : Wd} (hw : isC wd = true) {vs : List V} {H : Hp} {Q : VK} {E : XK} (h : spWInit CW wd vs H Q E) : spCInit CW vs H Q E := by
  obtain ⟨a, dx, ns, rfl, ar, ha, q⟩ := h
  obtain ⟨x, y, rfl, _, _, e⟩ := ar.c hw
  exact ⟨a, dx, wd, x, y, rfl, ha, fun H' h1 h2 => q H' (by rw [e]; exact h1) h2⟩
theorem ok_sinit (F : Fun K "__init__" "SumStep.__init__" m_SumStep_init f fd) (T : TxW K CW) : FnOk P w K mg base CX0 1 f fd ["self", "where", "low", "high"] (spWInit CW .sum) := by
  refine F.ok sc_SumStep_init (fun vs H Q E h => ?_) (fun cdv A outer s H vs Q E hr h => ?_)
  · obtain ⟨a, dx, ns, rfl, ar, _⟩ := h
    obtain ⟨x, y, z, rfl, _⟩ := ar.s
    rfl
  obtain ⟨a, dx, ns, rfl, ar, ha, q⟩ := h
  obtain ⟨x, y, z, rfl, _⟩ := ar.s
  refine ⟨_, pss_cons (ps_fld (pv 0) (pv 1) rfl) (pss_cons (ps_fld (pv 0) (pv 2) rfl) (pss_one (ps_fld (pv 0) (pv 3) rfl))), ?_⟩
  exact ⟨_, rfl, _, rfl, a, CW .sum, dx, [], rfl, ha, T.cl _, T.nW _, (by show 0 < 1000; decide), _, rfl, _, rfl, a, CW .sum, dx, _, rfl, upd_same, T.cl _, T.nL _, (by show 1 < 1000; decide), _, rfl, _, rfl, a, CW .sum, dx, _, rfl, upd_same, T.cl _, T.nH _, Nat.lt_of_le_of_lt (length_putF _ _ _) (by show 1 + 1 < 1000; decide), q _ upd_same fun b o n e => by rw [upd_ne n, upd_ne n, upd_ne n]; exact e⟩
theorem ok_ainit {CC fC : Addr} {dC : FuncData} (F : Fun K "__init__" "AddStep.__init__" m_AddStep_init f fd) (T : TxW K CW) (mgC : mg "CellStep" = some (.ref CC)) (cf : ClsFn K CC "__init__" fC) (GC : FnOk P w K mg base CX0 1 fC dC ["self", "where", "cell"] (spCInit CW)) (bC : Binds K dC ["self", "where", "cell"] []) :
    FnOk P w K mg base CX0 2 f fd ["self", "where", "cell", "amount"] (spWInit CW .add) := by
  refine F.ok sc_AddStep_init (fun vs H Q E h => ?_) (fun cdv A outer s H vs Q E hr h => ?_)
  · obtain ⟨a, dx, ns, rfl, ar, _⟩ := h
    obtain ⟨x, y, z, rfl, _⟩ := ar.a
    rfl
  obtain ⟨a, dx, ns, rfl, ar, ha, q⟩ := h
  obtain ⟨x, y, z, rfl, _⟩ := ar.a
  refine ⟨_, pss_cons (ps_expr (pe_clsm (pe_glob (v := .ref CC) rfl mgC rfl) cf GC hr bC pass0 (pa_cons (pv 0) (pa_cons (pv 1) (pa_cons (pv 2) pa_nil))))) (pss_one (ps_fld (pv 0) (pv 3) rfl)), ?_⟩
  refine ⟨_, rfl, _, rfl, _, rfl, a, dx, .add, x, y, rfl, ha, fun H' h1 h2 => ?_⟩
  exact ⟨_, rfl, _, rfl, a, CW .add, dx, _, rfl, h1, T.cl _, T.nA _, Nat.lt_of_le_of_lt (length_putF _ _ _) (by show 1 + 1 < 1000; decide), q _ upd_same fun b o n e => by rw [upd_ne n]; exact h2 b o n e⟩
theorem ok_pinit (F : Fun K "__init__" "PlusStep.__init__" m_PlusStep_init f fd) (T : TxW K CW) : FnOk P w K mg base CX0 1 f fd ["self", "amount"] (spWInit CW .plus) := by
  refine F.ok sc_PlusStep_init (fun vs H Q E h => ?_) (fun cdv A outer s H vs Q E hr h => ?_)
  · obtain ⟨a, dx, ns, rfl, ar, _⟩ := h
    obtain ⟨x, rfl, _⟩ := ar.p
    rfl
  obtain ⟨a, dx, ns, rfl, ar, ha, q⟩ := h
  obtain ⟨x, rfl, _⟩ := ar.p
  refine ⟨_, pss_one (ps_fld (pv 0) (pv 1) rfl), ?_⟩
  exact ⟨_, rfl, _, rfl, a, CW .plus, dx, [], rfl, ha, T.cl _, T.nA _, (by show 0 < 1000; decide), q _ upd_same kp_upd⟩
theorem ok_ninit (F : Fun K "__init__" "NeedStep.__init__" m_NeedStep_init f fd) (T : TxW K CW) : FnOk P w K mg base CX0 1 f fd ["self", "amount"] (spWInit CW .need) := by
  refine F.ok sc_NeedStep_init (fun vs H Q E h => ?_) (fun cdv A outer s H vs Q E hr h => ?_)
  · obtain ⟨a, dx, ns, rfl, ar, _⟩ := h
    obtain ⟨x, rfl, _⟩ := ar.n
    rfl
  obtain ⟨a, dx, ns, rfl, ar, ha, q⟩ := h
  obtain ⟨x, rfl, _⟩ := ar.n
  refine ⟨_, pss_one (ps_fld (pv 0) (pv 1) rfl), ?_⟩
  exact ⟨_, rfl, _, rfl, a, CW .need, dx, [], rfl, ha, T.cl _, T.nA _, (by show 0 < 1000; decide), q _ upd_same kp_upd⟩
open XA in
theorem ok_xinit {nm : Str} {st : Stmt} {C : Addr} {p1 p2 p3 p4 : Pos} (F : Fun K "__init__" nm st f fd) (S : FnScope ["self", "at"] ["self", "at"] (defScope st)) (hb : defBody st = [.Assign [.Attribute (.Name "self" p1) "at" p2] (.Name "at" p3) p4]) (hs : defScope st = defScope m_NoText_init) (c : ClsX K C) : FnOk P w K mg base CX0 1 f fd ["self", "at"] (spXI C) := by
  refine F.ok S (fun vs H Q E h => ?_) (fun cdv A outer s H vs Q E hr h => ?_)
  · obtain ⟨ea, n, rfl, _⟩ := h
    rfl
  obtain ⟨ea, n, rfl, he, q⟩ := h
  rw [hb, hs]
  refine ⟨_, pss_one (ps_atX (pv 0) (pv 1) rfl), ?_⟩
  exact ⟨_, rfl, _, rfl, ea, C, n, rfl, rfl, he, c, q⟩
end
end K25
set_option maxHeartbeats 4000000
namespace K25
open PySem L2 Lo St
def wmk (a b c d e f g : Addr) : Wd → Addr
  | .take => a
  | .mean => b
  | .sum => c
  | .give => d
  | .add => e
  | .plus => f
  | .need => g
abbrev bmV : List Value := [.type "ValueError", .type "Exception", .type "BaseException", .type "object"]
def FnX (K : PySem.W.Frag) (f : Addr) (x q : Str) (st : Stmt) : Prop := ∃ fd, Fun K x q st f fd
theorem fnx {K : PySem.W.Frag} {f : Addr} {x q : Str} {st : Stmt} {oc kV dc pm cd ct : Value} {od an : Option Addr} {sl : Array (Option Value)} (l : K.lookup f = some ⟨oc, od, .func (PySem.W.fnOf x q (defArgs st) (defBody st) (defScope st) .none kV dc pm an cd ct), sl⟩) (c : PySem.W.codeIn K cd q = true) (k : PySem.W.keepIn K (.ref f) = true) : FnX K f x q st := ⟨_, fun_mk l c k⟩
section
variable {K : PySem.W.Frag} {f : Addr} {x q : Str} {st : Stmt} {fd : FuncData}
abbrev BdF (x q : Str) (st : Stmt) (us : List Value) (ps : List Str) : Prop := ∀ (kV doc pm : Value) (an : Option Addr) (cdv ct : Value), bindArgs (PySem.W.fnOf x q (defArgs st) (defBody st) (defScope st) .none kV doc pm an cdv ct) ⟨us, []⟩ = pure (ps.zip us)
theorem _root_.L2.Fun.b0 (F : Fun K x q st f fd) (h : BdF x q st [] []) : Binds K fd [] [] := F.binds fun a b c d e g us hl => match us, hl with | [], _ => h a b c d e g
theorem _root_.L2.Fun.b1 (F : Fun K x q st f fd) (p : Str) (h : ∀ u, BdF x q st [u] [p]) : Binds K fd [p] [] := F.binds fun a b c d e g us hl => match us, hl with | [u], _ => h u a b c d e g
theorem _root_.L2.Fun.b2 (F : Fun K x q st f fd) (p r : Str) (h : ∀ u v, BdF x q st [u, v] [p, r]) : Binds K fd [p, r] [] := F.binds fun a b c d e g us hl => match us, hl with | [u, v], _ => h u v a b c d e g
theorem _root_.L2.Fun.b3 (F : Fun K x q st f fd) (p r s : Str) (h : ∀ u v w, BdF x q st [u, v, w] [p, r, s]) : Binds K fd [p, r, s] [] := F.binds fun a b c d e g us hl => match us, hl with | [u, v, w], _ => h u v w a b c d e g
theorem _root_.L2.Fun.b4 (F : Fun K x q st f fd) (p r s t : Str) (h : ∀ u v w y, BdF x q st [u, v, w, y] [p, r, s, t]) : Binds K fd [p, r, s, t] [] := F.binds fun a b c d e g us hl => match us, hl with | [u, v, w, y], _ => h u v w y a b c d e g
end
open PySem.W (readsIn findCls fnOf codeIn handedIn findIn nsIn keepIn isFn plainGet hasDictIn plainOver makesIn mroIn kitOne specialIn takesIn excIn mg_of mg_none_of)
theorem all_mk {l : PySem.W.OpenLaw} {w : World} {K : PySem.W.Frag} {h : Heap} {mg : Str → Option Value} {fa CRd fri frp fra frb frn frx WA fxiY fxpA WB fxpB WD fxiD fxpD WE fxpE WF fxiF fxpF WG fxiG fxpG WN fxiN fxpN CY CP fpi fps CE CNo CA CTx feT fW1 fH1 fR1 fG1 fP1 fS1 fN1 fM1 fU1 fA3 fB3 fA2 fW2 fX2 fN2 fE2 fS2 fT2 fO2 fP2 fI2 fJ2 fD2 fL2 fQ2 fR2 fZ aSh aMn : Addr} (X : K.In h) (G : h.Ns mainGlobals mg) (hfa : mg "law" = some (.ref fa))
     {t_MOST_FIGURES_things t_MOST_SIGNS t_MOST_PARTS t_MOST_DEEP t_LONGEST t_BLANK t_PERCENT t_TILDE t_MOST_FIGURES_steps t_MOST_STEPS : Tok} {esR : Array DictEntry} {epR : Nat} {dMn : Option Addr} {mn1 mn2 : Tok} {nMn : Nat} {sMn : Array (Option Value)}
    (nrd : nsIn K mainGlobals "Reader" = some (some (.ref CRd)))
    (pgrd : plainGet K CRd Str.empty = true)
    (hdrd : hasDictIn K CRd = true)
    (pord : plainOver K CRd = true)
    (sard : findIn K (.ref CRd) "__setattr__" = some (some (.builtin "object.__setattr__")))
    (mkrd : makesIn K CRd = true)
    (kcrd : keepIn K (.ref CRd) = true)
    (nTx : findIn K (.ref CRd) "text" = some none)
    (nPl : findIn K (.ref CRd) "place" = some none)
    (ari : findIn K (.ref CRd) "__init__" = some (some (.ref fri)))
    (jri : isFn K (.ref fri) = true)
    (lri : FnX K fri "__init__" "Reader.__init__" m_Reader_init)
    (arp : findIn K (.ref CRd) "passes" = some (some (.ref frp)))
    (jrp : isFn K (.ref frp) = true)
    (lrp : FnX K frp "passes" "Reader.passes" m_Reader_passes)
    (ara : findIn K (.ref CRd) "read_any" = some (some (.ref fra)))
    (jra : isFn K (.ref fra) = true)
    (lra : FnX K fra "read_any" "Reader.read_any" m_Reader_read_any)
    (arb : findIn K (.ref CRd) "read_below" = some (some (.ref frb)))
    (jrb : isFn K (.ref frb) = true)
    (lrb : FnX K frb "read_below" "Reader.read_below" m_Reader_read_below)
    (arn : findIn K (.ref CRd) "read_number" = some (some (.ref frn)))
    (jrn : isFn K (.ref frn) = true)
    (lrn : FnX K frn "read_number" "Reader.read_number" m_Reader_read_number)
    (arx : findIn K (.ref CRd) "read_signs" = some (some (.ref frx)))
    (jrx : isFn K (.ref frx) = true)
    (lrx : FnX K frx "read_signs" "Reader.read_signs" m_Reader_read_signs)
    (nwA : nsIn K mainGlobals "TakeStep" = some (some (.ref WA)))
    (pgwA : plainGet K WA Str.empty = true)
    (hdwA : hasDictIn K WA = true)
    (powA : plainOver K WA = true)
    (sawA : findIn K (.ref WA) "__setattr__" = some (some (.builtin "object.__setattr__")))
    (mkwA : makesIn K WA = true)
    (kcwA : keepIn K (.ref WA) = true)
    (nWwA : findIn K (.ref WA) "where" = some none)
    (nCwA : findIn K (.ref WA) "cell" = some none)
    (nLwA : findIn K (.ref WA) "low" = some none)
    (nHwA : findIn K (.ref WA) "high" = some none)
    (nAwA : findIn K (.ref WA) "amount" = some none)
    (uxiYA : findIn K (.ref WA) "__init__" = some (some (.ref fxiY)))
    (jxiY : isFn K (.ref fxiY) = true)
    (lxiY : FnX K fxiY "__init__" "CellStep.__init__" m_CellStep_init)
    (uxpAA : findIn K (.ref WA) "spelled" = some (some (.ref fxpA)))
    (jxpA : isFn K (.ref fxpA) = true)
    (lxpA : FnX K fxpA "spelled" "TakeStep.spelled" m_TakeStep_spelled)
    (nwB : nsIn K mainGlobals "MeanStep" = some (some (.ref WB)))
    (pgwB : plainGet K WB Str.empty = true)
    (hdwB : hasDictIn K WB = true)
    (powB : plainOver K WB = true)
    (sawB : findIn K (.ref WB) "__setattr__" = some (some (.builtin "object.__setattr__")))
    (mkwB : makesIn K WB = true)
    (kcwB : keepIn K (.ref WB) = true)
    (nWwB : findIn K (.ref WB) "where" = some none)
    (nCwB : findIn K (.ref WB) "cell" = some none)
    (nLwB : findIn K (.ref WB) "low" = some none)
    (nHwB : findIn K (.ref WB) "high" = some none)
    (nAwB : findIn K (.ref WB) "amount" = some none)
    (uxiYB : findIn K (.ref WB) "__init__" = some (some (.ref fxiY)))
    (uxpBB : findIn K (.ref WB) "spelled" = some (some (.ref fxpB)))
    (jxpB : isFn K (.ref fxpB) = true)
    (lxpB : FnX K fxpB "spelled" "MeanStep.spelled" m_MeanStep_spelled)
    (nwD : nsIn K mainGlobals "SumStep" = some (some (.ref WD)))
    (pgwD : plainGet K WD Str.empty = true)
    (hdwD : hasDictIn K WD = true)
    (powD : plainOver K WD = true)
    (sawD : findIn K (.ref WD) "__setattr__" = some (some (.builtin "object.__setattr__")))
    (mkwD : makesIn K WD = true)
    (kcwD : keepIn K (.ref WD) = true)
    (nWwD : findIn K (.ref WD) "where" = some none)
    (nCwD : findIn K (.ref WD) "cell" = some none)
    (nLwD : findIn K (.ref WD) "low" = some none)
    (nHwD : findIn K (.ref WD) "high" = some none)
    (nAwD : findIn K (.ref WD) "amount" = some none)
    (uxiDD : findIn K (.ref WD) "__init__" = some (some (.ref fxiD)))
    (jxiD : isFn K (.ref fxiD) = true)
    (lxiD : FnX K fxiD "__init__" "SumStep.__init__" m_SumStep_init)
    (uxpDD : findIn K (.ref WD) "spelled" = some (some (.ref fxpD)))
    (jxpD : isFn K (.ref fxpD) = true)
    (lxpD : FnX K fxpD "spelled" "SumStep.spelled" m_SumStep_spelled)
    (nwE : nsIn K mainGlobals "GiveStep" = some (some (.ref WE)))
    (pgwE : plainGet K WE Str.empty = true)
    (hdwE : hasDictIn K WE = true)
    (powE : plainOver K WE = true)
    (sawE : findIn K (.ref WE) "__setattr__" = some (some (.builtin "object.__setattr__")))
    (mkwE : makesIn K WE = true)
    (kcwE : keepIn K (.ref WE) = true)
    (nWwE : findIn K (.ref WE) "where" = some none)
    (nCwE : findIn K (.ref WE) "cell" = some none)
    (nLwE : findIn K (.ref WE) "low" = some none)
    (nHwE : findIn K (.ref WE) "high" = some none)
    (nAwE : findIn K (.ref WE) "amount" = some none)
    (uxiYE : findIn K (.ref WE) "__init__" = some (some (.ref fxiY)))
    (uxpEE : findIn K (.ref WE) "spelled" = some (some (.ref fxpE)))
    (jxpE : isFn K (.ref fxpE) = true)
    (lxpE : FnX K fxpE "spelled" "GiveStep.spelled" m_GiveStep_spelled)
    (nwF : nsIn K mainGlobals "AddStep" = some (some (.ref WF)))
    (pgwF : plainGet K WF Str.empty = true)
    (hdwF : hasDictIn K WF = true)
    (powF : plainOver K WF = true)
    (sawF : findIn K (.ref WF) "__setattr__" = some (some (.builtin "object.__setattr__")))
    (mkwF : makesIn K WF = true)
    (kcwF : keepIn K (.ref WF) = true)
    (nWwF : findIn K (.ref WF) "where" = some none)
    (nCwF : findIn K (.ref WF) "cell" = some none)
    (nLwF : findIn K (.ref WF) "low" = some none)
    (nHwF : findIn K (.ref WF) "high" = some none)
    (nAwF : findIn K (.ref WF) "amount" = some none)
    (uxiFF : findIn K (.ref WF) "__init__" = some (some (.ref fxiF)))
    (jxiF : isFn K (.ref fxiF) = true)
    (lxiF : FnX K fxiF "__init__" "AddStep.__init__" m_AddStep_init)
    (uxpFF : findIn K (.ref WF) "spelled" = some (some (.ref fxpF)))
    (jxpF : isFn K (.ref fxpF) = true)
    (lxpF : FnX K fxpF "spelled" "AddStep.spelled" m_AddStep_spelled)
    (nwG : nsIn K mainGlobals "PlusStep" = some (some (.ref WG)))
    (pgwG : plainGet K WG Str.empty = true)
    (hdwG : hasDictIn K WG = true)
    (powG : plainOver K WG = true)
    (sawG : findIn K (.ref WG) "__setattr__" = some (some (.builtin "object.__setattr__")))
    (mkwG : makesIn K WG = true)
    (kcwG : keepIn K (.ref WG) = true)
    (nWwG : findIn K (.ref WG) "where" = some none)
    (nCwG : findIn K (.ref WG) "cell" = some none)
    (nLwG : findIn K (.ref WG) "low" = some none)
    (nHwG : findIn K (.ref WG) "high" = some none)
    (nAwG : findIn K (.ref WG) "amount" = some none)
    (uxiGG : findIn K (.ref WG) "__init__" = some (some (.ref fxiG)))
    (jxiG : isFn K (.ref fxiG) = true)
    (lxiG : FnX K fxiG "__init__" "PlusStep.__init__" m_PlusStep_init)
    (uxpGG : findIn K (.ref WG) "spelled" = some (some (.ref fxpG)))
    (jxpG : isFn K (.ref fxpG) = true)
    (lxpG : FnX K fxpG "spelled" "PlusStep.spelled" m_PlusStep_spelled)
    (nwN : nsIn K mainGlobals "NeedStep" = some (some (.ref WN)))
    (pgwN : plainGet K WN Str.empty = true)
    (hdwN : hasDictIn K WN = true)
    (powN : plainOver K WN = true)
    (sawN : findIn K (.ref WN) "__setattr__" = some (some (.builtin "object.__setattr__")))
    (mkwN : makesIn K WN = true)
    (kcwN : keepIn K (.ref WN) = true)
    (nWwN : findIn K (.ref WN) "where" = some none)
    (nCwN : findIn K (.ref WN) "cell" = some none)
    (nLwN : findIn K (.ref WN) "low" = some none)
    (nHwN : findIn K (.ref WN) "high" = some none)
    (nAwN : findIn K (.ref WN) "amount" = some none)
    (uxiNN : findIn K (.ref WN) "__init__" = some (some (.ref fxiN)))
    (jxiN : isFn K (.ref fxiN) = true)
    (lxiN : FnX K fxiN "__init__" "NeedStep.__init__" m_NeedStep_init)
    (uxpNN : findIn K (.ref WN) "spelled" = some (some (.ref fxpN)))
    (jxpN : isFn K (.ref fxpN) = true)
    (lxpN : FnX K fxpN "spelled" "NeedStep.spelled" m_NeedStep_spelled)
    (nCY : nsIn K mainGlobals "CellStep" = some (some (.ref CY)))
    (gaY : specialIn K (.ref CY) "__getattribute__" = some (some (.builtin "type.__getattribute__")))
    (rdY : readsIn K CY (.type "type") = true)
    (fcY : findCls K (.ref CY) (.type "type") "__init__" = some (.val (.ref fxiY)))
    (hiY : handedIn (.ref fxiY) = true)
    (nP : nsIn K mainGlobals "Pact" = some (some (.ref CP)))
    (pgP : plainGet K CP Str.empty = true)
    (hdP : hasDictIn K CP = true)
    (poP : plainOver K CP = true)
    (saP : findIn K (.ref CP) "__setattr__" = some (some (.builtin "object.__setattr__")))
    (mkP : makesIn K CP = true)
    (kcP : keepIn K (.ref CP) = true)
    (nPm : findIn K (.ref CP) "manner" = some none)
    (nPs : findIn K (.ref CP) "steps" = some none)
    (nPp : findIn K (.ref CP) "parts" = some none)
    (api : findIn K (.ref CP) "__init__" = some (some (.ref fpi)))
    (jpi : isFn K (.ref fpi) = true)
    (lpi : FnX K fpi "__init__" "Pact.__init__" m_Pact_init)
    (aps : findIn K (.ref CP) "spelled" = some (some (.ref fps)))
    (jps : isFn K (.ref fps) = true)
    (lps : FnX K fps "spelled" "Pact.spelled" m_Pact_spelled)
    (hn : specialIn K (.builtin "object.__class__") "__get__" = some (some (.builtin "getset_descriptor.__get__")))
    (htk : takesIn K (.builtin "object.__class__") = some true)
    (nE : nsIn K mainGlobals "PactError" = some (some (.ref CE)))
    (xE : excIn K CE bmV "ValueError.__new__" = true)
    (nNo : nsIn K mainGlobals "NoThing" = some (some (.ref CNo)))
    (xNo : excIn K CNo bmV "ValueError.__new__" = true)
    (nA : nsIn K mainGlobals "NoPlace" = some (some (.ref CA)))
    (neT : nsIn K mainGlobals "NoText" = some (some (.ref CTx)))
    (keT : keepIn K (.ref CTx) = true)
    (aeT : findIn K (.ref CTx) "__init__" = some (some (.ref feT)))
    (jeT : isFn K (.ref feT) = true)
    (leT : FnX K feT "__init__" "NoText.__init__" m_NoText_init)
    (xjT : XA.excJ K CTx feT "ValueError.__new__" = true)
    (xcT : XA.clsX K CTx = true)
    (xsT : findIn K (.ref CTx) "__setattr__" = some (some (.builtin "object.__setattr__")))
    (xnT : findIn K (.ref CTx) "at" = some none)
    (xgT : findIn K (.ref CTx) "__getattribute__" = some (some (.builtin "BaseException.__getattribute__")))
    (xhT : findIn K (.ref CTx) "__getattr__" = some none)
    (xkT : findIn K (.ref CTx) "__class__" = some (some (.builtin "object.__class__")))
    (xmT : mroIn K CTx (.type "object") = some true)
    (xbT : mroIn K CTx (.type "BaseException") = some true)
    (sN : mroIn K CNo (.ref CNo) = some true)
    (sT : mroIn K CTx (.ref CTx) = some true)
    (sE : mroIn K CTx (.ref CE) = some true)
    (kT : kitOne K (.ref CTx) (.ref CTx) = some true)
    (kA : kitOne K (.ref CTx) (.ref CA) = some false)
    (kN : kitOne K (.ref CTx) (.ref CNo) = some false)
    (aW1 : nsIn K mainGlobals "is_whole" = some (some (.ref fW1)))
    (lW1 : FnX K fW1 "is_whole" "is_whole" s_is_whole)
    (aH1 : nsIn K mainGlobals "shown" = some (some (.ref fH1)))
    (lH1 : FnX K fH1 "shown" "shown" s_shown)
    (aR1 : nsIn K mainGlobals "read_thing" = some (some (.ref fR1)))
    (lR1 : FnX K fR1 "read_thing" "read_thing" s_read_thing)
    (aG1 : nsIn K mainGlobals "is_sign" = some (some (.ref fG1)))
    (lG1 : FnX K fG1 "is_sign" "is_sign" s_is_sign)
    (aP1 : nsIn K mainGlobals "spell" = some (some (.ref fP1)))
    (lP1 : FnX K fP1 "spell" "spell" s_spell)
    (aS1 : nsIn K mainGlobals "read_step" = some (some (.ref fS1)))
    (lS1 : FnX K fS1 "read_step" "read_step" s_read_step)
    (aN1 : nsIn K mainGlobals "read_number" = some (some (.ref fN1)))
    (lN1 : FnX K fN1 "read_number" "read_number" s_read_number)
    (aM1 : nsIn K mainGlobals "made_step" = some (some (.ref fM1)))
    (lM1 : FnX K fM1 "made_step" "made_step" s_made_step)
    (aU1 : nsIn K mainGlobals "made_sum" = some (some (.ref fU1)))
    (lU1 : FnX K fU1 "made_sum" "made_sum" s_made_sum)
    (aA3 : nsIn K mainGlobals "read_part" = some (some (.ref fA3)))
    (lA3 : FnX K fA3 "read_part" "read_part" s_read_part)
    (aB3 : nsIn K mainGlobals "read_pact" = some (some (.ref fB3)))
    (lB3 : FnX K fB3 "read_pact" "read_pact" s_read_pact)
    (aA2 : nsIn K mainGlobals "_law_cell" = some (some (.ref fA2)))
    (lA2 : FnX K fA2 "_law_cell" "_law_cell" s__law_cell)
    (aW2 : nsIn K mainGlobals "_law_whole" = some (some (.ref fW2)))
    (lW2 : FnX K fW2 "_law_whole" "_law_whole" s__law_whole)
    (aX2 : nsIn K mainGlobals "_law_mixed" = some (some (.ref fX2)))
    (lX2 : FnX K fX2 "_law_mixed" "_law_mixed" s__law_mixed)
    (aN2 : nsIn K mainGlobals "_law_number" = some (some (.ref fN2)))
    (lN2 : FnX K fN2 "_law_number" "_law_number" s__law_number)
    (aE2 : nsIn K mainGlobals "_law_either" = some (some (.ref fE2)))
    (lE2 : FnX K fE2 "_law_either" "_law_either" s__law_either)
    (aS2 : nsIn K mainGlobals "_law_step" = some (some (.ref fS2)))
    (lS2 : FnX K fS2 "_law_step" "_law_step" s__law_step)
    (aT2 : nsIn K mainGlobals "_law_text" = some (some (.ref fT2)))
    (lT2 : FnX K fT2 "_law_text" "_law_text" s__law_text)
    (aO2 : nsIn K mainGlobals "_law_odds" = some (some (.ref fO2)))
    (lO2 : FnX K fO2 "_law_odds" "_law_odds" s__law_odds)
    (aP2 : nsIn K mainGlobals "_law_spoiled" = some (some (.ref fP2)))
    (lP2 : FnX K fP2 "_law_spoiled" "_law_spoiled" s__law_spoiled)
    (aI2 : nsIn K mainGlobals "_law_is_number" = some (some (.ref fI2)))
    (lI2 : FnX K fI2 "_law_is_number" "_law_is_number" s__law_is_number)
    (aJ2 : nsIn K mainGlobals "_law_is_step" = some (some (.ref fJ2)))
    (lJ2 : FnX K fJ2 "_law_is_step" "_law_is_step" s__law_is_step)
    (aD2 : nsIn K mainGlobals "_law_due" = some (some (.ref fD2)))
    (lD2 : FnX K fD2 "_law_due" "_law_due" s__law_due)
    (aL2 : nsIn K mainGlobals "_law_told" = some (some (.ref fL2)))
    (lL2 : FnX K fL2 "_law_told" "_law_told" s__law_told)
    (aQ2 : nsIn K mainGlobals "_law_pact_right" = some (some (.ref fQ2)))
    (lQ2 : FnX K fQ2 "_law_pact_right" "_law_pact_right" s__law_pact_right)
    (aR2 : nsIn K mainGlobals "_law_step_right" = some (some (.ref fR2)))
    (lR2 : FnX K fR2 "_law_step_right" "_law_step_right" s__law_step_right)
    (aZ : nsIn K mainGlobals "law" = some (some (.ref fZ)))
    (lZ : FnX K fZ "law" "law" s_law)
    (y_isinstance : nsIn K mainGlobals "isinstance" = some none)
    (y_int : nsIn K mainGlobals "int" = some none)
    (y_bool : nsIn K mainGlobals "bool" = some none)
    (y_str : nsIn K mainGlobals "str" = some none)
    (y_len : nsIn K mainGlobals "len" = some none)
    (y_range : nsIn K mainGlobals "range" = some none)
    (y_tuple : nsIn K mainGlobals "tuple" = some none)
    (y_list : nsIn K mainGlobals "list" = some none)
    (y_any : nsIn K mainGlobals "any" = some none)
    (y_all : nsIn K mainGlobals "all" = some none)
    (y_max : nsIn K mainGlobals "max" = some none)
    (y_sorted : nsIn K mainGlobals "sorted" = some none)
    (y_min : nsIn K mainGlobals "min" = some none)
    (y_ord : nsIn K mainGlobals "ord" = some none)
    (q_MOST_FIGURES_things : nsIn K mainGlobals "MOST_FIGURES_things" = some (some (.int 400 t_MOST_FIGURES_things)))
    (q_MOST_SIGNS : nsIn K mainGlobals "MOST_SIGNS" = some (some (.int 2000 t_MOST_SIGNS)))
    (q_MOST_PARTS : nsIn K mainGlobals "MOST_PARTS" = some (some (.int 2000 t_MOST_PARTS)))
    (q_MOST_DEEP : nsIn K mainGlobals "MOST_DEEP" = some (some (.int 8 t_MOST_DEEP)))
    (q_LONGEST : nsIn K mainGlobals "LONGEST" = some (some (.int 100000 t_LONGEST)))
    (q_BLANK : nsIn K mainGlobals "BLANK" = some (some (.int 32 t_BLANK)))
    (q_PERCENT : nsIn K mainGlobals "PERCENT" = some (some (.int 37 t_PERCENT)))
    (q_TILDE : nsIn K mainGlobals "TILDE" = some (some (.int 126 t_TILDE)))
    (q_MOST_FIGURES_steps : nsIn K mainGlobals "MOST_FIGURES_steps" = some (some (.int 40 t_MOST_FIGURES_steps)))
    (q_MOST_STEPS : nsIn K mainGlobals "MOST_STEPS" = some (some (.int 12 t_MOST_STEPS)))
    (nSh : nsIn K mainGlobals "SHAPES" = some (some (.ref aSh)))
    (lSh : K.lookup aSh = some ⟨.type "dict", none, .dict esR epR, #[]⟩)
    (qSh : (aSh == sysModules) = false)
    (tSh : PyProof.Rows.KTD.rowsLook datL esR.toList shapesD = true)
    (nMnn : nsIn K mainGlobals "MANNERS" = some (some (.ref aMn)))
    (lMn : K.lookup aMn = some ⟨.type "tuple", dMn, .seq #[.str "held" mn1, .str "walked" mn2] nMn, sMn⟩) :
    ∃ fd : FuncData, (∀ (s : Shared) (v : Value), BindsTo s fd ⟨[v], []⟩ [("_law_script", v)]) ∧ ∀ base : Heap, K.In base → base.Ns mainGlobals mg → FnOk l.prog w K mg base CX0 30 fa fd ["_law_script"] (spLaw K) := by
  have e := hfa.symm.trans (PySem.W.mg_of X G aZ)
  cases e
  obtain ⟨dri, Fri⟩ := lri
  have eri := Fri.kp
  have bri := Fri.b2 "self" "text" fun _ _ _ _ _ _ _ _ => rfl
  obtain ⟨drp, Frp⟩ := lrp
  have erp := Frp.kp
  have brp := Frp.b2 "self" "sign" fun _ _ _ _ _ _ _ _ => rfl
  obtain ⟨dra, Fra⟩ := lra
  have era := Fra.kp
  have bra := Fra.b2 "self" "deep" fun _ _ _ _ _ _ _ _ => rfl
  obtain ⟨drb, Frb⟩ := lrb
  have erb := Frb.kp
  have brb := Frb.b1 "self" fun _ _ _ _ _ _ _ => rfl
  obtain ⟨drn, Frn⟩ := lrn
  have ern := Frn.kp
  have brn := Frn.b1 "self" fun _ _ _ _ _ _ _ => rfl
  obtain ⟨drx, Frx⟩ := lrx
  have erx := Frx.kp
  have brx := Frx.b2 "self" "many" fun _ _ _ _ _ _ _ _ => rfl
  obtain ⟨dxiY, FxiY⟩ := lxiY
  have exiY := FxiY.kp
  have bxiY := FxiY.b3 "self" "where" "cell" fun _ _ _ _ _ _ _ _ _ => rfl
  obtain ⟨dxpA, FxpA⟩ := lxpA
  have expA := FxpA.kp
  have bxpA := FxpA.b1 "self" fun _ _ _ _ _ _ _ => rfl
  obtain ⟨dxpB, FxpB⟩ := lxpB
  have expB := FxpB.kp
  have bxpB := FxpB.b1 "self" fun _ _ _ _ _ _ _ => rfl
  obtain ⟨dxiD, FxiD⟩ := lxiD
  have exiD := FxiD.kp
  have bxiD := FxiD.b4 "self" "where" "low" "high" fun _ _ _ _ _ _ _ _ _ _ => rfl
  obtain ⟨dxpD, FxpD⟩ := lxpD
  have expD := FxpD.kp
  have bxpD := FxpD.b1 "self" fun _ _ _ _ _ _ _ => rfl
  obtain ⟨dxpE, FxpE⟩ := lxpE
  have expE := FxpE.kp
  have bxpE := FxpE.b1 "self" fun _ _ _ _ _ _ _ => rfl
  obtain ⟨dxiF, FxiF⟩ := lxiF
  have exiF := FxiF.kp
  have bxiF := FxiF.b4 "self" "where" "cell" "amount" fun _ _ _ _ _ _ _ _ _ _ => rfl
  obtain ⟨dxpF, FxpF⟩ := lxpF
  have expF := FxpF.kp
  have bxpF := FxpF.b1 "self" fun _ _ _ _ _ _ _ => rfl
  obtain ⟨dxiG, FxiG⟩ := lxiG
  have exiG := FxiG.kp
  have bxiG := FxiG.b2 "self" "amount" fun _ _ _ _ _ _ _ _ => rfl
  obtain ⟨dxpG, FxpG⟩ := lxpG
  have expG := FxpG.kp
  have bxpG := FxpG.b1 "self" fun _ _ _ _ _ _ _ => rfl
  obtain ⟨dxiN, FxiN⟩ := lxiN
  have exiN := FxiN.kp
  have bxiN := FxiN.b2 "self" "amount" fun _ _ _ _ _ _ _ _ => rfl
  obtain ⟨dxpN, FxpN⟩ := lxpN
  have expN := FxpN.kp
  have bxpN := FxpN.b1 "self" fun _ _ _ _ _ _ _ => rfl
  have W : TxW K (wmk WA WB WD WE WF WG WN) := ⟨fun k => match k with | .take => ⟨pgwA, hdwA, powA, sawA⟩ | .mean => ⟨pgwB, hdwB, powB, sawB⟩ | .sum => ⟨pgwD, hdwD, powD, sawD⟩ | .give => ⟨pgwE, hdwE, powE, sawE⟩ | .add => ⟨pgwF, hdwF, powF, sawF⟩ | .plus => ⟨pgwG, hdwG, powG, sawG⟩ | .need => ⟨pgwN, hdwN, powN, sawN⟩, fun k => match k with | .take => nWwA | .mean => nWwB | .sum => nWwD | .give => nWwE | .add => nWwF | .plus => nWwG | .need => nWwN, fun k => match k with | .take => nCwA | .mean => nCwB | .sum => nCwD | .give => nCwE | .add => nCwF | .plus => nCwG | .need => nCwN, fun k => match k with | .take => nLwA | .mean => nLwB | .sum => nLwD | .give => nLwE | .add => nLwF | .plus => nLwG | .need => nLwN, fun k => match k with | .take => nHwA | .mean => nHwB | .sum => nHwD | .give => nHwE | .add => nHwF | .plus => nHwG | .need => nHwN, fun k => match k with | .take => nAwA | .mean => nAwB | .sum => nAwD | .give => nAwE | .add => nAwF | .plus => nAwG | .need => nAwN⟩
  obtain ⟨dpi, Fpi⟩ := lpi
  have epi := Fpi.kp
  have bpi := Fpi.b3 "self" "manner" "steps" fun _ _ _ _ _ _ _ _ _ => rfl
  obtain ⟨dps, Fps⟩ := lps
  have eps := Fps.kp
  have bps := Fps.b1 "self" fun _ _ _ _ _ _ _ => rfl
  have TP : TxP K CP := ⟨⟨pgP, hdP, poP, saP⟩, nPm, nPs, nPp⟩
  obtain ⟨deT, FeT⟩ := leT
  have eeT := FeT.kp
  have beT := FeT.b2 "self" "at" fun _ _ _ _ _ _ _ _ => rfl
  have cxT : XA.ClsX K CTx := ⟨xcT, xsT, xnT, ⟨xgT, xhT, xkT, hn, htk, xmT, xbT⟩⟩
  have mkTx : XA.MkX K CTx feT := ⟨xjT, jeT, keT, cxT⟩
  obtain ⟨dW1, FW1⟩ := lW1
  have eW1 := FW1.kp
  have bW1 := FW1.b1 "thing" fun _ _ _ _ _ _ _ => rfl
  have mW1 : mg "is_whole" = some (.ref fW1) := mg_of X G aW1
  obtain ⟨dH1, FH1⟩ := lH1
  have eH1 := FH1.kp
  have bH1 := FH1.b1 "thing" fun _ _ _ _ _ _ _ => rfl
  have mH1 : mg "shown" = some (.ref fH1) := mg_of X G aH1
  obtain ⟨dR1, FR1⟩ := lR1
  have eR1 := FR1.kp
  have bR1 := FR1.b1 "text" fun _ _ _ _ _ _ _ => rfl
  have mR1 : mg "read_thing" = some (.ref fR1) := mg_of X G aR1
  obtain ⟨dG1, FG1⟩ := lG1
  have eG1 := FG1.kp
  have bG1 := FG1.b1 "sign" fun _ _ _ _ _ _ _ => rfl
  have mG1 : mg "is_sign" = some (.ref fG1) := mg_of X G aG1
  obtain ⟨dP1, FP1⟩ := lP1
  have eP1 := FP1.kp
  have bP1 := FP1.b2 "word" "numbers" fun _ _ _ _ _ _ _ _ => rfl
  have mP1 : mg "spell" = some (.ref fP1) := mg_of X G aP1
  obtain ⟨dS1, FS1⟩ := lS1
  have eS1 := FS1.kp
  have bS1 := FS1.b1 "text" fun _ _ _ _ _ _ _ => rfl
  have mS1 : mg "read_step" = some (.ref fS1) := mg_of X G aS1
  obtain ⟨dN1, FN1⟩ := lN1
  have eN1 := FN1.kp
  have bN1 := FN1.b2 "word" "letter" fun _ _ _ _ _ _ _ _ => rfl
  have mN1 : mg "read_number" = some (.ref fN1) := mg_of X G aN1
  obtain ⟨dM1, FM1⟩ := lM1
  have eM1 := FM1.kp
  have bM1 := FM1.b2 "word" "numbers" fun _ _ _ _ _ _ _ _ => rfl
  have mM1 : mg "made_step" = some (.ref fM1) := mg_of X G aM1
  obtain ⟨dU1, FU1⟩ := lU1
  have eU1 := FU1.kp
  have bU1 := FU1.b3 "where" "low" "high" fun _ _ _ _ _ _ _ _ _ => rfl
  have mU1 : mg "made_sum" = some (.ref fU1) := mg_of X G aU1
  obtain ⟨dA3, FA3⟩ := lA3
  have eA3 := FA3.kp
  have bA3 := FA3.b2 "text" "number" fun _ _ _ _ _ _ _ _ => rfl
  have mA3 : mg "read_part" = some (.ref fA3) := mg_of X G aA3
  obtain ⟨dB3, FB3⟩ := lB3
  have eB3 := FB3.kp
  have bB3 := FB3.b1 "text" fun _ _ _ _ _ _ _ => rfl
  have mB3 : mg "read_pact" = some (.ref fB3) := mg_of X G aB3
  obtain ⟨dA2, FA2⟩ := lA2
  have eA2 := FA2.kp
  have bA2 := FA2.b2 "_law_script" "_law_k" fun _ _ _ _ _ _ _ _ => rfl
  have mA2 : mg "_law_cell" = some (.ref fA2) := mg_of X G aA2
  obtain ⟨dW2, FW2⟩ := lW2
  have eW2 := FW2.kp
  have bW2 := FW2.b1 "_law_found" fun _ _ _ _ _ _ _ => rfl
  have mW2 : mg "_law_whole" = some (.ref fW2) := mg_of X G aW2
  obtain ⟨dX2, FX2⟩ := lX2
  have eX2 := FX2.kp
  have bX2 := FX2.b2 "_law_cell_here" "_law_k" fun _ _ _ _ _ _ _ _ => rfl
  have mX2 : mg "_law_mixed" = some (.ref fX2) := mg_of X G aX2
  obtain ⟨dN2, FN2⟩ := lN2
  have eN2 := FN2.kp
  have bN2 := FN2.b2 "_law_cell_here" "_law_k" fun _ _ _ _ _ _ _ _ => rfl
  have mN2 : mg "_law_number" = some (.ref fN2) := mg_of X G aN2
  obtain ⟨dE2, FE2⟩ := lE2
  have eE2 := FE2.kp
  have bE2 := FE2.b2 "_law_cell_here" "_law_k" fun _ _ _ _ _ _ _ _ => rfl
  have mE2 : mg "_law_either" = some (.ref fE2) := mg_of X G aE2
  obtain ⟨dS2, FS2⟩ := lS2
  have eS2 := FS2.kp
  have bS2 := FS2.b1 "_law_cell_here" fun _ _ _ _ _ _ _ => rfl
  have mS2 : mg "_law_step" = some (.ref fS2) := mg_of X G aS2
  obtain ⟨dT2, FT2⟩ := lT2
  have eT2 := FT2.kp
  have bT2 := FT2.b1 "_law_step_here" fun _ _ _ _ _ _ _ => rfl
  have mT2 : mg "_law_text" = some (.ref fT2) := mg_of X G aT2
  obtain ⟨dO2, FO2⟩ := lO2
  have eO2 := FO2.kp
  have bO2 := FO2.b0  fun _ _ _ _ _ _ => rfl
  have mO2 : mg "_law_odds" = some (.ref fO2) := mg_of X G aO2
  obtain ⟨dP2, FP2⟩ := lP2
  have eP2 := FP2.kp
  have bP2 := FP2.b2 "_law_text_here" "_law_cell_here" fun _ _ _ _ _ _ _ _ => rfl
  have mP2 : mg "_law_spoiled" = some (.ref fP2) := mg_of X G aP2
  obtain ⟨dI2, FI2⟩ := lI2
  have eI2 := FI2.kp
  have bI2 := FI2.b2 "_law_word" "_law_below" fun _ _ _ _ _ _ _ _ => rfl
  have mI2 : mg "_law_is_number" = some (.ref fI2) := mg_of X G aI2
  obtain ⟨dJ2, FJ2⟩ := lJ2
  have eJ2 := FJ2.kp
  have bJ2 := FJ2.b1 "_law_text_here" fun _ _ _ _ _ _ _ => rfl
  have mJ2 : mg "_law_is_step" = some (.ref fJ2) := mg_of X G aJ2
  obtain ⟨dD2, FD2⟩ := lD2
  have eD2 := FD2.kp
  have bD2 := FD2.b1 "_law_text_here" fun _ _ _ _ _ _ _ => rfl
  have mD2 : mg "_law_due" = some (.ref fD2) := mg_of X G aD2
  obtain ⟨dL2, FL2⟩ := lL2
  have eL2 := FL2.kp
  have bL2 := FL2.b2 "_law_e" "_law_due_here" fun _ _ _ _ _ _ _ _ => rfl
  have mL2 : mg "_law_told" = some (.ref fL2) := mg_of X G aL2
  obtain ⟨dQ2, FQ2⟩ := lQ2
  have eQ2 := FQ2.kp
  have bQ2 := FQ2.b1 "_law_text_here" fun _ _ _ _ _ _ _ => rfl
  have mQ2 : mg "_law_pact_right" = some (.ref fQ2) := mg_of X G aQ2
  obtain ⟨dR2, FR2⟩ := lR2
  have eR2 := FR2.kp
  have bR2 := FR2.b1 "_law_text_here" fun _ _ _ _ _ _ _ => rfl
  have mR2 : mg "_law_step_right" = some (.ref fR2) := mg_of X G aR2
  obtain ⟨dZ, FZ⟩ := lZ
  have eZ := FZ.kp
  have B : TxB mg := ⟨mg_none_of X G y_isinstance, mg_none_of X G y_int, mg_none_of X G y_bool, mg_none_of X G y_str, mg_none_of X G y_len, mg_none_of X G y_range, mg_none_of X G y_tuple, mg_none_of X G y_list, mg_none_of X G y_any, mg_none_of X G y_all, mg_none_of X G y_max, mg_none_of X G y_sorted⟩
  have TT : K25T.Tx K mg CRd := ⟨⟨pgrd, hdrd, pord, sard⟩, nTx, nPl, mg_of X G nrd, mg_none_of X G y_isinstance, mg_none_of X G y_int, mg_none_of X G y_bool, mg_none_of X G y_str, mg_none_of X G y_len, mg_none_of X G y_ord, mg_none_of X G y_all, mg_none_of X G y_range, ⟨_, mg_of X G q_MOST_FIGURES_things⟩, ⟨_, mg_of X G q_MOST_SIGNS⟩, ⟨_, mg_of X G q_MOST_DEEP⟩, ⟨_, mg_of X G q_LONGEST⟩, ⟨_, mg_of X G q_BLANK⟩, ⟨_, mg_of X G q_PERCENT⟩, ⟨_, mg_of X G q_TILDE⟩⟩
  have TY : K25T.Ty K mg CNo := ⟨mg_of X G nNo, xNo⟩
  have tM : ∀ H, SqT K H aMn [.str "held", .str "walked"] := fun H => .inr ⟨_, _, _, lMn, rfl, rfl, (by show 2 ≤ sizeLine; decide), .cons ⟨mn1, rfl⟩ (.cons ⟨mn2, rfl⟩ .nil)⟩
  have Y : Tq K mg CNo CTx CA CE := ⟨mg_of X G nA, kT, kA, kN, mg_of X G nE, xE, sE⟩
  refine ⟨dZ, (by obtain ⟨oc, od, kV, doc, pm, an, cdv, ct, osl, rfl, lk, hcd⟩ := FZ.ex; exact fun s v => .of_eq rfl), fun base _ _ => ?_⟩
  have GCI := ok_cinit (P := l.prog) (w := w) (mg := mg) (base := base) FxiY W
  have WI : ∀ wd, WI l.prog w K mg base (wmk WA WB WD WE WF WG WN) wd := fun wd => match wd with | .take => ⟨fxiY, _, _, ⟨mkwA, uxiYA, jxiY, kcwA⟩, (GCI.imp fun _ _ _ _ z => cinit_w rfl z).mono (by decide), bxiY, mg_of X G nwA⟩ | .mean => ⟨fxiY, _, _, ⟨mkwB, uxiYB, jxiY, kcwB⟩, (GCI.imp fun _ _ _ _ z => cinit_w rfl z).mono (by decide), bxiY, mg_of X G nwB⟩ | .sum => ⟨fxiD, _, _, ⟨mkwD, uxiDD, jxiD, kcwD⟩, (ok_sinit FxiD W).mono (by decide), bxiD, mg_of X G nwD⟩ | .give => ⟨fxiY, _, _, ⟨mkwE, uxiYE, jxiY, kcwE⟩, (GCI.imp fun _ _ _ _ z => cinit_w rfl z).mono (by decide), bxiY, mg_of X G nwE⟩ | .add => ⟨fxiF, _, _, ⟨mkwF, uxiFF, jxiF, kcwF⟩, ok_ainit FxiF W (mg_of X G nCY) ⟨gaY, rdY, fcY, hiY, exiY⟩ GCI bxiY, bxiF, mg_of X G nwF⟩ | .plus => ⟨fxiG, _, _, ⟨mkwG, uxiGG, jxiG, kcwG⟩, (ok_pinit FxiG W).mono (by decide), bxiG, mg_of X G nwG⟩ | .need => ⟨fxiN, _, _, ⟨mkwN, uxiNN, jxiN, kcwN⟩, (ok_ninit FxiN W).mono (by decide), bxiN, mg_of X G nwN⟩ 
  have TS : Ts l.prog w K mg CNo CTx feT _ := ⟨mg_of X G nNo, xNo, sN, mg_of X G neT, mkTx, sT, fun Bh => ok_xinit (P := l.prog) (w := w) (mg := mg) (base := Bh) (C := CTx) FeT sc_NoText_init rfl rfl cxT, beT⟩
  have Hi := K25T.ok_init (P := l.prog) (w := w) (mg := mg) (base := base) Fri TT
  have Hp := K25T.ok_pass (P := l.prog) (w := w) (mg := mg) (base := base) Frp TT
  have Hn := K25T.ok_num (P := l.prog) (w := w) (mg := mg) (base := base) Frn TT TY
  have Hx := K25T.ok_signs (P := l.prog) (w := w) (mg := mg) (base := base) Frx TT TY
  have Mrn : Meth K CRd "read_number" frn := ⟨arn, jrn, ern⟩
  have Mrp : Meth K CRd "passes" frp := ⟨arp, jrp, erp⟩
  have Mrb : Meth K CRd "read_below" frb := ⟨arb, jrb, erb⟩
  have Mrx : Meth K CRd "read_signs" frx := ⟨arx, jrx, erx⟩
  have Mra : Meth K CRd "read_any" fra := ⟨ara, jra, era⟩
  have Hb := K25T.ok_below Frb TT TY Hn brn Mrn
  have Ha := K25T.ok_any (n := 8) Fra TT Hp brp Mrp Hb brb Mrb Hn brn Mrn Hx brx Mrx
  have HG := K25T.ok_sign (P := l.prog) (w := w) (mg := mg) (base := base) FG1 TT
  have GW1 : GF l.prog w K mg base CX0 1 "is_whole" ["thing"] spWh := ⟨fW1, _, ok_iswhole FW1 B, bW1, eW1, mW1⟩
  have GH1 : GF l.prog w K mg base CX0 2 "shown" ["thing"] spShown := ⟨fH1, _, ok_shown FH1 B GW1, bH1, eH1, mH1⟩
  have GP1 : GF l.prog w K mg base CX0 3 "spell" ["word", "numbers"] spSpell := ⟨fP1, _, ok_spell FP1 GH1, bP1, eP1, mP1⟩
  have GR1 : GF l.prog w K mg base (CXE l.prog w) 24 "read_thing" ["text"] (K25T.spRead CNo) := ⟨fR1, _, K25T.ok_read FR1 TT TY ⟨mkrd, ari, jri, kcrd⟩ HG bG1 eG1 mG1 Hi bri Ha bra Mra, bR1, eR1, mR1⟩
  have GN1 : GF l.prog w K mg base (XA.CXA 1 l.prog w) 25 "read_number" ["word", "letter"] (spRNu CTx) := ⟨fN1, _, ok_rnum FN1 B TS ⟨_, mg_of X G q_MOST_FIGURES_steps⟩ GR1 GW1, bN1, eN1, mN1⟩
  have GU1 : GF l.prog w K mg base (XA.CXA 1 l.prog w) 22 "made_sum" ["where", "low", "high"] (spMSumE (wmk WA WB WD WE WF WG WN) CTx) := ⟨fU1, _, ok_msum FU1 TS (WI .sum), bU1, eU1, mU1⟩
  have GM1 : GF l.prog w K mg base (XA.CXA 1 l.prog w) 23 "made_step" ["word", "numbers"] (spMadeE (wmk WA WB WD WE WF WG WN) CTx) := ⟨fM1, _, ok_mstep FM1 WI GU1, bM1, eM1, mM1⟩
  have GS1 : GF l.prog w K mg base (XA.CXA 1 l.prog w) 26 "read_step" ["text"] (spRSt (wmk WA WB WD WE WF WG WN) CTx) := ⟨fS1, _, ok_rstep FS1 B TS (mg_of X G nSh) (tab_mk lSh qSh tSh) GN1 GM1, bS1, eS1, mS1⟩
  have Gp : ∀ wd, GM l.prog w K mg base CX0 4 ((wmk WA WB WD WE WF WG WN) wd) "spelled" ["self"] (spSpelled (wmk WA WB WD WE WF WG WN) wd) := fun wd => match wd with | .take => ⟨fxpA, _, ok_ptake FxpA W GP1, bxpA, ⟨uxpAA, jxpA, expA⟩⟩ | .mean => ⟨fxpB, _, ok_pmean FxpB W GP1, bxpB, ⟨uxpBB, jxpB, expB⟩⟩ | .sum => ⟨fxpD, _, ok_psum FxpD W GP1, bxpD, ⟨uxpDD, jxpD, expD⟩⟩ | .give => ⟨fxpE, _, ok_pgive FxpE W GP1, bxpE, ⟨uxpEE, jxpE, expE⟩⟩ | .add => ⟨fxpF, _, ok_padd FxpF W GP1, bxpF, ⟨uxpFF, jxpF, expF⟩⟩ | .plus => ⟨fxpG, _, ok_pplus FxpG W GP1, bxpG, ⟨uxpGG, jxpG, expG⟩⟩ | .need => ⟨fxpN, _, ok_pneed FxpN W GP1, bxpN, ⟨uxpNN, jxpN, expN⟩⟩ 
  have GPI := ok_painit (P := l.prog) (w := w) (mg := mg) (base := base) Fpi B TP
  have GPS : GM l.prog w K mg base CX0 5 CP "spelled" ["self"] (spPSp CP (wmk WA WB WD WE WF WG WN)) := ⟨fps, _, ok_pasp Fps B TP W Gp, bps, ⟨aps, jps, eps⟩⟩
  have GA3 : GF l.prog w K mg base (XA.CXA 2 l.prog w) 27 "read_part" ["text", "number"] (spRPt (wmk WA WB WD WE WF WG WN) CTx) := ⟨fA3, _, ok_rpart FA3 TS GS1, bA3, eA3, mA3⟩
  have GB3 : GF l.prog w K mg base (XA.CXA 2 l.prog w) 28 "read_pact" ["text"] (spRPa CP (wmk WA WB WD WE WF WG WN) CTx) := ⟨fB3, _, ok_rpact FB3 B TS (mg_of X G nMnn) tM ⟨_, mg_of X G q_MOST_STEPS⟩ ⟨mkP, api, jpi, kcP⟩ (mg_of X G nP) GPI bpi GA3, bB3, eB3, mB3⟩
  have GA2 : GF l.prog w K mg base CX0 1 "_law_cell" ["_law_script", "_law_k"] (spCell K) := ⟨fA2, _, ok_lcell FA2 B, bA2, eA2, mA2⟩
  have GX2 : GF l.prog w K mg base CX0 1 "_law_mixed" ["_law_cell_here", "_law_k"] spMixed := ⟨fX2, _, ok_mixed FX2, bX2, eX2, mX2⟩
  have GN2 : GF l.prog w K mg base CX0 2 "_law_number" ["_law_cell_here", "_law_k"] spNumber := ⟨fN2, _, ok_number FN2 B GX2, bN2, eN2, mN2⟩
  have GE2 : GF l.prog w K mg base CX0 3 "_law_either" ["_law_cell_here", "_law_k"] spEither := ⟨fE2, _, ok_either FE2 GX2 GN2, bE2, eE2, mE2⟩
  have GS2 : GF l.prog w K mg base CX0 24 "_law_step" ["_law_cell_here"] spLStep := ⟨fS2, _, ok_lstep FS2 B (mg_none_of X G y_min) GN2 GE2, bS2, eS2, mS2⟩
  have GT2 : GF l.prog w K mg base CX0 2 "_law_text" ["_law_step_here"] spLText := ⟨fT2, _, (ok_ltext FT2 B).mono (by decide), bT2, eT2, mT2⟩
  have HO := ok_odds (P := l.prog) (w := w) (mg := mg) (base := base) FO2
  have GP2 : GF l.prog w K mg base CX0 2 "_law_spoiled" ["_law_text_here", "_law_cell_here"] spSpoil := ⟨fP2, _, ok_spoiled FP2 B GX2 HO bO2 eO2 mO2, bP2, eP2, mP2⟩
  have GI2 : ∀ base, GF l.prog w K mg base CX0 1 "_law_is_number" ["_law_word", "_law_below"] spIsN := fun base => ⟨fI2, _, ok_isnum FI2 B, bI2, eI2, mI2⟩
  have HI := fun Bh => ok_isstep (P := l.prog) (w := w) (mg := mg) (base := Bh) FJ2 B (GI2 Bh)
  have GJ2 : GF l.prog w K mg base CX0 2 "_law_is_step" ["_law_text_here"] spIsS := ⟨fJ2, _, HI base, bJ2, eJ2, mJ2⟩
  have GD2 : GF l.prog w K mg base CX0 22 "_law_due" ["_law_text_here"] spDue := ⟨fD2, _, ok_due FD2 B GJ2, bD2, eD2, mD2⟩
  have GW2 : XA.GH l.prog w K mg base 1 "_law_whole" ["_law_found"] Lo.spWhole := ⟨_, _, ok_wholeH FW2 B, bW2, mW2, eW2⟩
  have GL2 : XA.GH l.prog w K mg base 2 "_law_told" ["_law_e", "_law_due_here"] (spTold CTx) := ⟨_, _, ok_told FL2 B TS Y GW2, bL2, mL2, eL2⟩
  have GR2 : GF l.prog w K mg base CX0 29 "_law_step_right" ["_law_text_here"] spSR := ⟨fR2, _, ok_stepright FR2 TS Y W GS1 HI bJ2 eJ2 mJ2 GL2 Gp, bR2, eR2, mR2⟩
  have GQ2 : GF l.prog w K mg base CX0 29 "_law_pact_right" ["_law_text_here"] spPR := ⟨fQ2, _, ok_pactright FQ2 TS Y TP GD2 GB3 GL2 GPS, bQ2, eQ2, mQ2⟩
  exact ok_law FZ B GA2 GS2 GT2 HO bO2 eO2 mO2 GP2 GR2 GQ2
theorem walk {l : PySem.W.OpenLaw} {q : Program} {loose : List Str} {XP : (Str → Option Value) → Heap → Prop} {YP : World → Heap → Prop} {d : DefRec} {K : Params → PySem.W.Frag} (hn : l.most = some 63) (hdf : d.params.defaults = [])
    (hY : ∀ (w : World) (h : Heap), YP w h → (K w.params).In h)
    (F : ∀ (w : World) (mg : Str → Option Value) (fa : Addr) (h : Heap), (K w.params).In h → h.Ns mainGlobals mg → mg d.name = some (.ref fa) →
      ∃ fd : FuncData, (∀ (s : Shared) (u : Value), BindsTo s fd ⟨[u], []⟩ [("_law_script", u)]) ∧ ∀ base : Heap, (K w.params).In base → base.Ns mainGlobals mg → FnOk l.prog w (K w.params) mg base CX0 30 fa fd ["_law_script"] (spLaw (K w.params))) :
    PySem.W.WalkO q loose XP YP l.row.toRowW d [] (fun f vs => PySem.call f vs) :=
  L2.walk_of (n := 63) (k := 30) (x := "_law_script") (CX := fun _ => CX0) (sp := fun w => spLaw (K w.params)) hn (by decide) hdf ⟨fun _ => rfl, by decide, by decide⟩ hY F (fun _ _ a ns hl _ hS => ⟨a, ns, rfl, hS, hl, fun _ => rfl⟩) fun _ _ _ _ _ z => z
end K25
section
set_option maxHeartbeats 0
open PySem PySem.W PyProof.Rows
lay_quick PySem.Challenge.pw_pactroom_k25_no_pact
namespace Q
noncomputable section
noncomputable abbrev vT : Value := Value.bool true
noncomputable abbrev vF : Value := Value.bool false
noncomputable abbrev A {α : Type} (l : List α) : Array α := Array.mk l
noncomputable abbrev E {α : Type} : Array α := Array.mk []
noncomputable abbrev vn : Value := Value.none
noncomputable abbrev vr (n : Nat) : Value := Value.ref n
noncomputable abbrev sr (n : Nat) : Option Value := some (Value.ref n)
noncomputable abbrev vi (a : Int) (n : Nat) : Value := Value.int a n
noncomputable abbrev vs (q : Str) (n : Nat) : Value := Value.str q n
noncomputable abbrev de (P : Params) (q : Str) (n : Nat) (v : Value) : DictEntry := DictEntry.mk (PyData.keyHash P q) (Value.str q n) v
noncomputable abbrev nd (o : Obj) (a b : BT) : BT := .node o a b
noncomputable abbrev l1 (o : Obj) : BT := .node o .nil .nil
abbrev S (l : List Nat) : Str := @Str.mk (Array.mk l)
abbrev q0:=S [60,109,111,100,117,108,101,62]
abbrev q1:=S [47,99,108,97,105,109,47,99,117,116,46,112,121]
abbrev q2:=S [95,95,109,97,105,110,95,95]
abbrev q3:=S [95,95,110,97,109,101,95,95]
abbrev q4:=S [112,97,99,116,114,111,111,109,46,115,116,101,112,115]
abbrev q5:=S [95,95,100,111,99,95,95]
abbrev q6:=S [95,95,112,97,99,107,97,103,101,95,95]
abbrev q7:=S [95,95,108,111,97,100,101,114,95,95]
abbrev q8:=S [95,95,115,112,101,99,95,95]
abbrev q9:=S [95,95,97,110,110,111,116,97,116,105,111,110,115,95,95]
abbrev q10:=S [95,95,98,117,105,108,116,105,110,115,95,95]
abbrev q11:=S [95,95,102,105,108,101,95,95]
abbrev q12:=S [95,95,99,97,99,104,101,100,95,95]
abbrev q13:=S [95,119,97,108,108]
abbrev q14:=S [80,97,99,116,69,114,114,111,114]
abbrev q15:=S [78,111,84,104,105,110,103]
abbrev q16:=S [78,111,84,101,120,116]
abbrev q17:=S [78,111,80,108,97,99,101]
abbrev q18:=S [77,79,83,84,95,70,73,71,85,82,69,83,95,116,104,105,110,103,115]
abbrev q19:=S [77,79,83,84,95,83,73,71,78,83]
abbrev q20:=S [77,79,83,84,95,80,65,82,84,83]
abbrev q21:=S [77,79,83,84,95,68,69,69,80]
abbrev q22:=S [76,79,78,71,69,83,84]
abbrev q23:=S [66,76,65,78,75]
abbrev q24:=S [80,69,82,67,69,78,84]
abbrev q25:=S [84,73,76,68,69]
abbrev q26:=S [105,115,95,119,104,111,108,101]
abbrev q27:=S [115,104,111,119,110]
abbrev q28:=S [114,101,97,100,95,116,104,105,110,103]
abbrev q29:=S [105,115,95,115,105,103,110]
abbrev q30:=S [82,101,97,100,101,114]
abbrev q31:=S [77,79,83,84,95,70,73,71,85,82,69,83,95,115,116,101,112,115]
abbrev q32:=S [83,72,65,80,69,83]
abbrev q33:=S [83,116,101,112]
abbrev q34:=S [107]
abbrev q35:=S [95,95,109,111,100,117,108,101,95,95]
abbrev q36:=S [112,97,99,116,114,111,111,109,46,101,114,114,111,114,115]
abbrev q37:=S [95,95,113,117,97,108,110,97,109,101,95,95]
abbrev q38:=S [95,95,102,105,114,115,116,108,105,110,101,110,111,95,95]
abbrev q39:=S [95,95,115,116,97,116,105,99,95,97,116,116,114,105,98,117,116,101,115,95,95]
abbrev q40:=S [95,95,119,101,97,107,114,101,102,95,95]
abbrev q41:=S [95,95,105,110,105,116,95,95]
abbrev q42:=S [115,101,108,102]
abbrev q43:=S [97,116]
abbrev q44:=S [78,111,84,101,120,116,46,95,95,105,110,105,116,95,95]
abbrev q45:=S [78,111,80,108,97,99,101,46,95,95,105,110,105,116,95,95]
abbrev q46:=S [116,104,105,110,103]
abbrev q47:=S [112,97,99,116,114,111,111,109,46,116,104,105,110,103,115]
abbrev q48:=S [115,105,103,110]
abbrev q49:=S [110,117,109,98,101,114]
abbrev q50:=S [112,97,115,115,101,115]
abbrev q51:=S [114,101,97,100,95,97,110,121]
abbrev q52:=S [114,101,97,100,95,112,97,114,116,115]
abbrev q53:=S [114,101,97,100,95,98,101,108,111,119]
abbrev q54:=S [114,101,97,100,95,110,117,109,98,101,114]
abbrev q55:=S [114,101,97,100,95,115,105,103,110,115]
abbrev q56:=S [116,101,120,116]
abbrev q57:=S [82,101,97,100,101,114,46,95,95,105,110,105,116,95,95]
abbrev q58:=S [82,101,97,100,101,114,46,112,97,115,115,101,115]
abbrev q59:=S [100,101,101,112]
abbrev q60:=S [82,101,97,100,101,114,46,114,101,97,100,95,97,110,121]
abbrev q61:=S [112,97,114,116,115]
abbrev q62:=S [82,101,97,100,101,114,46,114,101,97,100,95,112,97,114,116,115]
abbrev q63:=S [82,101,97,100,101,114,46,114,101,97,100,95,98,101,108,111,119]
abbrev q64:=S [115,116,97,114,116]
abbrev q65:=S [102,105,103,117,114,101,115]
abbrev q66:=S [82,101,97,100,101,114,46,114,101,97,100,95,110,117,109,98,101,114]
abbrev q67:=S [109,97,110,121]
abbrev q68:=S [98,101,104,105,110,100]
abbrev q69:=S [115,105,103,110,115]
abbrev q70:=S [82,101,97,100,101,114,46,114,101,97,100,95,115,105,103,110,115]
abbrev q71:=S [112,108,97,99,101]
abbrev q72:=S [95,95,100,105,99,116,95,95]
abbrev q73:=S [116,97,107,101]
abbrev q74:=S [72,67]
abbrev q75:=S [109,101,97,110]
abbrev q76:=S [115,117,109]
abbrev q77:=S [72,65,66]
abbrev q78:=S [103,105,118,101]
abbrev q79:=S [97,100,100]
abbrev q80:=S [72,67,86]
abbrev q81:=S [112,108,117,115]
abbrev q82:=S [86]
abbrev q83:=S [110,101,101,100]
abbrev q84:=S [104,111,117,115,101]
abbrev q85:=S [108,111,99,107]
abbrev q86:=S [115,116,101,112,95,100,111,110,101]
abbrev q87:=S [98,97,99,107]
abbrev q88:=S [115,117,114,101]
abbrev q89:=S [115,112,101,108,108,101,100]
abbrev q90:=S [83,116,101,112,46,104,111,117,115,101]
abbrev q91:=S [83,116,101,112,46,108,111,99,107]
abbrev q92:=S [104,97,110,100]
abbrev q93:=S [118,97,108,117,101,95,111,102]
abbrev q94:=S [83,116,101,112,46,115,116,101,112,95,100,111,110,101]
abbrev q95:=S [83,116,101,112,46,98,97,99,107]
abbrev q96:=S [83,116,101,112,46,115,117,114,101]
abbrev q97:=S [83,116,101,112,46,115,112,101,108,108,101,100]
abbrev q98:=S [67,101,108,108,83,116,101,112]
abbrev q99:=S [84,97,107,101,83,116,101,112]
abbrev q100:=S [77,101,97,110,83,116,101,112]
abbrev q101:=S [83,117,109,83,116,101,112]
abbrev q102:=S [71,105,118,101,83,116,101,112]
abbrev q103:=S [65,100,100,83,116,101,112]
abbrev q104:=S [119,104,101,114,101]
abbrev q105:=S [99,101,108,108]
abbrev q106:=S [67,101,108,108,83,116,101,112,46,95,95,105,110,105,116,95,95]
abbrev q107:=S [67,101,108,108,83,116,101,112,46,104,111,117,115,101]
abbrev q108:=S [84,97,107,101,83,116,101,112,46,108,111,99,107]
abbrev q109:=S [84,97,107,101,83,116,101,112,46,115,116,101,112,95,100,111,110,101]
abbrev q110:=S [84,97,107,101,83,116,101,112,46,115,112,101,108,108,101,100]
abbrev q111:=S [77,101,97,110,83,116,101,112,46,108,111,99,107]
abbrev q112:=S [77,101,97,110,83,116,101,112,46,115,116,101,112,95,100,111,110,101]
abbrev q113:=S [77,101,97,110,83,116,101,112,46,115,112,101,108,108,101,100]
abbrev q114:=S [108,111,119]
abbrev q115:=S [104,105,103,104]
abbrev q116:=S [83,117,109,83,116,101,112,46,95,95,105,110,105,116,95,95]
abbrev q117:=S [83,117,109,83,116,101,112,46,104,111,117,115,101]
abbrev q118:=S [83,117,109,83,116,101,112,46,108,111,99,107]
abbrev q119:=S [83,117,109,83,116,101,112,46,115,116,101,112,95,100,111,110,101]
abbrev q120:=S [83,117,109,83,116,101,112,46,115,112,101,108,108,101,100]
abbrev q121:=S [71,105,118,101,83,116,101,112,46,108,111,99,107]
abbrev q122:=S [71,105,118,101,83,116,101,112,46,115,116,101,112,95,100,111,110,101]
abbrev q123:=S [71,105,118,101,83,116,101,112,46,115,117,114,101]
abbrev q124:=S [71,105,118,101,83,116,101,112,46,115,112,101,108,108,101,100]
abbrev q125:=S [97,109,111,117,110,116]
abbrev q126:=S [65,100,100,83,116,101,112,46,95,95,105,110,105,116,95,95]
abbrev q127:=S [65,100,100,83,116,101,112,46,108,111,99,107]
abbrev q128:=S [65,100,100,83,116,101,112,46,115,116,101,112,95,100,111,110,101]
abbrev q129:=S [65,100,100,83,116,101,112,46,98,97,99,107]
abbrev q130:=S [65,100,100,83,116,101,112,46,115,112,101,108,108,101,100]
abbrev q131:=S [108,97,119,95,112,97,99,116,114,111,111,109,95,107,50,53,95,110,111,95,112,97,99,116]
abbrev q132:=S [80,108,117,115,83,116,101,112]
abbrev q133:=S [78,101,101,100,83,116,101,112]
abbrev q134:=S [115,112,101,108,108]
abbrev q135:=S [114,101,97,100,95,115,116,101,112]
abbrev q136:=S [109,97,100,101,95,115,116,101,112]
abbrev q137:=S [109,97,100,101,95,115,117,109]
abbrev q138:=S [77,65,78,78,69,82,83]
abbrev q139:=S [77,79,83,84,95,83,84,69,80,83]
abbrev q140:=S [80,97,99,116]
abbrev q141:=S [114,101,97,100,95,112,97,99,116]
abbrev q142:=S [114,101,97,100,95,112,97,114,116]
abbrev q143:=S [95,108,97,119,95,99,101,108,108]
abbrev q144:=S [95,108,97,119,95,119,104,111,108,101]
abbrev q145:=S [95,108,97,119,95,109,105,120,101,100]
abbrev q146:=S [95,108,97,119,95,110,117,109,98,101,114]
abbrev q147:=S [95,108,97,119,95,101,105,116,104,101,114]
abbrev q148:=S [95,108,97,119,95,115,116,101,112]
abbrev q149:=S [95,108,97,119,95,116,101,120,116]
abbrev q150:=S [95,108,97,119,95,111,100,100,115]
abbrev q151:=S [95,108,97,119,95,115,112,111,105,108,101,100]
abbrev q152:=S [95,108,97,119,95,105,115,95,110,117,109,98,101,114]
abbrev q153:=S [95,108,97,119,95,105,115,95,115,116,101,112]
abbrev q154:=S [95,108,97,119,95,100,117,101]
abbrev q155:=S [95,108,97,119,95,116,111,108,100]
abbrev q156:=S [95,108,97,119,95,112,97,99,116,95,114,105,103,104,116]
abbrev q157:=S [95,108,97,119,95,115,116,101,112,95,114,105,103,104,116]
abbrev q158:=S [108,97,119]
abbrev q159:=S [80,108,117,115,83,116,101,112,46,95,95,105,110,105,116,95,95]
abbrev q160:=S [80,108,117,115,83,116,101,112,46,115,116,101,112,95,100,111,110,101]
abbrev q161:=S [80,108,117,115,83,116,101,112,46,115,112,101,108,108,101,100]
abbrev q162:=S [78,101,101,100,83,116,101,112,46,95,95,105,110,105,116,95,95]
abbrev q163:=S [78,101,101,100,83,116,101,112,46,115,116,101,112,95,100,111,110,101]
abbrev q164:=S [78,101,101,100,83,116,101,112,46,115,112,101,108,108,101,100]
abbrev q165:=S [119,111,114,100]
abbrev q166:=S [108,101,116,116,101,114]
abbrev q167:=S [110,117,109,98,101,114,115]
abbrev q168:=S [104,101,108,100]
abbrev q169:=S [119,97,108,107,101,100]
abbrev q170:=S [112,97,99,116,114,111,111,109,46,112,97,99,116,115]
abbrev q171:=S [109,97,110,110,101,114]
abbrev q172:=S [115,116,101,112,115]
abbrev q173:=S [80,97,99,116,46,95,95,105,110,105,116,95,95]
abbrev q174:=S [80,97,99,116,46,115,112,101,108,108,101,100]
abbrev q175:=S [95,108,97,119,95,115,99,114,105,112,116]
abbrev q176:=S [95,108,97,119,95,107]
abbrev q177:=S [95,108,97,119,95,102,111,117,110,100]
abbrev q178:=S [95,108,97,119,95,99,101,108,108,95,104,101,114,101]
abbrev q179:=S [95,108,97,119,95,110,117,109,98,101,114,95,104,101,114,101]
abbrev q180:=S [95,108,97,119,95,106]
abbrev q181:=S [95,108,97,119,95,119,111,114,100]
abbrev q182:=S [95,108,97,119,95,119,104,101,114,101]
abbrev q183:=S [95,108,97,119,95,111,110,101]
abbrev q184:=S [95,108,97,119,95,111,116,104,101,114]
abbrev q185:=S [95,108,97,119,95,115,111,109,101]
abbrev q186:=S [95,108,97,119,95,116,101,120,116,95,104,101,114,101]
abbrev q187:=S [95,108,97,119,95,115,105,103,110]
abbrev q188:=S [95,108,97,119,95,97,116]
abbrev q189:=S [95,108,97,119,95,98,101,108,111,119]
abbrev q190:=S [95,108,97,119,95,102,105,103,117,114,101,115]
abbrev q191:=S [95,108,97,119,95,119,111,114,100,115]
abbrev q192:=S [95,108,97,119,95,109,97,110,121]
abbrev q193:=S [95,108,97,119,95,109,97,110,110,101,114]
abbrev q194:=S [95,108,97,119,95,98,108,97,110,107]
abbrev q195:=S [95,108,97,119,95,114,101,115,116]
abbrev q196:=S [95,108,97,119,95,112,97,114,116,115]
abbrev q197:=S [95,108,97,119,95,101]
abbrev q198:=S [95,108,97,119,95,100,117,101,95,104,101,114,101]
noncomputable abbrev y0 : Value := (@Value.type SL.s2766695959194262286x5)
noncomputable abbrev y1 : Value := (@Value.type SL.s5856160107412720595x4)
noncomputable abbrev y2 : Value := (@Value.type SL.s658472552662922059x5)
noncomputable abbrev y3 : Value := (@Value.type SL.s14018661285674007319x4)
noncomputable abbrev y4 : Value := (@Value.builtin SL.s7097527257260152453x26)
noncomputable abbrev y5 : Value := (@Value.type SL.s7174869446012820540x8)
noncomputable abbrev y6 : Value := (@Value.type SL.s6070975301684473832x10)
noncomputable abbrev y7 : Value := (@Value.type SL.s11030030927630378310x26)
noncomputable abbrev y8 : Value := (@Value.builtin SL.s10062305145149207511x16)
noncomputable abbrev y9 : Value := (@Value.type SL.s17162191345867700912x4)
noncomputable abbrev y10 : Value := (@Value.type SL.s5946037652744460706x9)
noncomputable abbrev y11 : Value := (@Value.type SL.s4278001404047624695x13)
noncomputable abbrev y12 : Value := (@Value.type SL.s2742458400755230247x6)
noncomputable abbrev y13 : Value := (@Value.builtin SL.s4209523147560561109x18)
noncomputable abbrev y14 : Value := (@Value.type SL.s14755015743595814543x17)
noncomputable abbrev y15 : Value := (@Value.builtin SL.s10220274742760427390x26)
noncomputable abbrev y16 : Value := (@Value.type SL.s4290257624100764138x5)
noncomputable abbrev y17 : Value := (@Value.builtin SL.s4860613602091757760x24)
noncomputable abbrev y18 : Value := (@Value.builtin SL.s11443829558043349243x14)
noncomputable abbrev y19 : Value := (@Value.builtin SL.s6511155373996960695x17)
noncomputable abbrev y20 : Value := (@Value.builtin SL.s12411053484034534018x21)
noncomputable abbrev p0 : Program := PySem.Challenge.pw_pactroom_k25_no_pact
noncomputable abbrev pq : Program := PySem.W.Fast.tw8522399549074672473
theorem pe : p0 = pq := PySem.W.Fast.te8522399549074672473
noncomputable def B (i : Nat) : Stmt := pq.main.body.getD i (.Pass ⟨0, 0, 0, 0⟩)
noncomputable def T (i : Nat) : Stmt := p0.main.body.getD i (.Pass ⟨0, 0, 0, 0⟩)
noncomputable def M (k j : Nat) : Stmt := L2.inClass (B k) j
noncomputable def N (k j : Nat) : Stmt := L2.inClass (T k) j
noncomputable abbrev fk (a b : Str) (s : Stmt) := FuncData.mk a b (L2.defArgs s) (.stmts (L2.defBody s)) (L2.defScope s)
section
variable (P : Params)
def a11:=Obj.mk y0 none (Data.seq E 0) E
def a12:=Obj.mk vn none (Data.fields E) E
def m0 (x0 : Str) (x1 : Nat) (x2 : Nat) (x3 : Nat) (x4 : Int) (x5 : Nat) (x6 : Nat) (x7 : Int) (x8 : Nat):=Obj.mk y1 none (Data.fields (A [vs x0 x1,vs x0 x2,vs q1 x3,vi x4 0,vi 0 0,vi 0 0,vi 0 0,vi 0 0,vr x5,vF,vi 181 0,vr x6,vn,vn,vn,vn,vi x7 0,vi x4 0,vs q1 x8])) E
def a13:=m0 q0 182 183 184 1 11 12 185 186
def m1 (x0 : Nat) (x1 : Nat) (x2 : Str) (x3 : Nat):=Obj.mk y2 none Data.plain (A [sr x0,sr 3,sr x1,none,some (vs x2 x3),none,sr 0])
def a14:=m1 13 3 q2 164
def u0:=nd (boot_o_0 P) (nd (boot_o_1 P) (nd (boot_o_3 P) (l1 (boot_o_7 P)) (l1 a11)) (nd (boot_o_5 P) (l1 (boot_o_9 P)) (l1 a13))) (nd (boot_o_2 P) (nd (boot_o_4 P) (l1 (boot_o_8 P)) (l1 a12)) (nd (boot_o_6 P) (l1 (boot_o_10 P)) (l1 a14)))
def ta:=u0 P
def tb:=u0 P
def c0_3:=Obj.mk y3 none (Data.dict (A [de P q3 165 (vs q4 408),de P q5 166 vn,de P q6 167 vn,de P q7 168 y4,de P q8 169 vn,de P q9 170 (vr 6),de P q10 171 (vr 4),de P q11 173 (vs q1 172),de P q12 174 vn,de P q13 193 (vr 21),de P q14 213 (vr 31),de P q15 229 (vr 44),de P q16 254 (vr 63),de P q17 279 (vr 82),de P q18 283 (vi 400 282),de P q19 285 (vi 2000 284),de P q20 287 (vi 2000 286),de P q21 289 (vi 8 288),de P q22 291 (vi 100000 290),de P q23 293 (vi 32 292),de P q24 295 (vi 37 294),de P q25 297 (vi 126 296),de P q26 304 (vr 91),de P q27 310 (vr 96),de P q28 316 (vr 101),de P q29 324 (vr 108),de P q30 407 (vr 167),de P q31 411 (vi 40 410),de P q32 433 (vr 172),de P q33 498 (vr 224)]) 30) E
def c0_12:=Obj.mk vn none (Data.fields (A [vi 1 0,vi 0 0,vr 20,vi 5 0,vi 0 0,vr 27,vi 7 0,vi 0 0,vr 40,vi 9 0,vi 0 0,vr 52,vi 13 0,vi 0 0,vr 71,vi 26 0,vi 0 0,vr 90,vi 28 0,vi 0 0,vr 95,vi 34 0,vi 0 0,vr 100,vi 44 0,vi 0 0,vr 107,vi 47 0,vi 0 0,vr 114,vi 114 0,vi 0 0,vr 178])) E
def m2 (x0 : Str) (x1 : Nat):=Obj.mk y0 none (Data.seq (A [vs x0 x1]) 0) E
def c0_17:=m2 q34 190
def m3 (x0 : Str) (x1 : Str) (x2 : Stmt):=Obj.mk vn none (Data.func (fk x0 x1 x2 0 [] vn vn vn vn none vn vn 0)) E
def c0_19:=m3 q13 q13 (B 0)
def m4 (x0 : Str) (x1 : Nat) (x2 : Str) (x3 : Nat) (x4 : Nat) (x5 : Int) (x6 : Int) (x7 : Nat) (x8 : Nat) (x9 : Nat) (x10 : Nat) (x11 : Nat) (x12 : Int) (x13 : Nat):=Obj.mk y1 none (Data.fields (A [vs x0 x1,vs x2 x3,vs q1 x4,vi x5 0,vi x6 0,vi 0 0,vi 0 0,vi 3 0,vr x7,vT,vi 181 0,vr x8,vn,vr x9,vr x10,vr x11,vi x12 0,vi x5 0,vs q1 x13])) E
def c0_20:=m4 q13 187 q13 188 189 1 1 15 16 17 18 19 191 192
def m5 (x0 : Str) (x1 : Str) (x2 : Stmt) (x3 : Str) (x4 : Nat) (x5 : Nat):=Obj.mk y5 none (Data.func (fk x0 x1 x2 3 [] vn vn vn (vs x3 x4) none (vr x5) vn 0)) E
def c0_21:=m5 q13 q13 (B 0) q2 164 20
def c0_22:=Obj.mk y0 none (Data.seq (A [y6]) 0) E
def c0_23:=Obj.mk y7 none (Data.fields (A [y8,y9])) E
def c0_24:=Obj.mk y3 none (Data.dict (A [de P q35 203 (vs q36 194),de P q37 205 (vs q14 204),de P q38 207 (vi 5 206),de P q39 208 (vr 29)]) 4) E
def c0_27:=m0 q14 198 199 200 5 25 26 201 202
def c0_28:=m1 27 24 q36 194
def c0_30:=Obj.mk y3 none (Data.dict (A [de P q35 203 (vs q36 194),de P q38 207 (vi 5 206),de P q39 208 (vr 29),de P q40 210 (vr 32),de P q5 211 vn]) 3) E
def c0_31:=Obj.mk y9 none (Data.cls (ClassData.mk q14 [y6] [vr 31,y6,y10,y11,y12] 30 q14 true [] [vr 44,vr 63,vr 82] false none false)) (A [sr 22,none,some (vs q14 196),some (vs q14 204),some y13,some vT])
def m6 (x0 : Nat) (x1 : Nat):=Obj.mk y14 none (Data.fields (A [vs q40 x0,vr x1,y15,vn])) E
def c0_32:=m6 209 31
def m7 (x0 : Nat):=Obj.mk y16 none (Data.fields (A [vr x0,vr x0,vr x0])) E
def c0_33:=m7 31
def m8 (x0 : Nat):=Obj.mk y7 none (Data.fields (A [y17,vr x0])) E
def c0_34:=m8 31
def m9 (x0 : Nat):=Obj.mk y0 none (Data.seq (A [vr x0]) 0) E
def c0_35:=m9 31
def c0_37:=Obj.mk y3 none (Data.dict (A [de P q35 221 (vs q36 194),de P q37 223 (vs q15 222),de P q38 225 (vi 7 224),de P q39 226 (vr 42)]) 4) E
def c0_40:=m0 q15 216 217 218 7 38 39 219 220
def c0_41:=m1 40 37 q36 194
def c0_43:=Obj.mk y3 none (Data.dict (A [de P q35 221 (vs q36 194),de P q38 225 (vi 7 224),de P q39 226 (vr 42),de P q5 227 vn]) 2) E
def c0_44:=Obj.mk y9 none (Data.cls (ClassData.mk q15 [vr 31] [vr 44,vr 31,y6,y10,y11,y12] 43 q15 true [] [] false none false)) (A [sr 35,none,some (vs q15 214),some (vs q15 222),some y13,some vT])
def c0_45:=m7 44
def c0_46:=m8 44
def c0_49:=Obj.mk y3 none (Data.dict (A [de P q35 237 (vs q36 194),de P q37 239 (vs q16 238),de P q38 241 (vi 9 240),de P q41 249 (vr 60),de P q39 251 (vr 61)]) 5) E
def c0_51:=Obj.mk vn none (Data.fields (A [vi 11 0,vi 4 0,vr 59])) E
def c0_52:=m0 q16 232 233 234 9 50 51 235 236
def c0_53:=m1 52 49 q36 194
def m10 (x0 : Str) (x1 : Nat) (x2 : Str) (x3 : Nat):=Obj.mk y0 none (Data.seq (A [vs x0 x1,vs x2 x3]) 0) E
def c0_56:=m10 q42 245 q43 246
def c0_58:=m3 q41 q44 (M 4 0)
def c0_59:=m4 q41 242 q44 243 244 11 2 54 55 56 57 58 247 248
def c0_60:=m5 q41 q44 (M 4 0) q36 194 59
def c0_61:=m2 q43 250
def c0_62:=Obj.mk y3 none (Data.dict (A [de P q35 237 (vs q36 194),de P q38 241 (vi 9 240),de P q41 249 (vr 60),de P q39 251 (vr 61),de P q5 252 vn]) 2) E
def c0_63:=Obj.mk y9 none (Data.cls (ClassData.mk q16 [vr 31] [vr 63,vr 31,y6,y10,y11,y12] 62 q16 true [] [] false none false)) (A [sr 47,none,some (vs q16 230),some (vs q16 238),some y13,some vT])
def c0_64:=m7 63
def c0_65:=m8 63
def c0_68:=Obj.mk y3 none (Data.dict (A [de P q35 262 (vs q36 194),de P q37 264 (vs q17 263),de P q38 266 (vi 13 265),de P q41 274 (vr 79),de P q39 276 (vr 80)]) 5) E
def c0_70:=Obj.mk vn none (Data.fields (A [vi 15 0,vi 4 0,vr 78])) E
def c0_71:=m0 q17 257 258 259 13 69 70 260 261
def c0_72:=m1 71 68 q36 194
def c0_75:=m10 q42 270 q43 271
def c0_77:=m3 q41 q45 (M 5 0)
def c0_78:=m4 q41 267 q45 268 269 15 2 73 74 75 76 77 272 273
def c0_79:=m5 q41 q45 (M 5 0) q36 194 78
def c0_80:=m2 q43 275
def c0_81:=Obj.mk y3 none (Data.dict (A [de P q35 262 (vs q36 194),de P q38 266 (vi 13 265),de P q41 274 (vr 79),de P q39 276 (vr 80),de P q5 277 vn]) 2) E
def c0_82:=Obj.mk y9 none (Data.cls (ClassData.mk q17 [vr 31] [vr 82,vr 31,y6,y10,y11,y12] 81 q17 true [] [] false none false)) (A [sr 66,none,some (vs q17 255),some (vs q17 263),some y13,some vT])
def c0_83:=m7 82
def c0_84:=m8 82
def c0_87:=m2 q46 301
def c0_89:=m3 q26 q26 (B 15)
def c0_90:=m4 q26 298 q26 299 300 26 1 85 86 87 88 89 302 303
def c0_91:=m5 q26 q26 (B 15) q47 280 90
def c0_94:=m3 q27 q27 (B 16)
def m11 (x0 : Str) (x1 : Nat) (x2 : Str) (x3 : Nat) (x4 : Nat) (x5 : Int) (x6 : Int) (x7 : Nat) (x8 : Nat) (x9 : Nat) (x10 : Int) (x11 : Nat):=Obj.mk y1 none (Data.fields (A [vs x0 x1,vs x2 x3,vs q1 x4,vi x5 0,vi x6 0,vi 0 0,vi 0 0,vi 3 0,vr x7,vT,vi 181 0,vr x8,vn,vn,vn,vr x9,vi x10 0,vi x5 0,vs q1 x11])) E
def c0_95:=m11 q27 305 q27 306 307 28 1 92 93 94 308 309
def c0_96:=m5 q27 q27 (B 16) q47 280 95
def c0_99:=m3 q28 q28 (B 17)
def c0_100:=m11 q28 311 q28 312 313 34 1 97 98 99 314 315
def c0_101:=m5 q28 q28 (B 17) q47 280 100
def c0_104:=m10 q48 320 q49 321
def c0_106:=m3 q29 q29 (B 18)
def c0_107:=m4 q29 317 q29 318 319 44 1 102 103 104 105 106 322 323
def c0_108:=m5 q29 q29 (B 18) q47 280 107
def c0_111:=Obj.mk y3 none (Data.dict (A [de P q35 332 (vs q47 280),de P q37 334 (vs q30 333),de P q38 336 (vi 47 335),de P q41 344 (vr 122),de P q50 352 (vr 129),de P q51 361 (vr 136),de P q52 370 (vr 143),de P q53 378 (vr 150),de P q54 387 (vr 157),de P q55 397 (vr 164),de P q39 400 (vr 165)]) 11) E
def c0_113:=Obj.mk vn none (Data.fields (A [vi 49 0,vi 4 0,vr 121,vi 53 0,vi 4 0,vr 128,vi 59 0,vi 4 0,vr 135,vi 69 0,vi 4 0,vr 142,vi 83 0,vi 4 0,vr 149,vi 89 0,vi 4 0,vr 156,vi 102 0,vi 4 0,vr 163])) E
def c0_114:=m0 q30 327 328 329 47 112 113 330 331
def c0_115:=m1 114 111 q47 280
def c0_118:=m10 q42 340 q56 341
def c0_120:=m3 q41 q57 (M 19 0)
def c0_121:=m4 q41 337 q57 338 339 49 2 116 117 118 119 120 342 343
def c0_122:=m5 q41 q57 (M 19 0) q47 280 121
def c0_125:=m10 q42 348 q48 349
def c0_127:=m3 q50 q58 (M 19 1)
def c0_128:=m4 q50 345 q58 346 347 53 2 123 124 125 126 127 350 351
def c0_129:=m5 q50 q58 (M 19 1) q47 280 128
def m12 (x0 : Str) (x1 : Nat) (x2 : Str) (x3 : Nat) (x4 : Str) (x5 : Nat):=Obj.mk y0 none (Data.seq (A [vs x0 x1,vs x2 x3,vs x4 x5]) 0) E
def c0_132:=m12 q42 356 q59 357 q49 358
def c0_134:=m3 q51 q60 (M 19 2)
def c0_135:=m4 q51 353 q60 354 355 59 2 130 131 132 133 134 359 360
def c0_136:=m5 q51 q60 (M 19 2) q47 280 135
def c0_139:=m12 q42 365 q59 366 q61 367
def c0_141:=m3 q52 q62 (M 19 3)
def c0_142:=m4 q52 362 q62 363 364 69 2 137 138 139 140 141 368 369
def c0_143:=m5 q52 q62 (M 19 3) q47 280 142
def c0_146:=m10 q42 374 q49 375
def c0_148:=m3 q53 q63 (M 19 4)
def c0_149:=m4 q53 371 q63 372 373 83 1 144 145 146 147 148 376 377
def c0_150:=m5 q53 q63 (M 19 4) q47 280 149
def c0_153:=m12 q42 382 q64 383 q65 384
def c0_155:=m3 q54 q66 (M 19 5)
def c0_156:=m4 q54 379 q66 380 381 89 1 151 152 153 154 155 385 386
def c0_157:=m5 q54 q66 (M 19 5) q47 280 156
def m13 (x0 : Str) (x1 : Nat) (x2 : Str) (x3 : Nat) (x4 : Str) (x5 : Nat) (x6 : Str) (x7 : Nat):=Obj.mk y0 none (Data.seq (A [vs x0 x1,vs x2 x3,vs x4 x5,vs x6 x7]) 0) E
def c0_160:=m13 q42 391 q67 392 q68 393 q69 394
def c0_162:=m3 q55 q70 (M 19 6)
def c0_163:=m4 q55 388 q70 389 390 102 2 158 159 160 161 162 395 396
def c0_164:=m5 q55 q70 (M 19 6) q47 280 163
def c0_165:=m10 q71 398 q56 399
def c0_166:=Obj.mk y3 none (Data.dict (A [de P q35 332 (vs q47 280),de P q38 336 (vi 47 335),de P q41 344 (vr 122),de P q50 352 (vr 129),de P q51 361 (vr 136),de P q52 370 (vr 143),de P q53 378 (vr 150),de P q54 387 (vr 157),de P q55 397 (vr 164),de P q39 400 (vr 165),de P q72 402 (vr 168),de P q40 404 (vr 169),de P q5 405 vn]) 4) E
def c0_167:=Obj.mk y9 none (Data.cls (ClassData.mk q30 [y12] [vr 167,y12] 166 q30 true [] [] false none false)) (A [none,none,some (vs q30 325),some (vs q30 333),some y18,some vT])
def m14 (x0 : Nat) (x1 : Nat):=Obj.mk y14 none (Data.fields (A [vs q72 x0,vr x1,y19,y20])) E
def c0_168:=m14 401 167
def c0_169:=m6 403 167
def c0_170:=m7 167
def c0_171:=m8 167
def c0_172:=Obj.mk y3 none (Data.dict (A [de P q73 412 (vs q74 413),de P q75 414 (vs q74 415),de P q76 416 (vs q77 417),de P q78 418 (vs q74 419),de P q79 420 (vs q80 421),de P q81 422 (vs q82 423),de P q83 424 (vs q82 425)]) 7) E
def c0_175:=Obj.mk y3 none (Data.dict (A [de P q35 441 (vs q4 408),de P q37 443 (vs q33 442),de P q38 445 (vi 114 444),de P q84 452 (vr 186),de P q85 459 (vr 193),de P q86 468 (vr 200),de P q87 476 (vr 207),de P q88 483 (vr 214),de P q89 490 (vr 221),de P q39 491 (vr 222)]) 10) E
def c0_177:=Obj.mk vn none (Data.fields (A [vi 116 0,vi 4 0,vr 185,vi 119 0,vi 4 0,vr 192,vi 122 0,vi 4 0,vr 199,vi 125 0,vi 4 0,vr 206,vi 128 0,vi 4 0,vr 213,vi 131 0,vi 4 0,vr 220])) E
def c0_178:=m0 q33 436 437 438 114 176 177 439 440
def c0_179:=m1 178 175 q4 408
def c0_182:=m2 q42 449
def c0_184:=m3 q84 q90 (M 23 0)
def c0_185:=m4 q84 446 q90 447 448 116 1 180 181 182 183 184 450 451
def c0_186:=m5 q84 q90 (M 23 0) q4 408 185
def c0_189:=m2 q42 456
def c0_191:=m3 q85 q91 (M 23 1)
def c0_192:=m4 q85 453 q91 454 455 119 1 187 188 189 190 191 457 458
def c0_193:=m5 q85 q91 (M 23 1) q4 408 192
def c0_196:=m12 q42 463 q92 464 q93 465
def c0_198:=m3 q86 q94 (M 23 2)
def c0_199:=m4 q86 460 q94 461 462 122 3 194 195 196 197 198 466 467
def c0_200:=m5 q86 q94 (M 23 2) q4 408 199
def c0_203:=m10 q42 472 q93 473
def c0_205:=m3 q87 q95 (M 23 3)
def c0_206:=m4 q87 469 q95 470 471 125 2 201 202 203 204 205 474 475
def c0_207:=m5 q87 q95 (M 23 3) q4 408 206
def c0_210:=m2 q42 480
def c0_212:=m3 q88 q96 (M 23 4)
def c0_213:=m4 q88 477 q96 478 479 128 1 208 209 210 211 212 481 482
def c0_214:=m5 q88 q96 (M 23 4) q4 408 213
def c0_217:=m2 q42 487
def c0_219:=m3 q89 q97 (M 23 5)
def c0_220:=m4 q89 484 q97 485 486 131 1 215 216 217 218 219 488 489
def c0_221:=m5 q89 q97 (M 23 5) q4 408 220
def c0_223:=Obj.mk y3 none (Data.dict (A [de P q35 441 (vs q4 408),de P q38 445 (vi 114 444),de P q84 452 (vr 186),de P q85 459 (vr 193),de P q86 468 (vr 200),de P q87 476 (vr 207),de P q88 483 (vr 214),de P q89 490 (vr 221),de P q39 491 (vr 222),de P q72 493 (vr 225),de P q40 495 (vr 226),de P q5 496 vn]) 4) E
def c0_224:=Obj.mk y9 none (Data.cls (ClassData.mk q33 [y12] [vr 224,y12] 223 q33 true [] [] false none false)) (A [none,none,some (vs q33 434),some (vs q33 442),some y18,some vT])
def c0_225:=m14 492 224
def c0_226:=m6 494 224
def c0_227:=m7 224
def c0_228:=m8 224
def tc0_:=nd (boot_o_0 P) (nd (boot_o_1 P) (nd (c0_3 P) (nd (boot_o_7 P) (nd a11 (nd c0_31 (nd c0_63 (l1 c0_127) (l1 c0_191)) (nd c0_95 (l1 a12) (l1 (c0_223 P)))) (nd c0_35 (nd c0_79 (l1 c0_143) (l1 c0_207)) (nd (c0_111 P) (l1 (c0_175 P)) .nil))) (nd c0_23 (nd a12 (nd c0_71 (l1 c0_135) (l1 c0_199)) (nd a12 (l1 c0_167) .nil)) (nd a12 (nd c0_87 (l1 a11) (l1 a11)) (nd a11 (l1 a11) .nil)))) (nd a11 (nd c0_19 (nd c0_35 (nd c0_23 (l1 a12) (l1 a12)) (nd c0_99 (l1 c0_163) (l1 c0_227))) (nd c0_51 (nd c0_83 (l1 a11) (l1 a11)) (nd c0_115 (l1 c0_179) .nil))) (nd c0_27 (nd (c0_43 P) (nd c0_75 (l1 c0_139) (l1 c0_203)) (nd c0_107 (l1 c0_171) .nil)) (nd c0_59 (nd c0_91 (l1 c0_155) (l1 c0_219)) (nd a11 (l1 a11) .nil))))) (nd (boot_o_5 P) (nd (boot_o_9 P) (nd c0_17 (nd c0_33 (nd c0_65 (l1 c0_129) (l1 c0_193)) (nd a11 (l1 a11) (l1 c0_225))) (nd (c0_49 P) (nd (c0_81 P) (l1 a12) (l1 a12)) (nd c0_113 (l1 c0_177) .nil))) (nd a11 (nd c0_41 (nd a11 (l1 a11) (l1 a11)) (nd a11 (l1 c0_169) .nil)) (nd a11 (nd c0_89 (l1 c0_153) (l1 c0_217)) (nd c0_121 (l1 c0_185) .nil)))) (nd a13 (nd c0_21 (nd (c0_37 P) (nd a11 (l1 a11) (l1 a11)) (nd c0_101 (l1 c0_165) .nil)) (nd c0_53 (nd a11 (l1 c0_149) (l1 c0_213)) (nd a12 (l1 a12) .nil))) (nd a11 (nd c0_45 (nd c0_77 (l1 c0_141) (l1 c0_205)) (nd a11 (l1 a11) .nil)) (nd c0_61 (nd a12 (l1 c0_157) (l1 c0_221)) (nd c0_125 (l1 c0_189) .nil)))))) (nd (boot_o_2 P) (nd (boot_o_4 P) (nd (boot_o_8 P) (nd a12 (nd c0_32 (nd c0_64 (l1 c0_128) (l1 c0_192)) (nd c0_96 (l1 c0_160) (l1 c0_224))) (nd c0_23 (nd c0_80 (l1 a11) (l1 a11)) (nd a11 (l1 a11) .nil))) (nd (c0_24 P) (nd c0_40 (nd c0_72 (l1 c0_136) (l1 c0_200)) (nd c0_104 (l1 c0_168) .nil)) (nd c0_56 (nd a11 (l1 a12) (l1 a12)) (nd c0_120 (l1 c0_184) .nil)))) (nd c0_12 (nd c0_20 (nd c0_23 (nd (c0_68 P) (l1 c0_132) (l1 c0_196)) (nd c0_100 (l1 c0_164) (l1 c0_228))) (nd c0_52 (nd c0_84 (l1 c0_148) (l1 c0_212)) (nd a11 (l1 a11) .nil))) (nd c0_28 (nd c0_44 (nd a11 (l1 a11) (l1 a11)) (nd c0_108 (l1 (c0_172 P)) .nil)) (nd c0_60 (nd a11 (l1 c0_156) (l1 c0_220)) (nd a12 (l1 a12) .nil))))) (nd (boot_o_6 P) (nd (boot_o_10 P) (nd a11 (nd c0_34 (nd c0_35 (l1 a11) (l1 a11)) (nd a12 (l1 c0_162) (l1 c0_226))) (nd a11 (nd c0_82 (l1 c0_146) (l1 c0_210)) (nd c0_114 (l1 c0_178) .nil))) (nd a12 (nd a11 (nd a12 (l1 a12) (l1 a12)) (nd c0_106 (l1 c0_170) .nil)) (nd c0_58 (nd c0_90 (l1 a11) (l1 a11)) (nd c0_122 (l1 c0_186) .nil)))) (nd a14 (nd c0_22 (nd a11 (nd c0_70 (l1 c0_134) (l1 c0_198)) (nd a11 (l1 (c0_166 P)) .nil)) (nd a11 (nd a12 (l1 c0_150) (l1 c0_214)) (nd c0_118 (l1 c0_182) .nil))) (nd (c0_30 P) (nd c0_46 (nd c0_78 (l1 c0_142) (l1 c0_206)) (nd c0_23 (l1 c0_23) .nil)) (nd (c0_62 P) (nd c0_94 (l1 a11) (l1 a11)) (nd a11 (l1 a11) .nil))))))
def c1_3:=Obj.mk y3 none (Data.dict (A [de P q3 165 (vs q4 408),de P q5 166 vn,de P q6 167 vn,de P q7 168 y4,de P q8 169 vn,de P q9 170 (vr 6),de P q10 171 (vr 4),de P q11 173 (vs q1 172),de P q12 174 vn,de P q13 193 (vr 21),de P q14 213 (vr 31),de P q15 229 (vr 44),de P q16 254 (vr 63),de P q17 279 (vr 82),de P q18 283 (vi 400 282),de P q19 285 (vi 2000 284),de P q20 287 (vi 2000 286),de P q21 289 (vi 8 288),de P q22 291 (vi 100000 290),de P q23 293 (vi 32 292),de P q24 295 (vi 37 294),de P q25 297 (vi 126 296),de P q26 304 (vr 91),de P q27 310 (vr 96),de P q28 316 (vr 101),de P q29 324 (vr 108),de P q30 407 (vr 167),de P q31 411 (vi 40 410),de P q32 433 (vr 172),de P q33 498 (vr 224),de P q98 532 (vr 252),de P q99 571 (vr 285),de P q100 610 (vr 318),de P q101 669 (vr 365),de P q102 715 (vr 405),de P q103 773 (vr 452)]) 36) E
def c1_12:=Obj.mk vn none (Data.fields (A [vi 1 0,vi 0 0,vr 20,vi 5 0,vi 0 0,vr 27,vi 7 0,vi 0 0,vr 40,vi 9 0,vi 0 0,vr 52,vi 13 0,vi 0 0,vr 71,vi 26 0,vi 0 0,vr 90,vi 28 0,vi 0 0,vr 95,vi 34 0,vi 0 0,vr 100,vi 44 0,vi 0 0,vr 107,vi 47 0,vi 0 0,vr 114,vi 114 0,vi 0 0,vr 178,vi 133 0,vi 0 0,vr 234,vi 141 0,vi 0 0,vr 260,vi 151 0,vi 0 0,vr 293,vi 161 0,vi 0 0,vr 326,vi 179 0,vi 0 0,vr 373,vi 192 0,vi 0 0,vr 413])) E
def c1_224:=Obj.mk y9 none (Data.cls (ClassData.mk q33 [y12] [vr 224,y12] 223 q33 true [] [vr 252,vr 365] false none false)) (A [none,none,some (vs q33 434),some (vs q33 442),some y18,some vT])
def c1_229:=m9 224
def c1_231:=Obj.mk y3 none (Data.dict (A [de P q35 506 (vs q4 408),de P q37 508 (vs q98 507),de P q38 510 (vi 133 509),de P q41 519 (vr 242),de P q84 526 (vr 249),de P q39 529 (vr 250)]) 6) E
def c1_233:=Obj.mk vn none (Data.fields (A [vi 135 0,vi 4 0,vr 241,vi 139 0,vi 4 0,vr 248])) E
def c1_234:=m0 q98 501 502 503 133 232 233 504 505
def c1_235:=m1 234 231 q4 408
def c1_238:=m12 q42 514 q104 515 q105 516
def c1_240:=m3 q41 q106 (M 24 0)
def c1_241:=m4 q41 511 q106 512 513 135 3 236 237 238 239 240 517 518
def c1_242:=m5 q41 q106 (M 24 0) q4 408 241
def c1_245:=m2 q42 523
def c1_247:=m3 q84 q107 (M 24 1)
def c1_248:=m4 q84 520 q107 521 522 139 1 243 244 245 246 247 524 525
def c1_249:=m5 q84 q107 (M 24 1) q4 408 248
def c1_250:=m10 q105 527 q104 528
def c1_251:=Obj.mk y3 none (Data.dict (A [de P q35 506 (vs q4 408),de P q38 510 (vi 133 509),de P q41 519 (vr 242),de P q84 526 (vr 249),de P q39 529 (vr 250),de P q5 530 vn]) 2) E
def c1_252:=Obj.mk y9 none (Data.cls (ClassData.mk q98 [vr 224] [vr 252,vr 224,y12] 251 q98 true [] [vr 285,vr 318,vr 405,vr 452] false none false)) (A [sr 229,none,some (vs q98 499),some (vs q98 507),some y18,some vT])
def c1_253:=m7 252
def c1_254:=m8 252
def c1_255:=m9 252
def m15 (x0 : Nat) (x1 : Nat) (x2 : Str) (x3 : Nat) (x4 : Nat) (x5 : Int) (x6 : Nat) (x7 : Str) (x8 : Nat) (x9 : Nat) (x10 : Nat) (x11 : Nat) (x12 : Nat) (x13 : Nat) (x14 : Nat) (x15 : Nat):=Obj.mk y3 none (Data.dict (A [de P q35 x0 (vs q4 408),de P q37 x1 (vs x2 x3),de P q38 x4 (vi x5 x6),de P x7 x8 (vr x9),de P q86 x10 (vr x11),de P q89 x12 (vr x13),de P q39 x14 (vr x15)]) 7) E
def c1_257:=m15 P 540 542 q99 541 544 141 543 q85 551 268 560 275 567 282 568 283
def m16 (x0 : Int) (x1 : Nat) (x2 : Int) (x3 : Nat) (x4 : Int) (x5 : Nat):=Obj.mk vn none (Data.fields (A [vi x0 0,vi 4 0,vr x1,vi x2 0,vi 4 0,vr x3,vi x4 0,vi 4 0,vr x5])) E
def c1_259:=m16 143 267 146 274 149 281
def c1_260:=m0 q99 535 536 537 141 258 259 538 539
def c1_261:=m1 260 257 q4 408
def c1_264:=m2 q42 548
def c1_266:=m3 q85 q108 (M 25 0)
def c1_267:=m4 q85 545 q108 546 547 143 1 262 263 264 265 266 549 550
def c1_268:=m5 q85 q108 (M 25 0) q4 408 267
def c1_271:=m12 q42 555 q92 556 q93 557
def c1_273:=m3 q86 q109 (M 25 1)
def c1_274:=m4 q86 552 q109 553 554 146 3 269 270 271 272 273 558 559
def c1_275:=m5 q86 q109 (M 25 1) q4 408 274
def c1_278:=m2 q42 564
def c1_280:=m3 q89 q110 (M 25 2)
def c1_281:=m4 q89 561 q110 562 563 149 1 276 277 278 279 280 565 566
def c1_282:=m5 q89 q110 (M 25 2) q4 408 281
def m17 (x0 : Nat) (x1 : Nat) (x2 : Int) (x3 : Nat) (x4 : Str) (x5 : Nat) (x6 : Nat) (x7 : Nat) (x8 : Nat) (x9 : Nat) (x10 : Nat) (x11 : Nat) (x12 : Nat) (x13 : Nat):=Obj.mk y3 none (Data.dict (A [de P q35 x0 (vs q4 408),de P q38 x1 (vi x2 x3),de P x4 x5 (vr x6),de P q86 x7 (vr x8),de P q89 x9 (vr x10),de P q39 x11 (vr x12),de P q5 x13 vn]) 2) E
def c1_284:=m17 P 540 544 141 543 q85 551 268 560 275 567 282 568 283 569
def c1_285:=Obj.mk y9 none (Data.cls (ClassData.mk q99 [vr 252] [vr 285,vr 252,vr 224,y12] 284 q99 true [] [] false none false)) (A [sr 255,none,some (vs q99 533),some (vs q99 541),some y18,some vT])
def c1_286:=m7 285
def c1_287:=m8 285
def c1_290:=m15 P 579 581 q100 580 583 151 582 q85 590 301 599 308 606 315 607 316
def c1_292:=m16 153 300 156 307 159 314
def c1_293:=m0 q100 574 575 576 151 291 292 577 578
def c1_294:=m1 293 290 q4 408
def c1_297:=m2 q42 587
def c1_299:=m3 q85 q111 (M 26 0)
def c1_300:=m4 q85 584 q111 585 586 153 1 295 296 297 298 299 588 589
def c1_301:=m5 q85 q111 (M 26 0) q4 408 300
def c1_304:=m12 q42 594 q92 595 q93 596
def c1_306:=m3 q86 q112 (M 26 1)
def c1_307:=m4 q86 591 q112 592 593 156 3 302 303 304 305 306 597 598
def c1_308:=m5 q86 q112 (M 26 1) q4 408 307
def c1_311:=m2 q42 603
def c1_313:=m3 q89 q113 (M 26 2)
def c1_314:=m4 q89 600 q113 601 602 159 1 309 310 311 312 313 604 605
def c1_315:=m5 q89 q113 (M 26 2) q4 408 314
def c1_317:=m17 P 579 583 151 582 q85 590 301 599 308 606 315 607 316 608
def c1_318:=Obj.mk y9 none (Data.cls (ClassData.mk q100 [vr 252] [vr 318,vr 252,vr 224,y12] 317 q100 true [] [] false none false)) (A [sr 288,none,some (vs q100 572),some (vs q100 580),some y18,some vT])
def c1_319:=m7 318
def c1_320:=m8 318
def c1_323:=Obj.mk y3 none (Data.dict (A [de P q35 618 (vs q4 408),de P q37 620 (vs q101 619),de P q38 622 (vi 161 621),de P q41 632 (vr 334),de P q84 639 (vr 341),de P q85 646 (vr 348),de P q86 655 (vr 355),de P q89 662 (vr 362),de P q39 666 (vr 363)]) 9) E
def c1_325:=Obj.mk vn none (Data.fields (A [vi 163 0,vi 4 0,vr 333,vi 168 0,vi 4 0,vr 340,vi 171 0,vi 4 0,vr 347,vi 174 0,vi 4 0,vr 354,vi 177 0,vi 4 0,vr 361])) E
def c1_326:=m0 q101 613 614 615 161 324 325 616 617
def c1_327:=m1 326 323 q4 408
def c1_330:=m13 q42 626 q104 627 q114 628 q115 629
def c1_332:=m3 q41 q116 (M 27 0)
def c1_333:=m4 q41 623 q116 624 625 163 4 328 329 330 331 332 630 631
def c1_334:=m5 q41 q116 (M 27 0) q4 408 333
def c1_337:=m2 q42 636
def c1_339:=m3 q84 q117 (M 27 1)
def c1_340:=m4 q84 633 q117 634 635 168 1 335 336 337 338 339 637 638
def c1_341:=m5 q84 q117 (M 27 1) q4 408 340
def c1_344:=m2 q42 643
def c1_346:=m3 q85 q118 (M 27 2)
def c1_347:=m4 q85 640 q118 641 642 171 1 342 343 344 345 346 644 645
def c1_348:=m5 q85 q118 (M 27 2) q4 408 347
def c1_351:=m12 q42 650 q92 651 q93 652
def c1_353:=m3 q86 q119 (M 27 3)
def c1_354:=m4 q86 647 q119 648 649 174 3 349 350 351 352 353 653 654
def c1_355:=m5 q86 q119 (M 27 3) q4 408 354
def c1_358:=m2 q42 659
def c1_360:=m3 q89 q120 (M 27 4)
def c1_361:=m4 q89 656 q120 657 658 177 1 356 357 358 359 360 660 661
def c1_362:=m5 q89 q120 (M 27 4) q4 408 361
def c1_363:=m12 q115 663 q114 664 q104 665
def c1_364:=Obj.mk y3 none (Data.dict (A [de P q35 618 (vs q4 408),de P q38 622 (vi 161 621),de P q41 632 (vr 334),de P q84 639 (vr 341),de P q85 646 (vr 348),de P q86 655 (vr 355),de P q89 662 (vr 362),de P q39 666 (vr 363),de P q5 667 vn]) 2) E
def c1_365:=Obj.mk y9 none (Data.cls (ClassData.mk q101 [vr 224] [vr 365,vr 224,y12] 364 q101 true [] [] false none false)) (A [sr 321,none,some (vs q101 611),some (vs q101 619),some y18,some vT])
def c1_366:=m7 365
def c1_367:=m8 365
def c1_370:=Obj.mk y3 none (Data.dict (A [de P q35 677 (vs q4 408),de P q37 679 (vs q102 678),de P q38 681 (vi 179 680),de P q85 688 (vr 381),de P q86 697 (vr 388),de P q88 704 (vr 395),de P q89 711 (vr 402),de P q39 712 (vr 403)]) 8) E
def c1_372:=Obj.mk vn none (Data.fields (A [vi 181 0,vi 4 0,vr 380,vi 184 0,vi 4 0,vr 387,vi 187 0,vi 4 0,vr 394,vi 190 0,vi 4 0,vr 401])) E
def c1_373:=m0 q102 672 673 674 179 371 372 675 676
def c1_374:=m1 373 370 q4 408
def c1_377:=m2 q42 685
def c1_379:=m3 q85 q121 (M 28 0)
def c1_380:=m4 q85 682 q121 683 684 181 1 375 376 377 378 379 686 687
def c1_381:=m5 q85 q121 (M 28 0) q4 408 380
def c1_384:=m12 q42 692 q92 693 q93 694
def c1_386:=m3 q86 q122 (M 28 1)
def c1_387:=m4 q86 689 q122 690 691 184 3 382 383 384 385 386 695 696
def c1_388:=m5 q86 q122 (M 28 1) q4 408 387
def c1_391:=m2 q42 701
def c1_393:=m3 q88 q123 (M 28 2)
def c1_394:=m4 q88 698 q123 699 700 187 1 389 390 391 392 393 702 703
def c1_395:=m5 q88 q123 (M 28 2) q4 408 394
def c1_398:=m2 q42 708
def c1_400:=m3 q89 q124 (M 28 3)
def c1_401:=m4 q89 705 q124 706 707 190 1 396 397 398 399 400 709 710
def c1_402:=m5 q89 q124 (M 28 3) q4 408 401
def c1_404:=Obj.mk y3 none (Data.dict (A [de P q35 677 (vs q4 408),de P q38 681 (vi 179 680),de P q85 688 (vr 381),de P q86 697 (vr 388),de P q88 704 (vr 395),de P q89 711 (vr 402),de P q39 712 (vr 403),de P q5 713 vn]) 2) E
def c1_405:=Obj.mk y9 none (Data.cls (ClassData.mk q102 [vr 252] [vr 405,vr 252,vr 224,y12] 404 q102 true [] [] false none false)) (A [sr 368,none,some (vs q102 670),some (vs q102 678),some y18,some vT])
def c1_406:=m7 405
def c1_407:=m8 405
def c1_410:=Obj.mk y3 none (Data.dict (A [de P q35 723 (vs q4 408),de P q37 725 (vs q103 724),de P q38 727 (vi 192 726),de P q41 737 (vr 421),de P q85 744 (vr 428),de P q86 753 (vr 435),de P q87 761 (vr 442),de P q89 768 (vr 449),de P q39 770 (vr 450)]) 9) E
def c1_412:=Obj.mk vn none (Data.fields (A [vi 194 0,vi 4 0,vr 420,vi 198 0,vi 4 0,vr 427,vi 201 0,vi 4 0,vr 434,vi 204 0,vi 4 0,vr 441,vi 207 0,vi 4 0,vr 448])) E
def c1_413:=m0 q103 718 719 720 192 411 412 721 722
def c1_414:=m1 413 410 q4 408
def c1_417:=m13 q42 731 q104 732 q105 733 q125 734
def c1_419:=m3 q41 q126 (M 29 0)
def c1_420:=m4 q41 728 q126 729 730 194 4 415 416 417 418 419 735 736
def c1_421:=m5 q41 q126 (M 29 0) q4 408 420
def c1_424:=m2 q42 741
def c1_426:=m3 q85 q127 (M 29 1)
def c1_427:=m4 q85 738 q127 739 740 198 1 422 423 424 425 426 742 743
def c1_428:=m5 q85 q127 (M 29 1) q4 408 427
def c1_431:=m12 q42 748 q92 749 q93 750
def c1_433:=m3 q86 q128 (M 29 2)
def c1_434:=m4 q86 745 q128 746 747 201 3 429 430 431 432 433 751 752
def c1_435:=m5 q86 q128 (M 29 2) q4 408 434
def c1_438:=m10 q42 757 q93 758
def c1_440:=m3 q87 q129 (M 29 3)
def c1_441:=m4 q87 754 q129 755 756 204 2 436 437 438 439 440 759 760
def c1_442:=m5 q87 q129 (M 29 3) q4 408 441
def c1_445:=m2 q42 765
def c1_447:=m3 q89 q130 (M 29 4)
def c1_448:=m4 q89 762 q130 763 764 207 1 443 444 445 446 447 766 767
def c1_449:=m5 q89 q130 (M 29 4) q4 408 448
def c1_450:=m2 q125 769
def c1_451:=Obj.mk y3 none (Data.dict (A [de P q35 723 (vs q4 408),de P q38 727 (vi 192 726),de P q41 737 (vr 421),de P q85 744 (vr 428),de P q86 753 (vr 435),de P q87 761 (vr 442),de P q89 768 (vr 449),de P q39 770 (vr 450),de P q5 771 vn]) 2) E
def c1_452:=Obj.mk y9 none (Data.cls (ClassData.mk q103 [vr 252] [vr 452,vr 252,vr 224,y12] 451 q103 true [] [] false none false)) (A [sr 408,none,some (vs q103 716),some (vs q103 724),some y18,some vT])
def c1_453:=m7 452
def c1_454:=m8 452
def tc1_:=nd (boot_o_0 P) (nd (boot_o_1 P) (nd (c1_3 P) (nd (boot_o_7 P) (nd a11 (nd c0_31 (nd c0_63 (nd c0_127 (l1 c1_255) (l1 a12)) (nd c0_191 (l1 c1_319) (l1 c1_447))) (nd c0_95 (nd a12 (l1 c1_287) (l1 a11)) (nd (c0_223 P) (l1 c1_351) .nil))) (nd c0_35 (nd c0_79 (nd c0_143 (l1 c1_271) (l1 a11)) (nd c0_207 (l1 a11) .nil)) (nd (c0_111 P) (nd (c0_175 P) (l1 a12) (l1 c1_431)) (nd a11 (l1 c1_367) .nil)))) (nd c0_23 (nd a12 (nd c0_71 (nd c0_135 (l1 a12) (l1 c1_391)) (nd c0_199 (l1 c1_327) .nil)) (nd a12 (nd c0_167 (l1 a11) (l1 a12)) (nd (c1_231 P) (l1 a11) .nil))) (nd a12 (nd c0_87 (nd a11 (l1 a11) (l1 c1_407)) (nd a11 (l1 a12) .nil)) (nd a11 (nd a11 (l1 c1_311) (l1 a11)) (nd c1_247 (l1 a11) .nil))))) (nd a11 (nd c0_19 (nd c0_35 (nd c0_23 (nd a12 (l1 c1_259) (l1 c1_387)) (nd a12 (l1 (c1_323 P)) (l1 (c1_451 P)))) (nd c0_99 (nd c0_163 (l1 a11) (l1 c1_419)) (nd c0_227 (l1 c1_355) .nil))) (nd c0_51 (nd c0_83 (nd a11 (l1 c1_275) (l1 a11)) (nd a11 (l1 c1_339) .nil)) (nd c0_115 (nd c0_179 (l1 c1_307) (l1 c1_435)) (nd a11 (l1 a11) .nil)))) (nd c0_27 (nd (c0_43 P) (nd c0_75 (nd c0_139 (l1 c1_267) (l1 c1_395)) (nd c0_203 (l1 a11) .nil)) (nd c0_107 (nd c0_171 (l1 c1_299) (l1 c1_427)) (nd c1_235 (l1 c1_363) .nil))) (nd c0_59 (nd c0_91 (nd c0_155 (l1 a11) (l1 a11)) (nd c0_219 (l1 c1_347) .nil)) (nd a11 (nd a11 (l1 c1_315) (l1 a11)) (nd (c1_251 P) (l1 c1_379) .nil)))))) (nd (boot_o_5 P) (nd (boot_o_9 P) (nd c0_17 (nd c0_33 (nd c0_65 (nd c0_129 (l1 (c1_257 P)) (l1 a11)) (nd c0_193 (l1 c1_229) (l1 c1_449))) (nd a11 (nd a11 (l1 c0_23) (l1 c1_417)) (nd c0_225 (l1 c1_353) .nil))) (nd (c0_49 P) (nd (c0_81 P) (nd a12 (l1 c1_273) (l1 c1_401)) (nd a12 (l1 c1_337) .nil)) (nd c0_113 (nd c0_177 (l1 a11) (l1 c1_433)) (nd c1_241 (l1 c0_23) .nil)))) (nd a11 (nd c0_41 (nd a11 (nd a11 (l1 a11) (l1 c1_393)) (nd a11 (l1 a12) .nil)) (nd a11 (nd c0_169 (l1 c1_297) (l1 a11)) (nd c1_233 (l1 c1_361) .nil))) (nd a11 (nd c0_89 (nd c0_153 (l1 c1_281) (l1 c0_23)) (nd c0_217 (l1 a11) .nil)) (nd c0_121 (nd c0_185 (l1 c1_313) (l1 c1_441)) (nd c1_249 (l1 c1_377) .nil))))) (nd a13 (nd c0_21 (nd (c0_37 P) (nd a11 (nd a11 (l1 c1_261) (l1 a11)) (nd a11 (l1 c1_325) (l1 c1_453))) (nd c0_101 (nd c0_165 (l1 c1_293) (l1 c1_421)) (nd c1_229 (l1 a12) .nil))) (nd c0_53 (nd a11 (nd c0_149 (l1 a12) (l1 c1_405)) (nd c0_213 (l1 c1_341) .nil)) (nd a12 (nd a12 (l1 a11) (l1 a12)) (nd c1_245 (l1 c1_373) .nil)))) (nd a11 (nd c0_45 (nd c0_77 (nd c0_141 (l1 a11) (l1 a12)) (nd c0_205 (l1 c1_333) .nil)) (nd a11 (nd a11 (l1 c1_301) (l1 a11)) (nd a12 (l1 c1_365) .nil))) (nd c0_61 (nd a12 (nd c0_157 (l1 c1_285) (l1 c1_413)) (nd c0_221 (l1 a11) .nil)) (nd c0_125 (nd c0_189 (l1 (c1_317 P)) (l1 c1_445)) (nd c1_253 (l1 c1_381) .nil))))))) (nd (boot_o_2 P) (nd (boot_o_4 P) (nd (boot_o_8 P) (nd a12 (nd c0_32 (nd c0_64 (nd c0_128 (l1 c0_23) (l1 c1_384)) (nd c0_192 (l1 c1_320) (l1 c1_448))) (nd c0_96 (nd c0_160 (l1 c1_255) (l1 a12)) (nd c1_224 (l1 a11) .nil))) (nd c0_23 (nd c0_80 (nd a11 (l1 a11) (l1 c1_400)) (nd a11 (l1 a12) .nil)) (nd a11 (nd a11 (l1 c1_304) (l1 a11)) (nd c1_240 (l1 c1_255) .nil)))) (nd (c0_24 P) (nd c0_40 (nd c0_72 (nd c0_136 (l1 c1_264) (l1 a11)) (nd c0_200 (l1 a11) .nil)) (nd c0_104 (nd c0_168 (l1 a12) (l1 c1_424)) (nd a11 (l1 c1_360) .nil))) (nd c0_56 (nd a11 (nd a12 (l1 c1_280) (l1 c1_255)) (nd a12 (l1 c1_344) .nil)) (nd c0_120 (nd c0_184 (l1 a11) (l1 c1_440)) (nd c1_248 (l1 a12) .nil))))) (nd c1_12 (nd c0_20 (nd c0_23 (nd (c0_68 P) (nd c0_132 (l1 c1_260) (l1 c1_388)) (nd c0_196 (l1 a11) (l1 c1_452))) (nd c0_100 (nd c0_164 (l1 c1_292) (l1 c1_420)) (nd c0_228 (l1 a11) .nil))) (nd c0_52 (nd c0_84 (nd c0_148 (l1 a11) (l1 (c1_404 P))) (nd c0_212 (l1 c1_340) .nil)) (nd a11 (nd a11 (l1 c1_308) (l1 a11)) (nd a12 (l1 c1_372) .nil)))) (nd c0_28 (nd c0_44 (nd a11 (nd a11 (l1 c1_268) (l1 a11)) (nd a11 (l1 c1_332) .nil)) (nd c0_108 (nd (c0_172 P) (l1 c1_300) (l1 c1_428)) (nd a11 (l1 (c1_364 P)) .nil))) (nd c0_60 (nd a11 (nd c0_156 (l1 (c1_284 P)) (l1 c1_412)) (nd c0_220 (l1 c1_348) .nil)) (nd a12 (nd a12 (l1 a11) (l1 a12)) (nd c1_252 (l1 c1_380) .nil)))))) (nd (boot_o_6 P) (nd (boot_o_10 P) (nd a11 (nd c0_34 (nd c0_35 (nd a11 (l1 a11) (l1 c1_386)) (nd a11 (l1 c0_23) (l1 c1_450))) (nd a12 (nd c0_162 (l1 (c1_290 P)) (l1 a11)) (nd c0_226 (l1 c1_354) .nil))) (nd a11 (nd c0_82 (nd c0_146 (l1 c1_274) (l1 c1_402)) (nd c0_210 (l1 a11) .nil)) (nd c0_114 (nd c0_178 (l1 c1_306) (l1 c1_434)) (nd c1_242 (l1 (c1_370 P)) .nil)))) (nd a12 (nd a11 (nd a12 (nd a12 (l1 c1_266) (l1 c1_394)) (nd a12 (l1 c1_330) .nil)) (nd c0_106 (nd c0_170 (l1 a11) (l1 c1_426)) (nd c1_234 (l1 c1_362) .nil))) (nd c0_58 (nd c0_90 (nd a11 (l1 c1_282) (l1 (c1_410 P))) (nd a11 (l1 c1_346) .nil)) (nd c0_122 (nd c0_186 (l1 c1_314) (l1 c1_442)) (nd c1_250 (l1 a11) .nil))))) (nd a14 (nd c0_22 (nd a11 (nd c0_70 (nd c0_134 (l1 a11) (l1 a12)) (nd c0_198 (l1 c1_326) (l1 c1_454))) (nd a11 (nd (c0_166 P) (l1 c1_294) (l1 a11)) (nd c0_23 (l1 c1_358) .nil))) (nd a11 (nd a12 (nd c0_150 (l1 c1_278) (l1 c1_406)) (nd c0_214 (l1 a11) .nil)) (nd c0_118 (nd c0_182 (l1 a12) (l1 c1_438)) (nd a11 (l1 c1_374) .nil)))) (nd (c0_30 P) (nd c0_46 (nd c0_78 (nd c0_142 (l1 a12) (l1 c1_398)) (nd c0_206 (l1 c1_334) .nil)) (nd c0_23 (nd c0_23 (l1 a11) (l1 a12)) (nd c1_238 (l1 c1_366) .nil))) (nd (c0_62 P) (nd c0_94 (nd a11 (l1 c1_286) (l1 c1_414)) (nd a11 (l1 a12) .nil)) (nd a11 (nd a11 (l1 c1_318) (l1 a11)) (nd c1_254 (l1 a11) .nil)))))))
def c2_3:=Obj.mk y3 none (Data.dict (A [de P q3 165 (vs q131 953),de P q5 166 vn,de P q6 167 vn,de P q7 168 y4,de P q8 169 vn,de P q9 170 (vr 6),de P q10 171 (vr 4),de P q11 173 (vs q1 172),de P q12 174 vn,de P q13 193 (vr 21),de P q14 213 (vr 31),de P q15 229 (vr 44),de P q16 254 (vr 63),de P q17 279 (vr 82),de P q18 283 (vi 400 282),de P q19 285 (vi 2000 284),de P q20 287 (vi 2000 286),de P q21 289 (vi 8 288),de P q22 291 (vi 100000 290),de P q23 293 (vi 32 292),de P q24 295 (vi 37 294),de P q25 297 (vi 126 296),de P q26 304 (vr 91),de P q27 310 (vr 96),de P q28 316 (vr 101),de P q29 324 (vr 108),de P q30 407 (vr 167),de P q31 411 (vi 40 410),de P q32 433 (vr 172),de P q33 498 (vr 224),de P q98 532 (vr 252),de P q99 571 (vr 285),de P q100 610 (vr 318),de P q101 669 (vr 365),de P q102 715 (vr 405),de P q103 773 (vr 452),de P q132 814 (vr 485),de P q133 855 (vr 518),de P q134 861 (vr 525),de P q135 867 (vr 530),de P q54 876 (vr 537),de P q136 884 (vr 544),de P q137 893 (vr 551),de P q138 898 (vr 552),de P q139 900 (vi 12 899),de P q140 938 (vr 574),de P q141 944 (vr 583),de P q142 952 (vr 590),de P q143 962 (vr 597),de P q144 969 (vr 604),de P q145 978 (vr 611),de P q146 988 (vr 618),de P q147 996 (vr 625),de P q148 1007 (vr 632),de P q149 1013 (vr 637),de P q150 1020 (vr 644),de P q151 1030 (vr 651),de P q152 1040 (vr 658),de P q153 1050 (vr 665),de P q154 1062 (vr 672),de P q155 1070 (vr 679),de P q156 1080 (vr 686),de P q157 1089 (vr 693),de P q158 1095 (vr 698)]) 64) E
def c2_12:=Obj.mk vn none (Data.fields (A [vi 1 0,vi 0 0,vr 20,vi 5 0,vi 0 0,vr 27,vi 7 0,vi 0 0,vr 40,vi 9 0,vi 0 0,vr 52,vi 13 0,vi 0 0,vr 71,vi 26 0,vi 0 0,vr 90,vi 28 0,vi 0 0,vr 95,vi 34 0,vi 0 0,vr 100,vi 44 0,vi 0 0,vr 107,vi 47 0,vi 0 0,vr 114,vi 114 0,vi 0 0,vr 178,vi 133 0,vi 0 0,vr 234,vi 141 0,vi 0 0,vr 260,vi 151 0,vi 0 0,vr 293,vi 161 0,vi 0 0,vr 326,vi 179 0,vi 0 0,vr 373,vi 192 0,vi 0 0,vr 413,vi 209 0,vi 0 0,vr 460,vi 219 0,vi 0 0,vr 493,vi 229 0,vi 0 0,vr 524,vi 231 0,vi 0 0,vr 529,vi 237 0,vi 0 0,vr 536,vi 247 0,vi 0 0,vr 543,vi 261 0,vi 0 0,vr 550,vi 268 0,vi 0 0,vr 558,vi 277 0,vi 0 0,vr 582,vi 285 0,vi 0 0,vr 589,vi 291 0,vi 0 0,vr 596,vi 295 0,vi 0 0,vr 603,vi 297 0,vi 0 0,vr 610,vi 300 0,vi 0 0,vr 617,vi 311 0,vi 0 0,vr 624,vi 315 0,vi 0 0,vr 631,vi 327 0,vi 0 0,vr 636,vi 329 0,vi 0 0,vr 643,vi 333 0,vi 0 0,vr 650,vi 343 0,vi 0 0,vr 657,vi 353 0,vi 0 0,vr 664,vi 362 0,vi 0 0,vr 671,vi 371 0,vi 0 0,vr 678,vi 375 0,vi 0 0,vr 685,vi 382 0,vi 0 0,vr 692,vi 388 0,vi 0 0,vr 697])) E
def c2_224:=Obj.mk y9 none (Data.cls (ClassData.mk q33 [y12] [vr 224,y12] 223 q33 true [] [vr 252,vr 365,vr 485,vr 518] false none false)) (A [none,none,some (vs q33 434),some (vs q33 442),some y18,some vT])
def c2_457:=m15 P 781 783 q132 782 785 209 784 q41 793 468 802 475 809 482 811 483
def c2_459:=m16 211 467 214 474 217 481
def c2_460:=m0 q132 776 777 778 209 458 459 779 780
def c2_461:=m1 460 457 q4 408
def c2_464:=m10 q42 789 q125 790
def c2_466:=m3 q41 q159 (M 30 0)
def c2_467:=m4 q41 786 q159 787 788 211 2 462 463 464 465 466 791 792
def c2_468:=m5 q41 q159 (M 30 0) q4 408 467
def c2_471:=m12 q42 797 q92 798 q93 799
def c2_473:=m3 q86 q160 (M 30 1)
def c2_474:=m4 q86 794 q160 795 796 214 3 469 470 471 472 473 800 801
def c2_475:=m5 q86 q160 (M 30 1) q4 408 474
def c2_478:=m2 q42 806
def c2_480:=m3 q89 q161 (M 30 2)
def c2_481:=m4 q89 803 q161 804 805 217 1 476 477 478 479 480 807 808
def c2_482:=m5 q89 q161 (M 30 2) q4 408 481
def c2_483:=m2 q125 810
def c2_484:=m17 P 781 785 209 784 q41 793 468 802 475 809 482 811 483 812
def c2_485:=Obj.mk y9 none (Data.cls (ClassData.mk q132 [vr 224] [vr 485,vr 224,y12] 484 q132 true [] [] false none false)) (A [sr 455,none,some (vs q132 774),some (vs q132 782),some y18,some vT])
def c2_486:=m7 485
def c2_487:=m8 485
def c2_490:=m15 P 822 824 q133 823 826 219 825 q41 834 501 843 508 850 515 852 516
def c2_492:=m16 221 500 224 507 227 514
def c2_493:=m0 q133 817 818 819 219 491 492 820 821
def c2_494:=m1 493 490 q4 408
def c2_497:=m10 q42 830 q125 831
def c2_499:=m3 q41 q162 (M 31 0)
def c2_500:=m4 q41 827 q162 828 829 221 2 495 496 497 498 499 832 833
def c2_501:=m5 q41 q162 (M 31 0) q4 408 500
def c2_504:=m12 q42 838 q92 839 q93 840
def c2_506:=m3 q86 q163 (M 31 1)
def c2_507:=m4 q86 835 q163 836 837 224 3 502 503 504 505 506 841 842
def c2_508:=m5 q86 q163 (M 31 1) q4 408 507
def c2_511:=m2 q42 847
def c2_513:=m3 q89 q164 (M 31 2)
def c2_514:=m4 q89 844 q164 845 846 227 1 509 510 511 512 513 848 849
def c2_515:=m5 q89 q164 (M 31 2) q4 408 514
def c2_516:=m2 q125 851
def c2_517:=m17 P 822 826 219 825 q41 834 501 843 508 850 515 852 516 853
def c2_518:=Obj.mk y9 none (Data.cls (ClassData.mk q133 [vr 224] [vr 518,vr 224,y12] 517 q133 true [] [] false none false)) (A [sr 488,none,some (vs q133 815),some (vs q133 823),some y18,some vT])
def c2_519:=m7 518
def c2_520:=m8 518
def c2_523:=m3 q134 q134 (B 32)
def c2_524:=m11 q134 856 q134 857 858 229 2 521 522 523 859 860
def c2_525:=m5 q134 q134 (B 32) q4 408 524
def c2_528:=m3 q135 q135 (B 33)
def c2_529:=m11 q135 862 q135 863 864 231 1 526 527 528 865 866
def c2_530:=m5 q135 q135 (B 33) q4 408 529
def c2_533:=m12 q165 871 q166 872 q49 873
def c2_535:=m3 q54 q54 (B 34)
def c2_536:=m4 q54 868 q54 869 870 237 2 531 532 533 534 535 874 875
def c2_537:=m5 q54 q54 (B 34) q4 408 536
def c2_540:=m10 q165 880 q167 881
def c2_542:=m3 q136 q136 (B 35)
def c2_543:=m4 q136 877 q136 878 879 247 2 538 539 540 541 542 882 883
def c2_544:=m5 q136 q136 (B 35) q4 408 543
def c2_547:=m12 q104 888 q114 889 q115 890
def c2_549:=m3 q137 q137 (B 36)
def c2_550:=m4 q137 885 q137 886 887 261 3 545 546 547 548 549 891 892
def c2_551:=m5 q137 q137 (B 36) q4 408 550
def c2_552:=m10 q168 896 q169 897
def c2_555:=Obj.mk y3 none (Data.dict (A [de P q35 908 (vs q170 894),de P q37 910 (vs q140 909),de P q38 912 (vi 268 911),de P q41 921 (vr 566),de P q89 927 (vr 571),de P q39 931 (vr 572)]) 6) E
def c2_557:=Obj.mk vn none (Data.fields (A [vi 270 0,vi 4 0,vr 565,vi 275 0,vi 4 0,vr 570])) E
def c2_558:=m0 q140 903 904 905 268 556 557 906 907
def c2_559:=m1 558 555 q170 894
def c2_562:=m12 q42 916 q171 917 q172 918
def c2_564:=m3 q41 q173 (M 40 0)
def c2_565:=m4 q41 913 q173 914 915 270 3 560 561 562 563 564 919 920
def c2_566:=m5 q41 q173 (M 40 0) q170 894 565
def c2_569:=m3 q89 q174 (M 40 1)
def c2_570:=m11 q89 922 q174 923 924 275 1 567 568 569 925 926
def c2_571:=m5 q89 q174 (M 40 1) q170 894 570
def c2_572:=m12 q171 928 q61 929 q172 930
def c2_573:=Obj.mk y3 none (Data.dict (A [de P q35 908 (vs q170 894),de P q38 912 (vi 268 911),de P q41 921 (vr 566),de P q89 927 (vr 571),de P q39 931 (vr 572),de P q72 933 (vr 575),de P q40 935 (vr 576),de P q5 936 vn]) 4) E
def c2_574:=Obj.mk y9 none (Data.cls (ClassData.mk q140 [y12] [vr 574,y12] 573 q140 true [] [] false none false)) (A [none,none,some (vs q140 901),some (vs q140 909),some y18,some vT])
def c2_575:=m14 932 574
def c2_576:=m6 934 574
def c2_577:=m7 574
def c2_578:=m8 574
def c2_581:=m3 q141 q141 (B 41)
def c2_582:=m11 q141 939 q141 940 941 277 1 579 580 581 942 943
def c2_583:=m5 q141 q141 (B 41) q170 894 582
def c2_586:=m10 q56 948 q49 949
def c2_588:=m3 q142 q142 (B 42)
def c2_589:=m4 q142 945 q142 946 947 285 2 584 585 586 587 588 950 951
def c2_590:=m5 q142 q142 (B 42) q170 894 589
def c2_593:=m10 q175 958 q176 959
def c2_595:=m3 q143 q143 (B 44)
def c2_596:=m4 q143 955 q143 956 957 291 2 591 592 593 594 595 960 961
def c2_597:=m5 q143 q143 (B 44) q131 953 596
def c2_600:=m2 q177 966
def c2_602:=m3 q144 q144 (B 45)
def c2_603:=m4 q144 963 q144 964 965 295 1 598 599 600 601 602 967 968
def c2_604:=m5 q144 q144 (B 45) q131 953 603
def c2_607:=m12 q178 973 q176 974 q179 975
def c2_609:=m3 q145 q145 (B 46)
def c2_610:=m4 q145 970 q145 971 972 297 2 605 606 607 608 609 976 977
def c2_611:=m5 q145 q145 (B 46) q131 953 610
def c2_614:=m13 q178 982 q176 983 q179 984 q180 985
def c2_616:=m3 q146 q146 (B 47)
def c2_617:=m4 q146 979 q146 980 981 300 2 612 613 614 615 616 986 987
def c2_618:=m5 q146 q146 (B 47) q131 953 617
def c2_621:=m10 q178 992 q176 993
def c2_623:=m3 q147 q147 (B 48)
def c2_624:=m4 q147 989 q147 990 991 311 2 619 620 621 622 623 994 995
def c2_625:=m5 q147 q147 (B 48) q131 953 624
def c2_628:=Obj.mk y0 none (Data.seq (A [vs q178 1000,vs q181 1001,vs q182 1002,vs q183 1003,vs q184 1004]) 0) E
def c2_630:=m3 q148 q148 (B 49)
def c2_631:=m4 q148 997 q148 998 999 315 1 626 627 628 629 630 1005 1006
def c2_632:=m5 q148 q148 (B 49) q131 953 631
def c2_635:=m3 q149 q149 (B 50)
def c2_636:=m11 q149 1008 q149 1009 1010 327 1 633 634 635 1011 1012
def c2_637:=m5 q149 q149 (B 50) q131 953 636
def c2_640:=m2 q185 1017
def c2_642:=m3 q150 q150 (B 51)
def c2_643:=m4 q150 1014 q150 1015 1016 329 0 638 639 640 641 642 1018 1019
def c2_644:=m5 q150 q150 (B 51) q131 953 643
def c2_647:=m13 q186 1024 q178 1025 q187 1026 q188 1027
def c2_649:=m3 q151 q151 (B 52)
def c2_650:=m4 q151 1021 q151 1022 1023 333 2 645 646 647 648 649 1028 1029
def c2_651:=m5 q151 q151 (B 52) q131 953 650
def c2_654:=m13 q181 1034 q189 1035 q190 1036 q187 1037
def c2_656:=m3 q152 q152 (B 53)
def c2_657:=m4 q152 1031 q152 1032 1033 343 2 652 653 654 655 656 1038 1039
def c2_658:=m5 q152 q152 (B 53) q131 953 657
def c2_661:=m13 q186 1044 q191 1045 q192 1046 q176 1047
def c2_663:=m3 q153 q153 (B 54)
def c2_664:=m4 q153 1041 q153 1042 1043 353 1 659 660 661 662 663 1048 1049
def c2_665:=m5 q153 q153 (B 54) q131 953 664
def c2_668:=Obj.mk y0 none (Data.seq (A [vs q186 1054,vs q193 1055,vs q194 1056,vs q195 1057,vs q196 1058,vs q176 1059]) 0) E
def c2_670:=m3 q154 q154 (B 55)
def c2_671:=m4 q154 1051 q154 1052 1053 362 1 666 667 668 669 670 1060 1061
def c2_672:=m5 q154 q154 (B 55) q131 953 671
def c2_675:=m10 q197 1066 q198 1067
def c2_677:=m3 q155 q155 (B 56)
def c2_678:=m4 q155 1063 q155 1064 1065 371 2 673 674 675 676 677 1068 1069
def c2_679:=m5 q155 q155 (B 56) q131 953 678
def c2_682:=m13 q186 1074 q198 1075 q177 1076 q197 1077
def c2_684:=m3 q156 q156 (B 57)
def c2_685:=m4 q156 1071 q156 1072 1073 375 1 680 681 682 683 684 1078 1079
def c2_686:=m5 q156 q156 (B 57) q131 953 685
def c2_689:=m12 q186 1084 q177 1085 q197 1086
def c2_691:=m3 q157 q157 (B 58)
def c2_692:=m4 q157 1081 q157 1082 1083 382 1 687 688 689 690 691 1087 1088
def c2_693:=m5 q157 q157 (B 58) q131 953 692
def c2_696:=m3 q158 q158 (B 59)
def c2_697:=m11 q158 1090 q158 1091 1092 388 1 694 695 696 1093 1094
def c2_698:=m5 q158 q158 (B 59) q131 953 697
def u1:=nd (boot_o_0 P) (nd (boot_o_1 P) (nd (c2_3 P) (nd (boot_o_7 P) (nd a11 (nd c0_31 (nd c0_63 (nd c0_127 (nd c1_255 (l1 c2_511) .nil) (nd a12 (l1 a12) .nil)) (nd c0_191 (nd c1_319 (l1 c2_575) .nil) (l1 c1_447))) (nd c0_95 (nd a12 (nd c1_287 (l1 c2_543) .nil) (nd a11 (l1 c2_671) .nil)) (nd (c0_223 P) (nd c1_351 (l1 c2_607) .nil) (l1 a11)))) (nd c0_35 (nd c0_79 (nd c0_143 (nd c1_271 (l1 a12) .nil) (nd a11 (l1 a11) .nil)) (nd c0_207 (nd a11 (l1 a11) .nil) (l1 a12))) (nd (c0_111 P) (nd (c0_175 P) (nd a12 (l1 c2_559) .nil) (nd c1_431 (l1 a11) .nil)) (nd a11 (nd c1_367 (l1 c2_623) .nil) (l1 a11))))) (nd c0_23 (nd a12 (nd c0_71 (nd c0_135 (nd a12 (l1 c2_519) .nil) (nd c1_391 (l1 c2_647) .nil)) (nd c0_199 (nd c1_327 (l1 c2_583) .nil) (l1 c1_229))) (nd a12 (nd c0_167 (nd a11 (l1 c2_551) .nil) (nd a12 (l1 c2_679) .nil)) (nd (c1_231 P) (nd a11 (l1 a11) .nil) (l1 c2_487)))) (nd a12 (nd c0_87 (nd a11 (nd a11 (l1 c2_535) .nil) (nd c1_407 (l1 c2_663) .nil)) (nd a11 (nd a12 (l1 a12) .nil) (l1 c2_471))) (nd a11 (nd a11 (nd c1_311 (l1 a11) .nil) (nd a11 (l1 a12) .nil)) (nd c1_247 (nd a11 (l1 c2_631) .nil) (l1 a12)))))) (nd a11 (nd c0_19 (nd c0_35 (nd c0_23 (nd a12 (nd c1_259 (l1 c2_515) .nil) (nd c1_387 (l1 c2_643) .nil)) (nd a12 (nd (c1_323 P) (l1 a11) .nil) (l1 (c1_451 P)))) (nd c0_99 (nd c0_163 (nd a11 (l1 c2_547) .nil) (nd c1_419 (l1 c2_675) .nil)) (nd c0_227 (nd c1_355 (l1 c2_611) .nil) (l1 c2_483)))) (nd c0_51 (nd c0_83 (nd a11 (nd c1_275 (l1 a11) .nil) (nd a11 (l1 a11) .nil)) (nd a11 (nd c1_339 (l1 c2_595) .nil) (l1 c2_467))) (nd c0_115 (nd c0_179 (nd c1_307 (l1 a11) .nil) (nd c1_435 (l1 c2_691) .nil)) (nd a11 (nd a11 (l1 a12) .nil) (l1 c2_499))))) (nd c0_27 (nd (c0_43 P) (nd c0_75 (nd c0_139 (nd c1_267 (l1 c2_523) .nil) (nd c1_395 (l1 c2_651) .nil)) (nd c0_203 (nd a11 (l1 a11) .nil) (l1 c2_459))) (nd c0_107 (nd c0_171 (nd c1_299 (l1 (c2_555 P)) .nil) (nd c1_427 (l1 a11) .nil)) (nd c1_235 (nd c1_363 (l1 a11) .nil) (l1 a11)))) (nd c0_59 (nd c0_91 (nd c0_155 (nd a11 (l1 a12) .nil) (nd a11 (l1 a12) .nil)) (nd c0_219 (nd c1_347 (l1 c2_603) .nil) (l1 c2_475))) (nd a11 (nd a11 (nd c1_315 (l1 c2_571) .nil) (l1 a11)) (nd (c1_251 P) (nd c1_379 (l1 c2_635) .nil) (l1 c2_507))))))) (nd (boot_o_5 P) (nd (boot_o_9 P) (nd c0_17 (nd c0_33 (nd c0_65 (nd c0_129 (nd (c1_257 P) (l1 c2_513) .nil) (nd a11 (l1 a11) .nil)) (nd c0_193 (nd c1_229 (l1 c2_577) .nil) (l1 c1_449))) (nd a11 (nd a11 (nd c0_23 (l1 a11) .nil) (nd c1_417 (l1 a11) .nil)) (nd c0_225 (nd c1_353 (l1 c2_609) .nil) (l1 c2_481)))) (nd (c0_49 P) (nd (c0_81 P) (nd a12 (nd c1_273 (l1 c2_529) .nil) (nd c1_401 (l1 c2_657) .nil)) (nd a12 (nd c1_337 (l1 c2_593) .nil) (l1 a11))) (nd c0_113 (nd c0_177 (nd a11 (l1 a12) .nil) (nd c1_433 (l1 c2_689) .nil)) (nd c1_241 (nd c0_23 (l1 c2_625) .nil) (l1 c2_497))))) (nd a11 (nd c0_41 (nd a11 (nd a11 (nd a11 (l1 a11) .nil) (nd c1_393 (l1 c2_649) .nil)) (nd a11 (nd a12 (l1 a12) .nil) (l1 (c2_457 P)))) (nd a11 (nd c0_169 (nd c1_297 (l1 a11) .nil) (nd a11 (l1 a12) .nil)) (nd c1_233 (nd c1_361 (l1 c2_617) .nil) (l1 c0_23)))) (nd a11 (nd c0_89 (nd c0_153 (nd c1_281 (l1 c2_537) .nil) (nd c0_23 (l1 c2_665) .nil)) (nd c0_217 (nd a11 (l1 a11) .nil) (l1 c2_473))) (nd c0_121 (nd c0_185 (nd c1_313 (l1 c2_569) .nil) (nd c1_441 (l1 c2_697) .nil)) (nd c1_249 (nd c1_377 (l1 a11) .nil) (l1 a11)))))) (nd a13 (nd c0_21 (nd (c0_37 P) (nd a11 (nd a11 (nd c1_261 (l1 (c2_517 P)) .nil) (nd a11 (l1 a11) .nil)) (nd a11 (nd c1_325 (l1 c2_581) .nil) (l1 c1_453))) (nd c0_101 (nd c0_165 (nd c1_293 (l1 c2_549) .nil) (nd c1_421 (l1 c2_677) .nil)) (nd c1_229 (nd a12 (l1 a12) .nil) (l1 c2_485)))) (nd c0_53 (nd a11 (nd c0_149 (nd a12 (l1 c2_533) .nil) (nd c1_405 (l1 c2_661) .nil)) (nd c0_213 (nd c1_341 (l1 c2_597) .nil) (l1 a11))) (nd a12 (nd a12 (nd a11 (l1 c2_565) .nil) (nd a12 (l1 c2_693) .nil)) (nd c1_245 (nd c1_373 (l1 a11) .nil) (l1 c2_501))))) (nd a11 (nd c0_45 (nd c0_77 (nd c0_141 (nd a11 (l1 c2_525) .nil) (nd a12 (l1 a12) .nil)) (nd c0_205 (nd c1_333 (l1 c2_589) .nil) (l1 c2_461))) (nd a11 (nd a11 (nd c1_301 (l1 c2_557) .nil) (nd a11 (l1 c2_685) .nil)) (nd a12 (nd c1_365 (l1 c2_621) .nil) (l1 c2_493)))) (nd c0_61 (nd a12 (nd c0_157 (nd c1_285 (l1 a11) .nil) (nd c1_413 (l1 a11) .nil)) (nd c0_221 (nd a11 (l1 a11) .nil) (l1 a12))) (nd c0_125 (nd c0_189 (nd (c1_317 P) (l1 (c2_573 P)) .nil) (l1 c1_445)) (nd c1_253 (nd c1_381 (l1 c2_637) .nil) (l1 a11)))))))) (nd (boot_o_2 P) (nd (boot_o_4 P) (nd (boot_o_8 P) (nd a12 (nd c0_32 (nd c0_64 (nd c0_128 (nd c0_23 (l1 a11) .nil) (nd c1_384 (l1 c2_640) .nil)) (nd c0_192 (nd c1_320 (l1 c2_576) .nil) (l1 c1_448))) (nd c0_96 (nd c0_160 (nd c1_255 (l1 c2_544) .nil) (nd a12 (l1 c2_672) .nil)) (nd c2_224 (nd a11 (l1 a11) .nil) (l1 c2_480)))) (nd c0_23 (nd c0_80 (nd a11 (nd a11 (l1 c2_528) .nil) (nd c1_400 (l1 c2_656) .nil)) (nd a11 (nd a12 (l1 a12) .nil) (l1 c2_464))) (nd a11 (nd a11 (nd c1_304 (l1 a11) .nil) (nd a11 (l1 a12) .nil)) (nd c1_240 (nd c1_255 (l1 c2_624) .nil) (l1 a12))))) (nd (c0_24 P) (nd c0_40 (nd c0_72 (nd c0_136 (nd c1_264 (l1 c2_520) .nil) (nd a11 (l1 a11) .nil)) (nd c0_200 (nd a11 (l1 a11) .nil) (l1 c0_23))) (nd c0_104 (nd c0_168 (nd a12 (l1 c2_552) .nil) (nd c1_424 (l1 a11) .nil)) (nd a11 (nd c1_360 (l1 c2_616) .nil) (l1 c1_229)))) (nd c0_56 (nd a11 (nd a12 (nd c1_280 (l1 c2_536) .nil) (nd c1_255 (l1 c2_664) .nil)) (nd a12 (nd c1_344 (l1 c2_600) .nil) (l1 a11))) (nd c0_120 (nd c0_184 (nd a11 (l1 a12) .nil) (nd c1_440 (l1 c2_696) .nil)) (nd c1_248 (nd a12 (l1 c2_632) .nil) (l1 c2_504)))))) (nd c2_12 (nd c0_20 (nd c0_23 (nd (c0_68 P) (nd c0_132 (nd c1_260 (l1 c2_516) .nil) (nd c1_388 (l1 c2_644) .nil)) (nd c0_196 (nd a11 (l1 a12) .nil) (l1 c1_452))) (nd c0_100 (nd c0_164 (nd c1_292 (l1 a11) .nil) (nd c1_420 (l1 a11) .nil)) (nd c0_228 (nd a11 (l1 a11) .nil) (l1 (c2_484 P))))) (nd c0_52 (nd c0_84 (nd c0_148 (nd a11 (l1 a12) .nil) (nd (c1_404 P) (l1 a12) .nil)) (nd c0_212 (nd c1_340 (l1 c2_596) .nil) (l1 c2_468))) (nd a11 (nd a11 (nd c1_308 (l1 c2_564) .nil) (nd a11 (l1 c2_692) .nil)) (nd a12 (nd c1_372 (l1 c2_628) .nil) (l1 c2_500))))) (nd c0_28 (nd c0_44 (nd a11 (nd a11 (nd c1_268 (l1 c2_524) .nil) (nd a11 (l1 a11) .nil)) (nd a11 (nd c1_332 (l1 c2_588) .nil) (l1 c2_460))) (nd c0_108 (nd (c0_172 P) (nd c1_300 (l1 a11) .nil) (nd c1_428 (l1 c2_684) .nil)) (nd a11 (nd (c1_364 P) (l1 a12) .nil) (l1 c2_492)))) (nd c0_60 (nd a11 (nd c0_156 (nd (c1_284 P) (l1 c2_540) .nil) (nd c1_412 (l1 c2_668) .nil)) (nd c0_220 (nd c1_348 (l1 c2_604) .nil) (l1 a11))) (nd a12 (nd a12 (nd a11 (l1 c2_572) .nil) (l1 a12)) (nd c1_252 (nd c1_380 (l1 c2_636) .nil) (l1 c2_508))))))) (nd (boot_o_6 P) (nd (boot_o_10 P) (nd a11 (nd c0_34 (nd c0_35 (nd a11 (nd a11 (l1 c2_514) .nil) (nd c1_386 (l1 c2_642) .nil)) (nd a11 (nd c0_23 (l1 c2_578) .nil) (l1 c1_450))) (nd a12 (nd c0_162 (nd (c1_290 P) (l1 a12) .nil) (nd a11 (l1 a12) .nil)) (nd c0_226 (nd c1_354 (l1 c2_610) .nil) (l1 c2_482)))) (nd a11 (nd c0_82 (nd c0_146 (nd c1_274 (l1 c2_530) .nil) (nd c1_402 (l1 c2_658) .nil)) (nd c0_210 (nd a11 (l1 a11) .nil) (l1 c2_466))) (nd c0_114 (nd c0_178 (nd c1_306 (l1 c2_562) .nil) (nd c1_434 (l1 a11) .nil)) (nd c1_242 (nd (c1_370 P) (l1 a11) .nil) (l1 a11))))) (nd a12 (nd a11 (nd a12 (nd a12 (nd c1_266 (l1 a12) .nil) (nd c1_394 (l1 c2_650) .nil)) (nd a12 (nd c1_330 (l1 c2_586) .nil) (l1 a11))) (nd c0_106 (nd c0_170 (nd a11 (l1 c0_23) .nil) (nd c1_426 (l1 c2_682) .nil)) (nd c1_234 (nd c1_362 (l1 c2_618) .nil) (l1 (c2_490 P))))) (nd c0_58 (nd c0_90 (nd a11 (nd c1_282 (l1 a11) .nil) (nd (c1_410 P) (l1 a11) .nil)) (nd a11 (nd c1_346 (l1 c2_602) .nil) (l1 c2_474))) (nd c0_122 (nd c0_186 (nd c1_314 (l1 c2_570) .nil) (nd c1_442 (l1 c2_698) .nil)) (nd c1_250 (nd a11 (l1 a12) .nil) (l1 c2_506)))))) (nd a14 (nd c0_22 (nd a11 (nd c0_70 (nd c0_134 (nd a11 (l1 c2_518) .nil) (nd a12 (l1 a12) .nil)) (nd c0_198 (nd c1_326 (l1 c2_582) .nil) (l1 c1_454))) (nd a11 (nd (c0_166 P) (nd c1_294 (l1 c2_550) .nil) (nd a11 (l1 c2_678) .nil)) (nd c0_23 (nd c1_358 (l1 c2_614) .nil) (l1 c2_486)))) (nd a11 (nd a12 (nd c0_150 (nd c1_278 (l1 a11) .nil) (nd c1_406 (l1 a11) .nil)) (nd c0_214 (nd a11 (l1 a11) .nil) (l1 a12))) (nd c0_118 (nd c0_182 (nd a12 (l1 c2_566) .nil) (nd c1_438 (l1 a11) .nil)) (nd a11 (nd c1_374 (l1 c2_630) .nil) (l1 a11))))) (nd (c0_30 P) (nd c0_46 (nd c0_78 (nd c0_142 (nd a12 (l1 a11) .nil) (nd c1_398 (l1 c2_654) .nil)) (nd c0_206 (nd c1_334 (l1 c2_590) .nil) (l1 a11))) (nd c0_23 (nd c0_23 (nd a11 (l1 c2_558) .nil) (nd a12 (l1 c2_686) .nil)) (nd c1_238 (nd c1_366 (l1 a11) .nil) (l1 c2_494)))) (nd (c0_62 P) (nd c0_94 (nd a11 (nd c1_286 (l1 c2_542) .nil) (nd c1_414 (l1 c2_670) .nil)) (nd a11 (nd a12 (l1 a12) .nil) (l1 c2_478))) (nd a11 (nd a11 (nd c1_318 (l1 c2_574) .nil) (l1 a11)) (nd c1_254 (nd a11 (l1 a11) .nil) (l1 a12))))))))
def tc2_:=u1 P
def tz:=u1 P
end
noncomputable def sa (w : World) (os : OsState) : SharedT := SharedT.mk (ta w.params) 15 (@Life.mk [] [] [] 0 [] [] false E [] 0 false false false 0 [2000, 10, 10] false 0 true [] [] 0 false) E (@Drawn.mk 0 0 0 0) 187 os
noncomputable def sb (w : World) (os : OsState) : SharedT := SharedT.mk (tb w.params) 15 (@Life.mk [] [] [] 0 [] [] false E [] 0 false false false 0 [2000, 10, 10] false 0 true [] [] 0 false) E (@Drawn.mk 0 0 0 0) 187 os
noncomputable def sc0_ (w : World) (os : OsState) : SharedT := SharedT.mk (tc0_ w.params) 229 (@Life.mk [] [] [] 0 [] [] false E [] 0 false false false 0 [2000, 10, 10] false 0 true [] [] 0 false) E (@Drawn.mk 0 0 0 0) 499 os
noncomputable def sc1_ (w : World) (os : OsState) : SharedT := SharedT.mk (tc1_ w.params) 455 (@Life.mk [] [] [] 0 [] [] false E [] 0 false false false 0 [2000, 10, 10] false 0 true [] [] 0 false) E (@Drawn.mk 0 0 0 0) 774 os
noncomputable def sc2_ (w : World) (os : OsState) : SharedT := SharedT.mk (tc2_ w.params) 699 (@Life.mk [] [] [] 0 [] [] false E [] 0 false false false 0 [2000, 10, 10] false 0 true [] [] 0 false) E (@Drawn.mk 0 0 0 0) 1096 os
noncomputable abbrev e0 : Env := { scope := p0.main.scope, locals := mainNs, globals := mainNs, cells := [], code := (vr 13), frame := some 14 }
noncomputable abbrev en : Env := { scope := pq.main.scope, locals := mainNs, globals := mainNs, cells := [], code := (vr 13), frame := some 14 }
theorem bs : behindTheImports p0 = ((p0.main.body.drop 0).take 24 ++ ((p0.main.body.drop 24).take 6 ++ ((p0.main.body.drop 30).take 30 ++ []))) := by kernel_rfl
theorem pre_l (w : World) (os : OsState) : topGo treeTable p0 w 11 (sr 6) 12 ⟨boot_heap w.params, Array.mk [], boot_drawn, boot_toks, os⟩ (topStub p0) = some ((sa w os).abs, ⟨denote treeTable (Code.body (behindTheImports p0) e0), Code.body (behindTheImports p0) e0, (@Pos.mk 0 0 0 0), [topFrame (@Pos.mk 0 0 0 0)]⟩) := by
  rw [PySem.W.Fast.te15667345088766844465, PySem.W.Fast.te14364793385576792824, PySem.W.Fast.te11892475500146522536, pe]
  kernel_rfl
theorem blk_l (w : World) (os : OsState) : segRun treeTable p0 w 11 (sr 6) 1 1 (sa w os).abs (blockOf (behindTheImports p0) e0 (Code.body (behindTheImports p0) e0) (@Pos.mk 0 0 0 0) [topFrame (@Pos.mk 0 0 0 0)]) = some (Flow.next, (sb w os).abs, Code.body (behindTheImports p0) e0, (@Pos.mk 0 0 0 0)) := by
  refine segRun_of ?_
  rw [PySem.W.Fast.te10110043849684766642, PySem.W.Fast.te14364793385576792824, pe]
  kernel_rfl
theorem g0 (p : Program) (b : List Stmt) : ∀ w : World, (fun os => PySem.W.Fast.tw10110043849684766642 PySem.W.Fast.tw14364793385576792824 p w 11 (sr 6) 1 2051 (sb w os) (piecesOf ((pq.main.body.drop 0).take 24) en (Code.body b en) (@Pos.mk 0 0 0 0) [topFrame (@Pos.mk 0 0 0 0)])) = (fun os => some (Flow.next, sc0_ w os, Code.body b en, (@Pos.mk 114 0 132 63))) := byRow2 "special-get-raises" (P := fun w => (fun os => PySem.W.Fast.tw10110043849684766642 PySem.W.Fast.tw14364793385576792824 p w 11 (sr 6) 1 2051 (sb w os) (piecesOf ((pq.main.body.drop 0).take 24) en (Code.body b en) (@Pos.mk 0 0 0 0) [topFrame (@Pos.mk 0 0 0 0)])) = (fun os => some (Flow.next, sc0_ w os, Code.body b en, (@Pos.mk 114 0 132 63)))) (fun w => by kernel_rfl) (fun w => by kernel_rfl)
theorem h0 (b : List Stmt) (w : World) (os : OsState) : segRun treeTable p0 w 11 (sr 6) 1 2051 (sb w os).abs (piecesOf ((p0.main.body.drop 0).take 24) e0 (Code.body b e0) (@Pos.mk 0 0 0 0) [topFrame (@Pos.mk 0 0 0 0)]) = some (Flow.next, (sc0_ w os).abs, Code.body b e0, (@Pos.mk 114 0 132 63)) := by
  refine segRun_of ?_
  rw [PySem.W.Fast.te10110043849684766642, PySem.W.Fast.te14364793385576792824, pe]
  exact congrFun (g0 pq b w) os
theorem g1 (p : Program) (b : List Stmt) : ∀ w : World, (fun os => PySem.W.Fast.tw10110043849684766642 PySem.W.Fast.tw14364793385576792824 p w 11 (sr 6) 1 2036 (sc0_ w os) (piecesOf ((pq.main.body.drop 24).take 6) en (Code.body b en) (@Pos.mk 114 0 132 63) [topFrame (@Pos.mk 0 0 0 0)])) = (fun os => some (Flow.next, sc1_ w os, Code.body b en, (@Pos.mk 192 0 208 65))) := fun w => by kernel_rfl
theorem h1 (b : List Stmt) (w : World) (os : OsState) : segRun treeTable p0 w 11 (sr 6) 1 2036 (sc0_ w os).abs (piecesOf ((p0.main.body.drop 24).take 6) e0 (Code.body b e0) (@Pos.mk 114 0 132 63) [topFrame (@Pos.mk 0 0 0 0)]) = some (Flow.next, (sc1_ w os).abs, Code.body b e0, (@Pos.mk 192 0 208 65)) := by
  refine segRun_of ?_
  rw [PySem.W.Fast.te10110043849684766642, PySem.W.Fast.te14364793385576792824, pe]
  exact congrFun (g1 pq b w) os
theorem g2 (p : Program) (b : List Stmt) : ∀ w : World, (fun os => PySem.W.Fast.tw10110043849684766642 PySem.W.Fast.tw14364793385576792824 p w 11 (sr 6) 1 1600 (sc1_ w os) (piecesOf ((pq.main.body.drop 30).take 30) en (Code.body b en) (@Pos.mk 192 0 208 65) [topFrame (@Pos.mk 0 0 0 0)])) = (fun os => some (Flow.next, sc2_ w os, Code.body b en, (@Pos.mk 388 0 405 39))) := fun w => by kernel_rfl
theorem h2 (b : List Stmt) (w : World) (os : OsState) : segRun treeTable p0 w 11 (sr 6) 1 1600 (sc1_ w os).abs (piecesOf ((p0.main.body.drop 30).take 30) e0 (Code.body b e0) (@Pos.mk 192 0 208 65) [topFrame (@Pos.mk 0 0 0 0)]) = some (Flow.next, (sc2_ w os).abs, Code.body b e0, (@Pos.mk 388 0 405 39)) := by
  refine segRun_of ?_
  rw [PySem.W.Fast.te10110043849684766642, PySem.W.Fast.te14364793385576792824, pe]
  exact congrFun (g2 pq b w) os
noncomputable abbrev H1 : Params → Heap := fun P => absHeap (tz P) 699 (@Life.mk [] [] [] 0 [] [] false E [] 0 false false false 0 [2000, 10, 10] false 0 true [] [] 0 false)
theorem fin_l (b : List Stmt) (w : World) (os : OsState) : topRun treeTable p0 w 11 (sr 6) 2 (sc2_ w os).abs ⟨doneF .next, Code.body b e0, (@Pos.mk 388 0 405 39), [topFrame (@Pos.mk 0 0 0 0)]⟩ = some ⟨H1 w.params, Array.mk [], (@Drawn.mk 0 0 0 0), 1096, os⟩ := by
  rw [PySem.W.Fast.te14082659384304107361, PySem.W.Fast.te14364793385576792824, pe]
  kernel_rfl
theorem run_l (w : World) (os : OsState) : topRun treeTable p0 w 11 (sr 6) (12 + (1 + (2051 + (2036 + (1600 + 2))))) ⟨boot_heap w.params, Array.mk [], boot_drawn, boot_toks, os⟩ (topStub p0) = some ⟨H1 w.params, Array.mk [], (@Drawn.mk 0 0 0 0), 1096, os⟩ := by
  refine go_top (pre_l w os) (piece_block (blk_l w os) ?k)
  rw [bs]
  exact piece_app (h0 _ w os) (piece_app (h1 _ w os) (piece_app (h2 _ w os) (piece_nil (fin_l _ w os))))
abbrev kF (a b : String) (s : Stmt) (m : String) (n v : Nat) : Params → Obj := fun P => (Obj.mk (@Value.type "function") none (Data.func (fk (@Str.ofString a) (@Str.ofString b) s 3 [] vn vn vn (@Value.str (@Str.ofString m) n) none (vr v) vn 0)) E)
abbrev k21:=kF "_wall" "_wall" (T 0) "__main__" 164 20
abbrev k60:=kF "__init__" "NoText.__init__" (N 4 0) "pactroom.errors" 194 59
abbrev k79:=kF "__init__" "NoPlace.__init__" (N 5 0) "pactroom.errors" 194 78
abbrev k91:=kF "is_whole" "is_whole" (T 15) "pactroom.things" 280 90
abbrev k96:=kF "shown" "shown" (T 16) "pactroom.things" 280 95
abbrev k101:=kF "read_thing" "read_thing" (T 17) "pactroom.things" 280 100
abbrev k108:=kF "is_sign" "is_sign" (T 18) "pactroom.things" 280 107
abbrev k122:=kF "__init__" "Reader.__init__" (N 19 0) "pactroom.things" 280 121
abbrev k129:=kF "passes" "Reader.passes" (N 19 1) "pactroom.things" 280 128
abbrev k136:=kF "read_any" "Reader.read_any" (N 19 2) "pactroom.things" 280 135
abbrev k143:=kF "read_parts" "Reader.read_parts" (N 19 3) "pactroom.things" 280 142
abbrev k150:=kF "read_below" "Reader.read_below" (N 19 4) "pactroom.things" 280 149
abbrev k157:=kF "read_number" "Reader.read_number" (N 19 5) "pactroom.things" 280 156
abbrev k164:=kF "read_signs" "Reader.read_signs" (N 19 6) "pactroom.things" 280 163
abbrev k186:=kF "house" "Step.house" (N 23 0) "pactroom.steps" 408 185
abbrev k193:=kF "lock" "Step.lock" (N 23 1) "pactroom.steps" 408 192
abbrev k200:=kF "step_done" "Step.step_done" (N 23 2) "pactroom.steps" 408 199
abbrev k207:=kF "back" "Step.back" (N 23 3) "pactroom.steps" 408 206
abbrev k214:=kF "sure" "Step.sure" (N 23 4) "pactroom.steps" 408 213
abbrev k221:=kF "spelled" "Step.spelled" (N 23 5) "pactroom.steps" 408 220
abbrev k242:=kF "__init__" "CellStep.__init__" (N 24 0) "pactroom.steps" 408 241
abbrev k249:=kF "house" "CellStep.house" (N 24 1) "pactroom.steps" 408 248
abbrev k268:=kF "lock" "TakeStep.lock" (N 25 0) "pactroom.steps" 408 267
abbrev k275:=kF "step_done" "TakeStep.step_done" (N 25 1) "pactroom.steps" 408 274
abbrev k282:=kF "spelled" "TakeStep.spelled" (N 25 2) "pactroom.steps" 408 281
abbrev k301:=kF "lock" "MeanStep.lock" (N 26 0) "pactroom.steps" 408 300
abbrev k308:=kF "step_done" "MeanStep.step_done" (N 26 1) "pactroom.steps" 408 307
abbrev k315:=kF "spelled" "MeanStep.spelled" (N 26 2) "pactroom.steps" 408 314
abbrev k334:=kF "__init__" "SumStep.__init__" (N 27 0) "pactroom.steps" 408 333
abbrev k341:=kF "house" "SumStep.house" (N 27 1) "pactroom.steps" 408 340
abbrev k348:=kF "lock" "SumStep.lock" (N 27 2) "pactroom.steps" 408 347
abbrev k355:=kF "step_done" "SumStep.step_done" (N 27 3) "pactroom.steps" 408 354
abbrev k362:=kF "spelled" "SumStep.spelled" (N 27 4) "pactroom.steps" 408 361
abbrev k381:=kF "lock" "GiveStep.lock" (N 28 0) "pactroom.steps" 408 380
abbrev k388:=kF "step_done" "GiveStep.step_done" (N 28 1) "pactroom.steps" 408 387
abbrev k395:=kF "sure" "GiveStep.sure" (N 28 2) "pactroom.steps" 408 394
abbrev k402:=kF "spelled" "GiveStep.spelled" (N 28 3) "pactroom.steps" 408 401
abbrev k421:=kF "__init__" "AddStep.__init__" (N 29 0) "pactroom.steps" 408 420
abbrev k428:=kF "lock" "AddStep.lock" (N 29 1) "pactroom.steps" 408 427
abbrev k435:=kF "step_done" "AddStep.step_done" (N 29 2) "pactroom.steps" 408 434
abbrev k442:=kF "back" "AddStep.back" (N 29 3) "pactroom.steps" 408 441
abbrev k449:=kF "spelled" "AddStep.spelled" (N 29 4) "pactroom.steps" 408 448
abbrev k468:=kF "__init__" "PlusStep.__init__" (N 30 0) "pactroom.steps" 408 467
abbrev k475:=kF "step_done" "PlusStep.step_done" (N 30 1) "pactroom.steps" 408 474
abbrev k482:=kF "spelled" "PlusStep.spelled" (N 30 2) "pactroom.steps" 408 481
abbrev k501:=kF "__init__" "NeedStep.__init__" (N 31 0) "pactroom.steps" 408 500
abbrev k508:=kF "step_done" "NeedStep.step_done" (N 31 1) "pactroom.steps" 408 507
abbrev k515:=kF "spelled" "NeedStep.spelled" (N 31 2) "pactroom.steps" 408 514
abbrev k525:=kF "spell" "spell" (T 32) "pactroom.steps" 408 524
abbrev k530:=kF "read_step" "read_step" (T 33) "pactroom.steps" 408 529
abbrev k537:=kF "read_number" "read_number" (T 34) "pactroom.steps" 408 536
abbrev k544:=kF "made_step" "made_step" (T 35) "pactroom.steps" 408 543
abbrev k551:=kF "made_sum" "made_sum" (T 36) "pactroom.steps" 408 550
abbrev k566:=kF "__init__" "Pact.__init__" (N 40 0) "pactroom.pacts" 894 565
abbrev k571:=kF "spelled" "Pact.spelled" (N 40 1) "pactroom.pacts" 894 570
abbrev k583:=kF "read_pact" "read_pact" (T 41) "pactroom.pacts" 894 582
abbrev k590:=kF "read_part" "read_part" (T 42) "pactroom.pacts" 894 589
abbrev k597:=kF "_law_cell" "_law_cell" (T 44) "law_pactroom_k25_no_pact" 953 596
abbrev k604:=kF "_law_whole" "_law_whole" (T 45) "law_pactroom_k25_no_pact" 953 603
abbrev k611:=kF "_law_mixed" "_law_mixed" (T 46) "law_pactroom_k25_no_pact" 953 610
abbrev k618:=kF "_law_number" "_law_number" (T 47) "law_pactroom_k25_no_pact" 953 617
abbrev k625:=kF "_law_either" "_law_either" (T 48) "law_pactroom_k25_no_pact" 953 624
abbrev k632:=kF "_law_step" "_law_step" (T 49) "law_pactroom_k25_no_pact" 953 631
abbrev k637:=kF "_law_text" "_law_text" (T 50) "law_pactroom_k25_no_pact" 953 636
abbrev k644:=kF "_law_odds" "_law_odds" (T 51) "law_pactroom_k25_no_pact" 953 643
abbrev k651:=kF "_law_spoiled" "_law_spoiled" (T 52) "law_pactroom_k25_no_pact" 953 650
abbrev k658:=kF "_law_is_number" "_law_is_number" (T 53) "law_pactroom_k25_no_pact" 953 657
abbrev k665:=kF "_law_is_step" "_law_is_step" (T 54) "law_pactroom_k25_no_pact" 953 664
abbrev k672:=kF "_law_due" "_law_due" (T 55) "law_pactroom_k25_no_pact" 953 671
abbrev k679:=kF "_law_told" "_law_told" (T 56) "law_pactroom_k25_no_pact" 953 678
abbrev k686:=kF "_law_pact_right" "_law_pact_right" (T 57) "law_pactroom_k25_no_pact" 953 685
abbrev k693:=kF "_law_step_right" "_law_step_right" (T 58) "law_pactroom_k25_no_pact" 953 692
abbrev k698:=kF "law" "law" (T 59) "law_pactroom_k25_no_pact" 953 697
noncomputable def Kf : Params → Frag := fun P => (nat_lit 2, boot_o_2 P) :: (nat_lit 3, c2_3 P) :: (nat_lit 15, a11) :: (nat_lit 17, c0_17) :: (nat_lit 18, a11) :: (nat_lit 20, c0_20) :: (nat_lit 21, k21 P) :: (nat_lit 22, c0_22) :: (nat_lit 29, a11) :: (nat_lit 30, c0_30 P) :: (nat_lit 31, c0_31) :: (nat_lit 32, c0_32) :: (nat_lit 35, c0_35) :: (nat_lit 42, a11) :: (nat_lit 43, c0_43 P) :: (nat_lit 44, c0_44) :: (nat_lit 47, c0_35) :: (nat_lit 54, a11) :: (nat_lit 56, c0_56) :: (nat_lit 57, a11) :: (nat_lit 59, c0_59) :: (nat_lit 60, k60 P) :: (nat_lit 61, c0_61) :: (nat_lit 62, c0_62 P) :: (nat_lit 63, c0_63) :: (nat_lit 66, c0_35) :: (nat_lit 73, a11) :: (nat_lit 75, c0_75) :: (nat_lit 76, a11) :: (nat_lit 78, c0_78) :: (nat_lit 79, k79 P) :: (nat_lit 80, c0_80) :: (nat_lit 81, c0_81 P) :: (nat_lit 82, c0_82) :: (nat_lit 85, a11) :: (nat_lit 87, c0_87) :: (nat_lit 88, a11) :: (nat_lit 90, c0_90) :: (nat_lit 91, k91 P) :: (nat_lit 92, a11) :: (nat_lit 95, c0_95) :: (nat_lit 96, k96 P) :: (nat_lit 97, a11) :: (nat_lit 100, c0_100) :: (nat_lit 101, k101 P) :: (nat_lit 102, a11) :: (nat_lit 104, c0_104) :: (nat_lit 105, a11) :: (nat_lit 107, c0_107) :: (nat_lit 108, k108 P) :: (nat_lit 116, a11) :: (nat_lit 118, c0_118) :: (nat_lit 119, a11) :: (nat_lit 121, c0_121) :: (nat_lit 122, k122 P) :: (nat_lit 123, a11) :: (nat_lit 125, c0_125) :: (nat_lit 126, a11) :: (nat_lit 128, c0_128) :: (nat_lit 129, k129 P) :: (nat_lit 130, a11) :: (nat_lit 132, c0_132) :: (nat_lit 133, a11) :: (nat_lit 135, c0_135) :: (nat_lit 136, k136 P) :: (nat_lit 137, a11) :: (nat_lit 139, c0_139) :: (nat_lit 140, a11) :: (nat_lit 142, c0_142) :: (nat_lit 143, k143 P) :: (nat_lit 144, a11) :: (nat_lit 146, c0_146) :: (nat_lit 147, a11) :: (nat_lit 149, c0_149) :: (nat_lit 150, k150 P) :: (nat_lit 151, a11) :: (nat_lit 153, c0_153) :: (nat_lit 154, a11) :: (nat_lit 156, c0_156) :: (nat_lit 157, k157 P) :: (nat_lit 158, a11) :: (nat_lit 160, c0_160) :: (nat_lit 161, a11) :: (nat_lit 163, c0_163) :: (nat_lit 164, k164 P) :: (nat_lit 165, c0_165) :: (nat_lit 166, c0_166 P) :: (nat_lit 167, c0_167) :: (nat_lit 168, c0_168) :: (nat_lit 169, c0_169) :: (nat_lit 172, c0_172 P) :: (nat_lit 180, a11) :: (nat_lit 182, c0_182) :: (nat_lit 183, a11) :: (nat_lit 185, c0_185) :: (nat_lit 186, k186 P) :: (nat_lit 187, a11) :: (nat_lit 189, c0_189) :: (nat_lit 190, a11) :: (nat_lit 192, c0_192) :: (nat_lit 193, k193 P) :: (nat_lit 194, a11) :: (nat_lit 196, c0_196) :: (nat_lit 197, a11) :: (nat_lit 199, c0_199) :: (nat_lit 200, k200 P) :: (nat_lit 201, a11) :: (nat_lit 203, c0_203) :: (nat_lit 204, a11) :: (nat_lit 206, c0_206) :: (nat_lit 207, k207 P) :: (nat_lit 208, a11) :: (nat_lit 210, c0_210) :: (nat_lit 211, a11) :: (nat_lit 213, c0_213) :: (nat_lit 214, k214 P) :: (nat_lit 215, a11) :: (nat_lit 217, c0_217) :: (nat_lit 218, a11) :: (nat_lit 220, c0_220) :: (nat_lit 221, k221 P) :: (nat_lit 222, a11) :: (nat_lit 223, c0_223 P) :: (nat_lit 224, c2_224) :: (nat_lit 225, c0_225) :: (nat_lit 226, c0_226) :: (nat_lit 229, c1_229) :: (nat_lit 236, a11) :: (nat_lit 238, c1_238) :: (nat_lit 239, a11) :: (nat_lit 241, c1_241) :: (nat_lit 242, k242 P) :: (nat_lit 243, a11) :: (nat_lit 245, c1_245) :: (nat_lit 246, a11) :: (nat_lit 248, c1_248) :: (nat_lit 249, k249 P) :: (nat_lit 250, c1_250) :: (nat_lit 251, c1_251 P) :: (nat_lit 252, c1_252) :: (nat_lit 255, c1_255) :: (nat_lit 262, a11) :: (nat_lit 264, c1_264) :: (nat_lit 265, a11) :: (nat_lit 267, c1_267) :: (nat_lit 268, k268 P) :: (nat_lit 269, a11) :: (nat_lit 271, c1_271) :: (nat_lit 272, a11) :: (nat_lit 274, c1_274) :: (nat_lit 275, k275 P) :: (nat_lit 276, a11) :: (nat_lit 278, c1_278) :: (nat_lit 279, a11) :: (nat_lit 281, c1_281) :: (nat_lit 282, k282 P) :: (nat_lit 283, a11) :: (nat_lit 284, c1_284 P) :: (nat_lit 285, c1_285) :: (nat_lit 288, c1_255) :: (nat_lit 295, a11) :: (nat_lit 297, c1_297) :: (nat_lit 298, a11) :: (nat_lit 300, c1_300) :: (nat_lit 301, k301 P) :: (nat_lit 302, a11) :: (nat_lit 304, c1_304) :: (nat_lit 305, a11) :: (nat_lit 307, c1_307) :: (nat_lit 308, k308 P) :: (nat_lit 309, a11) :: (nat_lit 311, c1_311) :: (nat_lit 312, a11) :: (nat_lit 314, c1_314) :: (nat_lit 315, k315 P) :: (nat_lit 316, a11) :: (nat_lit 317, c1_317 P) :: (nat_lit 318, c1_318) :: (nat_lit 321, c1_229) :: (nat_lit 328, a11) :: (nat_lit 330, c1_330) :: (nat_lit 331, a11) :: (nat_lit 333, c1_333) :: (nat_lit 334, k334 P) :: (nat_lit 335, a11) :: (nat_lit 337, c1_337) :: (nat_lit 338, a11) :: (nat_lit 340, c1_340) :: (nat_lit 341, k341 P) :: (nat_lit 342, a11) :: (nat_lit 344, c1_344) :: (nat_lit 345, a11) :: (nat_lit 347, c1_347) :: (nat_lit 348, k348 P) :: (nat_lit 349, a11) :: (nat_lit 351, c1_351) :: (nat_lit 352, a11) :: (nat_lit 354, c1_354) :: (nat_lit 355, k355 P) :: (nat_lit 356, a11) :: (nat_lit 358, c1_358) :: (nat_lit 359, a11) :: (nat_lit 361, c1_361) :: (nat_lit 362, k362 P) :: (nat_lit 363, c1_363) :: (nat_lit 364, c1_364 P) :: (nat_lit 365, c1_365) :: (nat_lit 368, c1_255) :: (nat_lit 375, a11) :: (nat_lit 377, c1_377) :: (nat_lit 378, a11) :: (nat_lit 380, c1_380) :: (nat_lit 381, k381 P) :: (nat_lit 382, a11) :: (nat_lit 384, c1_384) :: (nat_lit 385, a11) :: (nat_lit 387, c1_387) :: (nat_lit 388, k388 P) :: (nat_lit 389, a11) :: (nat_lit 391, c1_391) :: (nat_lit 392, a11) :: (nat_lit 394, c1_394) :: (nat_lit 395, k395 P) :: (nat_lit 396, a11) :: (nat_lit 398, c1_398) :: (nat_lit 399, a11) :: (nat_lit 401, c1_401) :: (nat_lit 402, k402 P) :: (nat_lit 403, a11) :: (nat_lit 404, c1_404 P) :: (nat_lit 405, c1_405) :: (nat_lit 408, c1_255) :: (nat_lit 415, a11) :: (nat_lit 417, c1_417) :: (nat_lit 418, a11) :: (nat_lit 420, c1_420) :: (nat_lit 421, k421 P) :: (nat_lit 422, a11) :: (nat_lit 424, c1_424) :: (nat_lit 425, a11) :: (nat_lit 427, c1_427) :: (nat_lit 428, k428 P) :: (nat_lit 429, a11) :: (nat_lit 431, c1_431) :: (nat_lit 432, a11) :: (nat_lit 434, c1_434) :: (nat_lit 435, k435 P) :: (nat_lit 436, a11) :: (nat_lit 438, c1_438) :: (nat_lit 439, a11) :: (nat_lit 441, c1_441) :: (nat_lit 442, k442 P) :: (nat_lit 443, a11) :: (nat_lit 445, c1_445) :: (nat_lit 446, a11) :: (nat_lit 448, c1_448) :: (nat_lit 449, k449 P) :: (nat_lit 450, c1_450) :: (nat_lit 451, c1_451 P) :: (nat_lit 452, c1_452) :: (nat_lit 455, c1_229) :: (nat_lit 462, a11) :: (nat_lit 464, c2_464) :: (nat_lit 465, a11) :: (nat_lit 467, c2_467) :: (nat_lit 468, k468 P) :: (nat_lit 469, a11) :: (nat_lit 471, c2_471) :: (nat_lit 472, a11) :: (nat_lit 474, c2_474) :: (nat_lit 475, k475 P) :: (nat_lit 476, a11) :: (nat_lit 478, c2_478) :: (nat_lit 479, a11) :: (nat_lit 481, c2_481) :: (nat_lit 482, k482 P) :: (nat_lit 483, c2_483) :: (nat_lit 484, c2_484 P) :: (nat_lit 485, c2_485) :: (nat_lit 488, c1_229) :: (nat_lit 495, a11) :: (nat_lit 497, c2_497) :: (nat_lit 498, a11) :: (nat_lit 500, c2_500) :: (nat_lit 501, k501 P) :: (nat_lit 502, a11) :: (nat_lit 504, c2_504) :: (nat_lit 505, a11) :: (nat_lit 507, c2_507) :: (nat_lit 508, k508 P) :: (nat_lit 509, a11) :: (nat_lit 511, c2_511) :: (nat_lit 512, a11) :: (nat_lit 514, c2_514) :: (nat_lit 515, k515 P) :: (nat_lit 516, c2_516) :: (nat_lit 517, c2_517 P) :: (nat_lit 518, c2_518) :: (nat_lit 521, a11) :: (nat_lit 524, c2_524) :: (nat_lit 525, k525 P) :: (nat_lit 526, a11) :: (nat_lit 529, c2_529) :: (nat_lit 530, k530 P) :: (nat_lit 531, a11) :: (nat_lit 533, c2_533) :: (nat_lit 534, a11) :: (nat_lit 536, c2_536) :: (nat_lit 537, k537 P) :: (nat_lit 538, a11) :: (nat_lit 540, c2_540) :: (nat_lit 541, a11) :: (nat_lit 543, c2_543) :: (nat_lit 544, k544 P) :: (nat_lit 545, a11) :: (nat_lit 547, c2_547) :: (nat_lit 548, a11) :: (nat_lit 550, c2_550) :: (nat_lit 551, k551 P) :: (nat_lit 552, c2_552) :: (nat_lit 560, a11) :: (nat_lit 562, c2_562) :: (nat_lit 563, a11) :: (nat_lit 565, c2_565) :: (nat_lit 566, k566 P) :: (nat_lit 567, a11) :: (nat_lit 570, c2_570) :: (nat_lit 571, k571 P) :: (nat_lit 572, c2_572) :: (nat_lit 573, c2_573 P) :: (nat_lit 574, c2_574) :: (nat_lit 575, c2_575) :: (nat_lit 576, c2_576) :: (nat_lit 579, a11) :: (nat_lit 582, c2_582) :: (nat_lit 583, k583 P) :: (nat_lit 584, a11) :: (nat_lit 586, c2_586) :: (nat_lit 587, a11) :: (nat_lit 589, c2_589) :: (nat_lit 590, k590 P) :: (nat_lit 591, a11) :: (nat_lit 593, c2_593) :: (nat_lit 594, a11) :: (nat_lit 596, c2_596) :: (nat_lit 597, k597 P) :: (nat_lit 598, a11) :: (nat_lit 600, c2_600) :: (nat_lit 601, a11) :: (nat_lit 603, c2_603) :: (nat_lit 604, k604 P) :: (nat_lit 605, a11) :: (nat_lit 607, c2_607) :: (nat_lit 608, a11) :: (nat_lit 610, c2_610) :: (nat_lit 611, k611 P) :: (nat_lit 612, a11) :: (nat_lit 614, c2_614) :: (nat_lit 615, a11) :: (nat_lit 617, c2_617) :: (nat_lit 618, k618 P) :: (nat_lit 619, a11) :: (nat_lit 621, c2_621) :: (nat_lit 622, a11) :: (nat_lit 624, c2_624) :: (nat_lit 625, k625 P) :: (nat_lit 626, a11) :: (nat_lit 628, c2_628) :: (nat_lit 629, a11) :: (nat_lit 631, c2_631) :: (nat_lit 632, k632 P) :: (nat_lit 633, a11) :: (nat_lit 636, c2_636) :: (nat_lit 637, k637 P) :: (nat_lit 638, a11) :: (nat_lit 640, c2_640) :: (nat_lit 641, a11) :: (nat_lit 643, c2_643) :: (nat_lit 644, k644 P) :: (nat_lit 645, a11) :: (nat_lit 647, c2_647) :: (nat_lit 648, a11) :: (nat_lit 650, c2_650) :: (nat_lit 651, k651 P) :: (nat_lit 652, a11) :: (nat_lit 654, c2_654) :: (nat_lit 655, a11) :: (nat_lit 657, c2_657) :: (nat_lit 658, k658 P) :: (nat_lit 659, a11) :: (nat_lit 661, c2_661) :: (nat_lit 662, a11) :: (nat_lit 664, c2_664) :: (nat_lit 665, k665 P) :: (nat_lit 666, a11) :: (nat_lit 668, c2_668) :: (nat_lit 669, a11) :: (nat_lit 671, c2_671) :: (nat_lit 672, k672 P) :: (nat_lit 673, a11) :: (nat_lit 675, c2_675) :: (nat_lit 676, a11) :: (nat_lit 678, c2_678) :: (nat_lit 679, k679 P) :: (nat_lit 680, a11) :: (nat_lit 682, c2_682) :: (nat_lit 683, a11) :: (nat_lit 685, c2_685) :: (nat_lit 686, k686 P) :: (nat_lit 687, a11) :: (nat_lit 689, c2_689) :: (nat_lit 690, a11) :: (nat_lit 692, c2_692) :: (nat_lit 693, k693 P) :: (nat_lit 694, a11) :: (nat_lit 697, c2_697) :: (nat_lit 698, k698 P) :: []
noncomputable def Ka : List Addr := [2, 3, 15, 17, 18, 20, 21, 22, 29, 30, 31, 32, 35, 42, 43, 44, 47, 54, 56, 57, 59, 60, 61, 62, 63, 66, 73, 75, 76, 78, 79, 80, 81, 82, 85, 87, 88, 90, 91, 92, 95, 96, 97, 100, 101, 102, 104, 105, 107, 108, 116, 118, 119, 121, 122, 123, 125, 126, 128, 129, 130, 132, 133, 135, 136, 137, 139, 140, 142, 143, 144, 146, 147, 149, 150, 151, 153, 154, 156, 157, 158, 160, 161, 163, 164, 165, 166, 167, 168, 169, 172, 180, 182, 183, 185, 186, 187, 189, 190, 192, 193, 194, 196, 197, 199, 200, 201, 203, 204, 206, 207, 208, 210, 211, 213, 214, 215, 217, 218, 220, 221, 222, 223, 224, 225, 226, 229, 236, 238, 239, 241, 242, 243, 245, 246, 248, 249, 250, 251, 252, 255, 262, 264, 265, 267, 268, 269, 271, 272, 274, 275, 276, 278, 279, 281, 282, 283, 284, 285, 288, 295, 297, 298, 300, 301, 302, 304, 305, 307, 308, 309, 311, 312, 314, 315, 316, 317, 318, 321, 328, 330, 331, 333, 334, 335, 337, 338, 340, 341, 342, 344, 345, 347, 348, 349, 351, 352, 354, 355, 356, 358, 359, 361, 362, 363, 364, 365, 368, 375, 377, 378, 380, 381, 382, 384, 385, 387, 388, 389, 391, 392, 394, 395, 396, 398, 399, 401, 402, 403, 404, 405, 408, 415, 417, 418, 420, 421, 422, 424, 425, 427, 428, 429, 431, 432, 434, 435, 436, 438, 439, 441, 442, 443, 445, 446, 448, 449, 450, 451, 452, 455, 462, 464, 465, 467, 468, 469, 471, 472, 474, 475, 476, 478, 479, 481, 482, 483, 484, 485, 488, 495, 497, 498, 500, 501, 502, 504, 505, 507, 508, 509, 511, 512, 514, 515, 516, 517, 518, 521, 524, 525, 526, 529, 530, 531, 533, 534, 536, 537, 538, 540, 541, 543, 544, 545, 547, 548, 550, 551, 552, 560, 562, 563, 565, 566, 567, 570, 571, 572, 573, 574, 575, 576, 579, 582, 583, 584, 586, 587, 589, 590, 591, 593, 594, 596, 597, 598, 600, 601, 603, 604, 605, 607, 608, 610, 611, 612, 614, 615, 617, 618, 619, 621, 622, 624, 625, 626, 628, 629, 631, 632, 633, 636, 637, 638, 640, 641, 643, 644, 645, 647, 648, 650, 651, 652, 654, 655, 657, 658, 659, 661, 662, 664, 665, 666, 668, 669, 671, 672, 673, 675, 676, 678, 679, 680, 682, 683, 685, 686, 687, 689, 690, 692, 693, 694, 697, 698]
theorem ke (P : Params) : Ka = (Kf P).map (·.1) := by kernel_rfl
noncomputable abbrev HK : Hook := kHook Kf Ka ke
noncomputable abbrev R : RowW := PySem.Challenge.rw_pactroom_k25_no_pact.row.toRowW
noncomputable abbrev lo : List Str := [Str.ofString "SHAPES"]
noncomputable abbrev lvv : List (Str × WData) := []
noncomputable def qv : Program := { p0 with main := { p0.main with body := [T 0, T 2, T 3, T 4, T 5, T 7, T 8, T 9, T 10, T 11, T 12, T 13, T 14, T 15, T 16, T 17, T 18, T 19, T 21, T 22, T 23, T 24, T 25, T 26, T 27, T 28, T 29, T 30, T 31, T 32, T 33, T 34, T 35, T 36, T 38, T 39, T 40, T 41, T 42, T 44, T 45, T 46, T 47, T 48, T 49, T 50, T 51, T 52, T 53, T 54, T 55, T 56, T 57, T 58, T 59] } }
noncomputable abbrev Xt : Shared → Bool := fun s => xlAt qv lvv s && recOk (RowW.records R) s
theorem size_l (w : World) : ((boot_heap w.params).isNs mainGlobals && (A [] : Array GenState).size == 0, (boot_heap w.params).objs.size, (boot_heap w.params).nsMap mainGlobals "__annotations__") = (true, 11, (sr 6)) := by kernel_rfl
theorem look1 (w : World) (os : OsState) : (staticsOk (importedModules p0.main.body) (boot_heap w.params) (H1 w.params) && namesBound p0 (H1 w.params) && gensDone ⟨H1 w.params, Array.mk [], (@Drawn.mk 0 0 0 0), 1096, os⟩ && laidKept (boot_heap w.params) (H1 w.params)) = true := by kernel_rfl
theorem look2 (w : World) (os : OsState) : openSeen qv lo (importedModules p0.main.body) Xt true ⟨H1 w.params, Array.mk [], (@Drawn.mk 0 0 0 0), 1096, os⟩ = openGood qv lo := by kernel_rfl
theorem look3 (w : World) (os : OsState) : Hook.obs HK ⟨H1 w.params, Array.mk [], (@Drawn.mk 0 0 0 0), 1096, os⟩ = Hook.val HK w := by kernel_rfl
theorem left : LeftO p0 qv lo Xt (Hook.obs HK) (Hook.val HK) 11494 := LeftO.of_pieces (boot_open (by kernel_rfl) (by kernel_rfl) (fun s => by kernel_rfl)) size_l run_l (by decide) fun w => funext fun os => looks_pair (look1 w os) (looks_pair (look2 w os) (look3 w os))
end
end Q
end
set_option maxHeartbeats 4000000
open PySem PySem.W PyProof.Rows
set_option maxRecDepth 100000 in
set_option maxHeartbeats 0 in
theorem PySem.Challenge.cw_pactroom_k25_no_pact_holds : PySem.Challenge.rw_pactroom_k25_no_pact.Holds := by
  w_on; o_law
  refine holds_open (q := Q.qv) (loose := Q.lo) (Xt := Q.Xt) (XP := XL Q.qv Q.lvv) (Yf := Hook.obs (kHook Q.Kf Q.Ka Q.ke)) (Ya := Hook.val (kHook Q.Kf Q.Ka Q.ke)) (YP := Hook.says (kHook Q.Kf Q.Ka Q.ke)) (N := 11494) Q.left (Hook.of (kHook Q.Kf Q.Ka Q.ke)) (Hook.keeps (kHook Q.Kf Q.Ka Q.ke)) (fun s e => xl_of s (Bool.and_eq_true_iff.mp e).1) XL.keeps (by rfl) (by rfl) (by rfl) (fun s e => recFacts_of (Bool.and_eq_true_iff.mp e).2) (by rfl) (by first | assumption | decide +kernel) (by decide +kernel) ⟨rfl, rfl, rfl, rfl, rfl, by decide +kernel⟩ ?hw ?hc
  (case hw => w_witness2)
  k_fill
  refine K25.walk (l := PySem.Challenge.rw_pactroom_k25_no_pact) rfl rfl (fun w h Y => PySem.W.kIn_of Y) ?F
  case F =>
    intro w mg fa h KX G hmg
    refine' K25.all_mk KX G hmg ?_ ?_ ?_ ?_ ?_ ?_ ?_ ?_ ?_ ?_ ?_ ?_ ?_ ?_ ?_ ?_ ?_ ?_ ?_ ?_ ?_ ?_ ?_ ?_ ?_ ?_ ?_ ?_ ?_ ?_ ?_ ?_ ?_ ?_ ?_ ?_ ?_ ?_ ?_ ?_ ?_ ?_ ?_ ?_ ?_ ?_ ?_ ?_ ?_ ?_ ?_ ?_ ?_ ?_ ?_ ?_ ?_ ?_ ?_ ?_ ?_ ?_ ?_ ?_ ?_ ?_ ?_ ?_ ?_ ?_ ?_ ?_ ?_ ?_ ?_ ?_ ?_ ?_ ?_ ?_ ?_ ?_ ?_ ?_ ?_ ?_ ?_ ?_ ?_ ?_ ?_ ?_ ?_ ?_ ?_ ?_ ?_ ?_ ?_ ?_ ?_ ?_ ?_ ?_ ?_ ?_ ?_ ?_ ?_ ?_ ?_ ?_ ?_ ?_ ?_ ?_ ?_ ?_ ?_ ?_ ?_ ?_ ?_ ?_ ?_ ?_ ?_ ?_ ?_ ?_ ?_ ?_ ?_ ?_ ?_ ?_ ?_ ?_ ?_ ?_ ?_ ?_ ?_ ?_ ?_ ?_ ?_ ?_ ?_ ?_ ?_ ?_ ?_ ?_ ?_ ?_ ?_ ?_ ?_ ?_ ?_ ?_ ?_ ?_ ?_ ?_ ?_ ?_ ?_ ?_ ?_ ?_ ?_ ?_ ?_ ?_ ?_ ?_ ?_ ?_ ?_ ?_ ?_ ?_ ?_ ?_ ?_ ?_ ?_ ?_ ?_ ?_ ?_ ?_ ?_ ?_ ?_ ?_ ?_ ?_ ?_ ?_ ?_ ?_ ?_ ?_ ?_ ?_ ?_ ?_ ?_ ?_ ?_ ?_ ?_ ?_ ?_ ?_ ?_ ?_ ?_ ?_ ?_ ?_ ?_ ?_ ?_ ?_ ?_ ?_ ?_ ?_ ?_ ?_ ?_ ?_ ?_ ?_ ?_ ?_ ?_ ?_ ?_ ?_ ?_ ?_ ?_ ?_ ?_ ?_ ?_ ?_ ?_ ?_ ?_ ?_ ?_ ?_ ?_ ?_ ?_ ?_ ?_ ?_ ?_ ?_ ?_ ?_ ?_ ?_ ?_ ?_ ?_ ?_ ?_ ?_ ?_ ?_ ?_ ?_ ?_
    all_goals first | k_is | exact K25.fnx (by k_is) (by k_is) (by k_is) | kit_is | k_exc | kernel_rfl | skip
#print axioms PySem.Challenge.cw_pactroom_k25_no_pact_holds
